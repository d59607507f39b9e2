import Derived.Test.YtlahjooofjbfbaaDoorSgBase
import Derived.Test.YtlahjooofjbfbaaDoorGUni
/-
  What the document's own Same of blocks answers. Nothing that was there is written.
-/
namespace Go.Proofs.YtlahjooofjbfbaaDoor
open Go.RowKit WM
set_option linter.unusedVariables false
set_option maxRecDepth 100000
set_option maxHeartbeats 4000000 in
theorem rsame10_any (A B : Option Addr) (c d : Nat) (xs ys : List Sg) (w : World) (h1 : KSig.row w A c xs) (h2 : KSig.row w B d ys) (hl : xs.length ≤ 1000000) : Calls Tryd.prog 9 #[.slice A xs.length c, .slice B ys.length d] w fun e w' => e = .returned (.bool (decide (xs = ys))) ∧ Below w.heap.size w w' := by
  have HB := Lib.hid (Below.refl w.heap.size w)
  have H1 := Lib.hid h1
  have H2 := Lib.hid h2
  have HV := Lib.hid (show decide (xs = ys) = decide (xs.drop 0 = ys.drop 0) from rfl)
  have HNE : Hid (¬ xs.length = ys.length → decide (xs = ys) = false) := Lib.hid (fun hne => decide_eq_false (fun e => hne (by rw [e])))
  have hc1 := h1.1
  have hc2 := h2.1
  have hm1 := h1.2.1
  have hm2 := h2.2.1
  simp only [maxLen] at hm1 hm2
  generalize decide (xs = ys) = V at *
  clear h1 h2
  by_cases hl2 : xs.length = ys.length
  · clear HNE
    have R1 := Lib.hid (fun h => sig_row H1.out h)
    have R2 := Lib.hid (fun h => sig_row H2.out h)
    generalize hn1 : xs.length = n at *
    generalize hn2 : ys.length = n2 at *
    subst hl2
    have HL1 := Lib.hid hn1
    have HL2 := Lib.hid hn2
    clear hn1 hn2
    go_enter Tryd.func9, Tryd.ntmps9
    go_wp2
    go_loopw [5] (fun i wr => ∃ k : Nat, k ≤ n ∧ i = .int .i64 k ∧ Below w.heap.size w wr ∧ V = decide (xs.drop k = ys.drop k)) (fun i _ => n - (intOf i).toNat)
    case atStart => exact ⟨0, Nat.zero_le _, rfl, HB.out, HV.out⟩
    case round =>
      obtain ⟨k, hk, rfl, hb, hf⟩ := hrel
      have HBB := Lib.hid hb
      by_cases hlt : k < n
      · have t1 : (k : Int) < (n : Int) := by omega
        obtain ⟨b1, off1, hA1, hb1w, hx1, hi1⟩ := R1.out (by omega)
        obtain ⟨b2, off2, hA2, hb2w, hx2, hi2⟩ := R2.out (by omega)
        have IX1 := Lib.hid (hi1 k hlt k rfl)
        have IX2 := Lib.hid (hi2 k hlt k rfl)
        rw [← hA1] at IX1
        rw [← hA2] at IX2
        have Q1 := Lib.hid (hx1 k hlt)
        have Q2 := Lib.hid (hx2 k hlt)
        have X1 := Lib.hid (Kind.row_ok H1.out (i := k) (by rw [HL1.out]; exact hlt))
        have X2 := Lib.hid (Kind.row_ok H2.out (i := k) (by rw [HL2.out]; exact hlt))
        have B0 := Lib.hid hb
        have hdr := drop_same9 sg0 (xs := xs) (ys := ys) (k := k) (by rw [HL1.out]; exact hlt) (by rw [HL2.out]; exact hlt)
        change Hid (Sg.Ok (xs.getD k sg0)) at X1
        change Hid (Sg.Ok (ys.getD k sg0)) at X2
        have HQ := Lib.hid (show ∀ w9, (Op.equalIn 10000 30 (.agg (KSig.cs (xs.getD k sg0)).toArray) (.agg (KSig.cs (ys.getD k sg0)).toArray)).run Tryd.prog w9 = .ok (decide (xs.getD k sg0 = ys.getD k sg0)) w9 from fun w9 => eq_sig X1.out X2.out w9)
        generalize xs.getD k sg0 = x at *
        generalize ys.getD k sg0 = y at *
        clear hx1 hx2 hi1 hi2 hA1 hA2
        by_cases he : x = y
        · subst he
          have HF := Lib.hid (show V = decide (xs.drop (k + 1) = ys.drop (k + 1)) by rw [hf, decide_eq_decide, hdr]; simp)
          rw [show decide (x = x) = true by simp] at HQ
          clear hf hdr hb
          go_wp2_with fail
          refine wp_region_G _ (by kernel_rfl) ?_
          refine wpG_take (i := 0) (oi := ⟨some 17, _, _, _, _, _⟩) (v := ?_) rfl (by kernel_rfl) (by kernel_rfl) (by kernel_rfl) (Or.inl ⟨by rfl, unib_val ?_⟩) ?_; rotate_left; (focus (intro w9 hSw; go_simp; try with_reducible rfl)); simp only [Act.put, List.setIfInBounds_toArray, List.set_cons_zero, List.set_cons_succ]
          refine wpG_take (i := 1) (oi := ⟨some 18, _, _, _, _, _⟩) (v := ?_) rfl (by kernel_rfl) (by kernel_rfl) (by kernel_rfl) (Or.inl ⟨by rfl, unib_val ?_⟩) ?_; rotate_left; (focus (intro w9 hSw; go_simp; try with_reducible rfl)); simp only [Act.put, List.setIfInBounds_toArray, List.set_cons_zero, List.set_cons_succ]
          refine wpG_take (i := 2) (oi := ⟨some 19, _, _, _, _, _⟩) (v := ?_) rfl (by kernel_rfl) (by kernel_rfl) (by kernel_rfl) (Or.inl ⟨by rfl, unib_val ?_⟩) ?_; rotate_left; (focus (intro w9 hSw; have q0 := IX1.out w9; go_simp; try with_reducible rfl)); simp only [Act.put, List.setIfInBounds_toArray, List.set_cons_zero, List.set_cons_succ]
          refine wpG_take (i := 3) (oi := ⟨some 20, _, _, _, _, _⟩) (v := (.agg (KSig.cs x).toArray)) rfl (by kernel_rfl) (by kernel_rfl) (by kernel_rfl) (Or.inl ⟨by rfl, unib_val ?_⟩) ?_; (focus (intro w9 hSw; exact exec_load_at 30 _ rfl _ rfl (load_sigK Q1.out X1.out (B0.out.trans (hSw.mono B0.out.size)) hb1w))); simp only [Act.put, List.setIfInBounds_toArray, List.set_cons_zero, List.set_cons_succ]
          refine wpG_take (i := 4) (oi := ⟨some 21, _, _, _, _, _⟩) (v := ?_) rfl (by kernel_rfl) (by kernel_rfl) (by kernel_rfl) (Or.inl ⟨by rfl, unib_val ?_⟩) ?_; rotate_left; (focus (intro w9 hSw; go_simp; try with_reducible rfl)); simp only [Act.put, List.setIfInBounds_toArray, List.set_cons_zero, List.set_cons_succ]
          refine wpG_take (i := 5) (oi := ⟨some 22, _, _, _, _, _⟩) (v := ?_) rfl (by kernel_rfl) (by kernel_rfl) (by kernel_rfl) (Or.inl ⟨by rfl, unib_val ?_⟩) ?_; rotate_left; (focus (intro w9 hSw; go_simp; try with_reducible rfl)); simp only [Act.put, List.setIfInBounds_toArray, List.set_cons_zero, List.set_cons_succ]
          refine wpG_take (i := 6) (oi := ⟨some 23, _, _, _, _, _⟩) (v := ?_) rfl (by kernel_rfl) (by kernel_rfl) (by kernel_rfl) (Or.inl ⟨by rfl, unib_val ?_⟩) ?_; rotate_left; (focus (intro w9 hSw; have q0 := IX2.out w9; go_simp; try with_reducible rfl)); simp only [Act.put, List.setIfInBounds_toArray, List.set_cons_zero, List.set_cons_succ]
          refine wpG_take (i := 7) (oi := ⟨some 24, _, _, _, _, _⟩) (v := (.agg (KSig.cs x).toArray)) rfl (by kernel_rfl) (by kernel_rfl) (by kernel_rfl) (Or.inl ⟨by rfl, unib_val ?_⟩) ?_; (focus (intro w9 hSw; exact exec_load_at 30 _ rfl _ rfl (load_sigK Q2.out X2.out (B0.out.trans (hSw.mono B0.out.size)) hb2w))); simp only [Act.put, List.setIfInBounds_toArray, List.set_cons_zero, List.set_cons_succ]
          refine wpG_take (i := 8) (oi := ⟨some 25, _, _, _, _, _⟩) (v := (.bool false)) rfl (by kernel_rfl) (by kernel_rfl) (by kernel_rfl) (Or.inl ⟨by rfl, unib_val ?_⟩) ?_; (focus (intro w9 hSw; have q0 := HQ.out w9; exact exec_neq_at 30 _ _ _ rfl rfl rfl guardSig q0)); simp only [Act.put, List.setIfInBounds_toArray, List.set_cons_zero, List.set_cons_succ]
          refine wpG_done (by kernel_rfl) ?_ _
          intro w9 hSw _
          have B9 := Lib.hid (HBB.out.trans (hSw.mono HBB.out.size))
          clear hSw
          go_wp2
          go_roundw
          case rel => exact ⟨k + 1, by omega, by go_num, B9.out, HF.out⟩
          case measure => simp [intOf]; omega
        · have HF := Lib.hid (show V = false by rw [hf, decide_eq_false_iff_not, hdr]; simp [he])
          rw [decide_eq_false he] at HQ
          clear hf hdr hb
          go_wp2_with fail
          refine wp_region_G _ (by kernel_rfl) ?_
          refine wpG_take (i := 0) (oi := ⟨some 17, _, _, _, _, _⟩) (v := ?_) rfl (by kernel_rfl) (by kernel_rfl) (by kernel_rfl) (Or.inl ⟨by rfl, unib_val ?_⟩) ?_; rotate_left; (focus (intro w9 hSw; go_simp; try with_reducible rfl)); simp only [Act.put, List.setIfInBounds_toArray, List.set_cons_zero, List.set_cons_succ]
          refine wpG_take (i := 1) (oi := ⟨some 18, _, _, _, _, _⟩) (v := ?_) rfl (by kernel_rfl) (by kernel_rfl) (by kernel_rfl) (Or.inl ⟨by rfl, unib_val ?_⟩) ?_; rotate_left; (focus (intro w9 hSw; go_simp; try with_reducible rfl)); simp only [Act.put, List.setIfInBounds_toArray, List.set_cons_zero, List.set_cons_succ]
          refine wpG_take (i := 2) (oi := ⟨some 19, _, _, _, _, _⟩) (v := ?_) rfl (by kernel_rfl) (by kernel_rfl) (by kernel_rfl) (Or.inl ⟨by rfl, unib_val ?_⟩) ?_; rotate_left; (focus (intro w9 hSw; have q0 := IX1.out w9; go_simp; try with_reducible rfl)); simp only [Act.put, List.setIfInBounds_toArray, List.set_cons_zero, List.set_cons_succ]
          refine wpG_take (i := 3) (oi := ⟨some 20, _, _, _, _, _⟩) (v := (.agg (KSig.cs x).toArray)) rfl (by kernel_rfl) (by kernel_rfl) (by kernel_rfl) (Or.inl ⟨by rfl, unib_val ?_⟩) ?_; (focus (intro w9 hSw; exact exec_load_at 30 _ rfl _ rfl (load_sigK Q1.out X1.out (B0.out.trans (hSw.mono B0.out.size)) hb1w))); simp only [Act.put, List.setIfInBounds_toArray, List.set_cons_zero, List.set_cons_succ]
          refine wpG_take (i := 4) (oi := ⟨some 21, _, _, _, _, _⟩) (v := ?_) rfl (by kernel_rfl) (by kernel_rfl) (by kernel_rfl) (Or.inl ⟨by rfl, unib_val ?_⟩) ?_; rotate_left; (focus (intro w9 hSw; go_simp; try with_reducible rfl)); simp only [Act.put, List.setIfInBounds_toArray, List.set_cons_zero, List.set_cons_succ]
          refine wpG_take (i := 5) (oi := ⟨some 22, _, _, _, _, _⟩) (v := ?_) rfl (by kernel_rfl) (by kernel_rfl) (by kernel_rfl) (Or.inl ⟨by rfl, unib_val ?_⟩) ?_; rotate_left; (focus (intro w9 hSw; go_simp; try with_reducible rfl)); simp only [Act.put, List.setIfInBounds_toArray, List.set_cons_zero, List.set_cons_succ]
          refine wpG_take (i := 6) (oi := ⟨some 23, _, _, _, _, _⟩) (v := ?_) rfl (by kernel_rfl) (by kernel_rfl) (by kernel_rfl) (Or.inl ⟨by rfl, unib_val ?_⟩) ?_; rotate_left; (focus (intro w9 hSw; have q0 := IX2.out w9; go_simp; try with_reducible rfl)); simp only [Act.put, List.setIfInBounds_toArray, List.set_cons_zero, List.set_cons_succ]
          refine wpG_take (i := 7) (oi := ⟨some 24, _, _, _, _, _⟩) (v := (.agg (KSig.cs y).toArray)) rfl (by kernel_rfl) (by kernel_rfl) (by kernel_rfl) (Or.inl ⟨by rfl, unib_val ?_⟩) ?_; (focus (intro w9 hSw; exact exec_load_at 30 _ rfl _ rfl (load_sigK Q2.out X2.out (B0.out.trans (hSw.mono B0.out.size)) hb2w))); simp only [Act.put, List.setIfInBounds_toArray, List.set_cons_zero, List.set_cons_succ]
          refine wpG_take (i := 8) (oi := ⟨some 25, _, _, _, _, _⟩) (v := (.bool true)) rfl (by kernel_rfl) (by kernel_rfl) (by kernel_rfl) (Or.inl ⟨by rfl, unib_val ?_⟩) ?_; (focus (intro w9 hSw; have q0 := HQ.out w9; exact exec_neq_at 30 _ _ _ rfl rfl rfl guardSig q0)); simp only [Act.put, List.setIfInBounds_toArray, List.set_cons_zero, List.set_cons_succ]
          refine wpG_done (by kernel_rfl) ?_ _
          intro w9 hSw _
          have B9 := Lib.hid (HBB.out.trans (hSw.mono HBB.out.size))
          clear hSw
          go_wp2
          go_ret
          exact ⟨by rw [HF.out]; try rfl, B9.out⟩
      · obtain rfl : k = n := by omega
        have t1 : ¬ (k : Int) < (k : Int) := by omega
        rw [List.drop_eq_nil_of_le (by rw [HL1.out]; exact Nat.le_refl _), List.drop_eq_nil_of_le (by rw [HL2.out]; exact Nat.le_refl _), decide_eq_true rfl] at hf
        have HF := Lib.hid hf
        clear hf hb
        go_wp2
        go_ret
        exact ⟨by rw [HF.out]; try rfl, HBB.out⟩
  · have HF := Lib.hid (HNE.out hl2)
    have t1 : ¬ (xs.length : Int) = (ys.length : Int) := by omega
    go_enter Tryd.func9, Tryd.ntmps9
    go_wp2
    go_ret
    exact ⟨by rw [HF.out]; try rfl, HB.out⟩
end Go.Proofs.YtlahjooofjbfbaaDoor

