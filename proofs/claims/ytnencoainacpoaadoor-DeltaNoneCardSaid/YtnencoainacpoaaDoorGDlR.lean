import Derived.Test.YtnencoainacpoaaDoorDlBase
import Derived.Test.YtnencoainacpoaaDoorGUni
import Derived.Test.YtnencoainacpoaaDoorGRl
import Derived.Test.YtnencoainacpoaaDoorGDlM
import Derived.Test.YtnencoainacpoaaDoorGRd
import Derived.Test.YtnencoainacpoaaDoorGBase
section
/-
  What the document's own Same, May and Apply of pieces answer, and the laws' few. Nothing that was there is written.
-/
namespace Go.Proofs.YtnencoainacpoaaDoor
open Go.RowKit WM
set_option linter.unusedVariables false
set_option maxRecDepth 100000
set_option maxHeartbeats 4000000 in
theorem rsame11_any (A B : Option Addr) (c d : Nat) (xs ys : List Pc) (w : World) (h1 : KPc.row w A c xs) (h2 : KPc.row w B d ys) (hl : xs.length ≤ 1000000) : Calls Tryd.prog 15 #[.slice A xs.length c, .slice B ys.length d] w fun e w' => e = .returned (.bool (decide (xs = ys))) ∧ Below w.heap.size w w' := by
  have HB := Lib.hid (Below.refl w.heap.size w)
  have H1 := Lib.hid h1
  have H2 := Lib.hid h2
  have HV := Lib.hid (show decide (xs = ys) = decide (xs.drop 0 = ys.drop 0) from rfl)
  have HNE : Hid (¬ xs.length = ys.length → decide (xs = ys) = false) := Lib.hid (fun hne => decide_eq_false (fun e => hne (by rw [e])))
  have hc1 := h1.1
  have hc2 := h2.1
  have hm1 := h1.2.1
  have hm2 := h2.2.1
  simp only [maxLen] at hm1 hm2
  generalize decide (xs = ys) = V at *
  clear h1 h2
  by_cases hl2 : xs.length = ys.length
  · clear HNE
    have R1 := Lib.hid (fun h => pc_row H1.out h)
    have R2 := Lib.hid (fun h => pc_row H2.out h)
    generalize hn1 : xs.length = n at *
    generalize hn2 : ys.length = n2 at *
    subst hl2
    have HL1 := Lib.hid hn1
    have HL2 := Lib.hid hn2
    clear hn1 hn2
    go_enter Tryd.func15, Tryd.ntmps15
    go_wp2
    go_loopw [5] (fun i wr => ∃ k : Nat, k ≤ n ∧ i = .int .i64 k ∧ Below w.heap.size w wr ∧ V = decide (xs.drop k = ys.drop k)) (fun i _ => n - (intOf i).toNat)
    case atStart => exact ⟨0, Nat.zero_le _, rfl, HB.out, HV.out⟩
    case round =>
      obtain ⟨k, hk, rfl, hb, hf⟩ := hrel
      have HBB := Lib.hid hb
      by_cases hlt : k < n
      · have t1 : (k : Int) < (n : Int) := by omega
        obtain ⟨b1, off1, hA1, hb1w, hx1, hi1⟩ := R1.out (by omega)
        obtain ⟨b2, off2, hA2, hb2w, hx2, hi2⟩ := R2.out (by omega)
        have IX1 := Lib.hid (hi1 k hlt k rfl)
        have IX2 := Lib.hid (hi2 k hlt k rfl)
        rw [← hA1] at IX1
        rw [← hA2] at IX2
        have Q1 := Lib.hid (hx1 k hlt)
        have Q2 := Lib.hid (hx2 k hlt)
        have X1 := Lib.hid (Kind.row_ok H1.out (i := k) (by rw [HL1.out]; exact hlt))
        have X2 := Lib.hid (Kind.row_ok H2.out (i := k) (by rw [HL2.out]; exact hlt))
        have B0 := Lib.hid hb
        have hdr := drop_same9 pc0 (xs := xs) (ys := ys) (k := k) (by rw [HL1.out]; exact hlt) (by rw [HL2.out]; exact hlt)
        change Hid (Pc.Ok (xs.getD k pc0)) at X1
        change Hid (Pc.Ok (ys.getD k pc0)) at X2
        have HQ := Lib.hid (show ∀ w9, (Op.equalIn 10000 44 (.agg (KPc.cs (xs.getD k pc0)).toArray) (.agg (KPc.cs (ys.getD k pc0)).toArray)).run Tryd.prog w9 = .ok (decide (xs.getD k pc0 = ys.getD k pc0)) w9 from fun w9 => eq_pc X1.out X2.out w9)
        generalize xs.getD k pc0 = x at *
        generalize ys.getD k pc0 = y at *
        clear hx1 hx2 hi1 hi2 hA1 hA2
        by_cases he : x = y
        · subst he
          have HF := Lib.hid (show V = decide (xs.drop (k + 1) = ys.drop (k + 1)) by rw [hf, decide_eq_decide, hdr]; simp)
          rw [show decide (x = x) = true by simp] at HQ
          clear hf hdr hb
          go_wp2_with fail
          refine wp_region_G _ (by kernel_rfl) ?_
          refine wpG_take (i := 0) (oi := ⟨some 17, _, _, _, _, _⟩) (v := ?_) rfl (by kernel_rfl) (by kernel_rfl) (by kernel_rfl) (Or.inl ⟨by rfl, unib_val ?_⟩) ?_; rotate_left; (focus (intro w9 hSw; go_simp; try with_reducible rfl)); simp only [Act.put, List.setIfInBounds_toArray, List.set_cons_zero, List.set_cons_succ]
          refine wpG_take (i := 1) (oi := ⟨some 18, _, _, _, _, _⟩) (v := ?_) rfl (by kernel_rfl) (by kernel_rfl) (by kernel_rfl) (Or.inl ⟨by rfl, unib_val ?_⟩) ?_; rotate_left; (focus (intro w9 hSw; go_simp; try with_reducible rfl)); simp only [Act.put, List.setIfInBounds_toArray, List.set_cons_zero, List.set_cons_succ]
          refine wpG_take (i := 2) (oi := ⟨some 19, _, _, _, _, _⟩) (v := ?_) rfl (by kernel_rfl) (by kernel_rfl) (by kernel_rfl) (Or.inl ⟨by rfl, unib_val ?_⟩) ?_; rotate_left; (focus (intro w9 hSw; have q0 := IX1.out w9; go_simp; try with_reducible rfl)); simp only [Act.put, List.setIfInBounds_toArray, List.set_cons_zero, List.set_cons_succ]
          refine wpG_take (i := 3) (oi := ⟨some 20, _, _, _, _, _⟩) (v := (.agg (KPc.cs x).toArray)) rfl (by kernel_rfl) (by kernel_rfl) (by kernel_rfl) (Or.inl ⟨by rfl, unib_val ?_⟩) ?_; (focus (intro w9 hSw; exact exec_load_at 44 _ rfl _ rfl (load_pcK Q1.out X1.out (B0.out.trans (hSw.mono B0.out.size)) hb1w))); simp only [Act.put, List.setIfInBounds_toArray, List.set_cons_zero, List.set_cons_succ]
          refine wpG_take (i := 4) (oi := ⟨some 21, _, _, _, _, _⟩) (v := ?_) rfl (by kernel_rfl) (by kernel_rfl) (by kernel_rfl) (Or.inl ⟨by rfl, unib_val ?_⟩) ?_; rotate_left; (focus (intro w9 hSw; go_simp; try with_reducible rfl)); simp only [Act.put, List.setIfInBounds_toArray, List.set_cons_zero, List.set_cons_succ]
          refine wpG_take (i := 5) (oi := ⟨some 22, _, _, _, _, _⟩) (v := ?_) rfl (by kernel_rfl) (by kernel_rfl) (by kernel_rfl) (Or.inl ⟨by rfl, unib_val ?_⟩) ?_; rotate_left; (focus (intro w9 hSw; go_simp; try with_reducible rfl)); simp only [Act.put, List.setIfInBounds_toArray, List.set_cons_zero, List.set_cons_succ]
          refine wpG_take (i := 6) (oi := ⟨some 23, _, _, _, _, _⟩) (v := ?_) rfl (by kernel_rfl) (by kernel_rfl) (by kernel_rfl) (Or.inl ⟨by rfl, unib_val ?_⟩) ?_; rotate_left; (focus (intro w9 hSw; have q0 := IX2.out w9; go_simp; try with_reducible rfl)); simp only [Act.put, List.setIfInBounds_toArray, List.set_cons_zero, List.set_cons_succ]
          refine wpG_take (i := 7) (oi := ⟨some 24, _, _, _, _, _⟩) (v := (.agg (KPc.cs x).toArray)) rfl (by kernel_rfl) (by kernel_rfl) (by kernel_rfl) (Or.inl ⟨by rfl, unib_val ?_⟩) ?_; (focus (intro w9 hSw; exact exec_load_at 44 _ rfl _ rfl (load_pcK Q2.out X2.out (B0.out.trans (hSw.mono B0.out.size)) hb2w))); simp only [Act.put, List.setIfInBounds_toArray, List.set_cons_zero, List.set_cons_succ]
          refine wpG_take (i := 8) (oi := ⟨some 25, _, _, _, _, _⟩) (v := (.bool false)) rfl (by kernel_rfl) (by kernel_rfl) (by kernel_rfl) (Or.inl ⟨by rfl, unib_val ?_⟩) ?_; (focus (intro w9 hSw; have q0 := HQ.out w9; exact exec_neq_at 44 _ _ _ rfl rfl rfl guardPc q0)); simp only [Act.put, List.setIfInBounds_toArray, List.set_cons_zero, List.set_cons_succ]
          refine wpG_done (by kernel_rfl) ?_ _
          intro w9 hSw _
          have B9 := Lib.hid (HBB.out.trans (hSw.mono HBB.out.size))
          clear hSw
          go_wp2
          go_roundw
          case rel => exact ⟨k + 1, by omega, by go_num, B9.out, HF.out⟩
          case measure => simp [intOf]; omega
        · have HF := Lib.hid (show V = false by rw [hf, decide_eq_false_iff_not, hdr]; simp [he])
          rw [decide_eq_false he] at HQ
          clear hf hdr hb
          go_wp2_with fail
          refine wp_region_G _ (by kernel_rfl) ?_
          refine wpG_take (i := 0) (oi := ⟨some 17, _, _, _, _, _⟩) (v := ?_) rfl (by kernel_rfl) (by kernel_rfl) (by kernel_rfl) (Or.inl ⟨by rfl, unib_val ?_⟩) ?_; rotate_left; (focus (intro w9 hSw; go_simp; try with_reducible rfl)); simp only [Act.put, List.setIfInBounds_toArray, List.set_cons_zero, List.set_cons_succ]
          refine wpG_take (i := 1) (oi := ⟨some 18, _, _, _, _, _⟩) (v := ?_) rfl (by kernel_rfl) (by kernel_rfl) (by kernel_rfl) (Or.inl ⟨by rfl, unib_val ?_⟩) ?_; rotate_left; (focus (intro w9 hSw; go_simp; try with_reducible rfl)); simp only [Act.put, List.setIfInBounds_toArray, List.set_cons_zero, List.set_cons_succ]
          refine wpG_take (i := 2) (oi := ⟨some 19, _, _, _, _, _⟩) (v := ?_) rfl (by kernel_rfl) (by kernel_rfl) (by kernel_rfl) (Or.inl ⟨by rfl, unib_val ?_⟩) ?_; rotate_left; (focus (intro w9 hSw; have q0 := IX1.out w9; go_simp; try with_reducible rfl)); simp only [Act.put, List.setIfInBounds_toArray, List.set_cons_zero, List.set_cons_succ]
          refine wpG_take (i := 3) (oi := ⟨some 20, _, _, _, _, _⟩) (v := (.agg (KPc.cs x).toArray)) rfl (by kernel_rfl) (by kernel_rfl) (by kernel_rfl) (Or.inl ⟨by rfl, unib_val ?_⟩) ?_; (focus (intro w9 hSw; exact exec_load_at 44 _ rfl _ rfl (load_pcK Q1.out X1.out (B0.out.trans (hSw.mono B0.out.size)) hb1w))); simp only [Act.put, List.setIfInBounds_toArray, List.set_cons_zero, List.set_cons_succ]
          refine wpG_take (i := 4) (oi := ⟨some 21, _, _, _, _, _⟩) (v := ?_) rfl (by kernel_rfl) (by kernel_rfl) (by kernel_rfl) (Or.inl ⟨by rfl, unib_val ?_⟩) ?_; rotate_left; (focus (intro w9 hSw; go_simp; try with_reducible rfl)); simp only [Act.put, List.setIfInBounds_toArray, List.set_cons_zero, List.set_cons_succ]
          refine wpG_take (i := 5) (oi := ⟨some 22, _, _, _, _, _⟩) (v := ?_) rfl (by kernel_rfl) (by kernel_rfl) (by kernel_rfl) (Or.inl ⟨by rfl, unib_val ?_⟩) ?_; rotate_left; (focus (intro w9 hSw; go_simp; try with_reducible rfl)); simp only [Act.put, List.setIfInBounds_toArray, List.set_cons_zero, List.set_cons_succ]
          refine wpG_take (i := 6) (oi := ⟨some 23, _, _, _, _, _⟩) (v := ?_) rfl (by kernel_rfl) (by kernel_rfl) (by kernel_rfl) (Or.inl ⟨by rfl, unib_val ?_⟩) ?_; rotate_left; (focus (intro w9 hSw; have q0 := IX2.out w9; go_simp; try with_reducible rfl)); simp only [Act.put, List.setIfInBounds_toArray, List.set_cons_zero, List.set_cons_succ]
          refine wpG_take (i := 7) (oi := ⟨some 24, _, _, _, _, _⟩) (v := (.agg (KPc.cs y).toArray)) rfl (by kernel_rfl) (by kernel_rfl) (by kernel_rfl) (Or.inl ⟨by rfl, unib_val ?_⟩) ?_; (focus (intro w9 hSw; exact exec_load_at 44 _ rfl _ rfl (load_pcK Q2.out X2.out (B0.out.trans (hSw.mono B0.out.size)) hb2w))); simp only [Act.put, List.setIfInBounds_toArray, List.set_cons_zero, List.set_cons_succ]
          refine wpG_take (i := 8) (oi := ⟨some 25, _, _, _, _, _⟩) (v := (.bool true)) rfl (by kernel_rfl) (by kernel_rfl) (by kernel_rfl) (Or.inl ⟨by rfl, unib_val ?_⟩) ?_; (focus (intro w9 hSw; have q0 := HQ.out w9; exact exec_neq_at 44 _ _ _ rfl rfl rfl guardPc q0)); simp only [Act.put, List.setIfInBounds_toArray, List.set_cons_zero, List.set_cons_succ]
          refine wpG_done (by kernel_rfl) ?_ _
          intro w9 hSw _
          have B9 := Lib.hid (HBB.out.trans (hSw.mono HBB.out.size))
          clear hSw
          go_wp2
          go_ret
          exact ⟨by rw [HF.out]; try rfl, B9.out⟩
      · obtain rfl : k = n := by omega
        have t1 : ¬ (k : Int) < (k : Int) := by omega
        rw [List.drop_eq_nil_of_le (by rw [HL1.out]; exact Nat.le_refl _), List.drop_eq_nil_of_le (by rw [HL2.out]; exact Nat.le_refl _), decide_eq_true rfl] at hf
        have HF := Lib.hid hf
        clear hf hb
        go_wp2
        go_ret
        exact ⟨by rw [HF.out]; try rfl, HBB.out⟩
  · have HF := Lib.hid (HNE.out hl2)
    have t1 : ¬ (xs.length : Int) = (ys.length : Int) := by omega
    go_enter Tryd.func15, Tryd.ntmps15
    go_wp2
    go_ret
    exact ⟨by rw [HF.out]; try rfl, HB.out⟩
def pfew (l : List Pc) : Bool := decide (l.length ≤ 80) && l.all fun p => decide (p.lit.size ≤ 300)
theorem pfew_iff {l : List Pc} : pfew l = true ↔ l.length ≤ 80 ∧ ∀ p ∈ l, p.lit.size ≤ 300 := by simp [pfew]
set_option maxHeartbeats 4000000 in
theorem few11_any (A : Option Addr) (c : Nat) (l : List Pc) (w : World) (h1 : KPc.row w A c l) : Calls Tryd.prog 12 #[.slice A l.length c] w fun e w' => e = .returned (.bool (pfew l)) ∧ Below w.heap.size w w' := by
  have HB := Lib.hid (Below.refl w.heap.size w)
  have H1 := Lib.hid h1
  have R1 := Lib.hid (fun h => pc_row H1.out h)
  by_cases t1 : (80 : Int) < (l.length : Int)
  · have HV := Lib.hid (show pfew l = false by unfold pfew; rw [decide_eq_false (by omega)]; rfl)
    generalize l.length = n at *
    clear h1
    go_enter Tryd.func12, Tryd.ntmps12
    go_wp2
    go_ret
    exact ⟨by rw [HV.out]; try rfl, HB.out⟩
  have HV := Lib.hid (show pfew l = (l.drop 0).all fun p => decide (p.lit.size ≤ 300) by unfold pfew; rw [decide_eq_true (by omega)]; rfl)
  generalize pfew l = V at *
  generalize hn1 : l.length = n at *
  have HL1 := Lib.hid hn1
  clear h1 hn1
  go_enter Tryd.func12, Tryd.ntmps12
  go_wp2
  go_loopw [3] (fun i wr => ∃ k : Nat, k ≤ n ∧ i = .int .i64 k ∧ Below w.heap.size w wr ∧ V = (l.drop k).all fun p => decide (p.lit.size ≤ 300)) (fun i _ => n - (intOf i).toNat)
  case atStart => exact ⟨0, Nat.zero_le _, rfl, HB.out, HV.out⟩
  case round =>
    obtain ⟨k, hk, rfl, hb, hf⟩ := hrel
    have HBB := Lib.hid hb
    by_cases hlt : k < n
    · have t2 : (k : Int) < (n : Int) := by omega
      obtain ⟨b1, off1, hA1, hb1w, hx1, hi1⟩ := R1.out (by omega)
      have ix1 := hi1 k hlt k rfl
      rw [← hA1] at ix1
      obtain ⟨c0, c1, c2, c3⟩ := pc_cells (hx1 k hlt)
      have c0 := (hb.cell (p := ⟨b1, off1 + k * 4, none⟩) hb1w).trans c0
      have c1 := (hb.cell (p := ⟨b1, off1 + k * 4 + 1, none⟩) hb1w).trans c1
      have c2 := (hb.cell (p := ⟨b1, off1 + k * 4 + 2, none⟩) hb1w).trans c2
      have c3 := (hb.cell (p := ⟨b1, off1 + k * 4 + 3, none⟩) hb1w).trans c3
      rw [drop_cons9 pc0 (by rw [HL1.out]; exact hlt), List.all_cons] at hf
      generalize l.getD k pc0 = x at *
      generalize off1 + k * 4 = o at *
      clear hx1 hi1 hA1 hb c0 c1 c2
      by_cases t3 : (300 : Int) < (x.lit.size : Int)
      · rw [decide_eq_false (by omega)] at hf
        have HF := Lib.hid (show V = false from hf)
        clear hf
        go_wp2
        go_ret
        exact ⟨by rw [HF.out]; try rfl, HBB.out⟩
      · rw [decide_eq_true (by omega), Bool.true_and] at hf
        have HF := Lib.hid hf
        clear hf
        go_wp2
        go_roundw
        case rel => exact ⟨k + 1, by omega, by go_num, HBB.out, HF.out⟩
        case measure => simp [intOf]; omega
    · obtain rfl : k = n := by omega
      have t2 : ¬ (k : Int) < (k : Int) := by omega
      rw [List.drop_eq_nil_of_le (by rw [HL1.out]; exact Nat.le_refl _)] at hf
      have HF := Lib.hid (show V = true from hf)
      clear hf hb
      go_wp2
      go_ret
      exact ⟨by rw [HF.out]; try rfl, HBB.out⟩
theorem lit_empty (s : ByteArray) : s = ⟨#[]⟩ ↔ s.size = 0 := by
  constructor
  · rintro rfl; rfl
  · intro h
    obtain ⟨d⟩ := s
    congr 1
    exact Array.eq_empty_of_size_eq_zero h
theorem lit_list {s : ByteArray} (h : s.toList = []) : s = ⟨#[]⟩ := Go.toList_nil_iff_emptyBytes s |>.1 h
/-- What is looked at from a place on. -/
def pmayF (n : Nat) (all : Int) (l : List Pc) : Bool := l.all pcGood && (decide (n ≤ 60) && decide (all + pcAll l ≤ 200))
theorem pmayF_cons (n : Nat) (all : Int) (p : Pc) (l : List Pc) : pmayF n all (p :: l) = (pcGood p && pmayF n (all + pcSize p) l) := by
  unfold pmayF
  rw [List.all_cons, show all + pcAll (p :: l) = all + pcSize p + pcAll l by simp only [pcAll]; omega, Bool.and_assoc]
set_option maxHeartbeats 8000000 in
theorem rmay11_any (A : Option Addr) (c : Nat) (l : List Pc) (w : World) (h1 : KPc.row w A c l) (hl : l.length ≤ 10000000) : Calls Tryd.prog 18 #[.slice A l.length c] w fun e w' => e = .returned (.bool (pmay l)) ∧ Below w.heap.size w w' := by
  have HB := Lib.hid (Below.refl w.heap.size w)
  have H1 := Lib.hid h1
  have R1 := Lib.hid (fun h => pc_row H1.out h)
  have HV := Lib.hid (show pmay l = pmayF l.length 0 (l.drop 0) by unfold pmay pmayF; simp)
  generalize pmay l = V at *
  generalize hn1 : l.length = n at *
  have HL1 := Lib.hid hn1
  have hz := zeroPc
  rw [pc_v] at hz
  dsimp only [pc0] at hz
  clear h1 hn1
  go_enter Tryd.func18, Tryd.ntmps18
  go_wp2
  go_loopw [3, 4] (fun a i wr => ∃ (k : Nat) (all : Int), k ≤ n ∧ i = .int .i64 k ∧ a = .int .i64 all ∧ 0 ≤ all ∧ all ≤ 400 * k ∧ Below w.heap.size w wr ∧ V = pmayF n all (l.drop k)) (fun _ i _ => n - (intOf i).toNat)
  case atStart => exact ⟨0, 0, Nat.zero_le _, rfl, rfl, by omega, by omega, HB.out, HV.out⟩
  case round =>
    obtain ⟨k, all, hk, rfl, rfl, ha0, ha1, hb, hf⟩ := hrel
    have HBB := Lib.hid hb
    by_cases hlt : k < n
    · have t2 : (k : Int) < (n : Int) := by omega
      obtain ⟨b1, off1, hA1, hb1w, hx1, hi1⟩ := R1.out (by omega)
      have ix1 := hi1 k hlt k rfl
      rw [← hA1] at ix1
      obtain ⟨c0, c1, c2, c3⟩ := pc_cells (hx1 k hlt)
      have c0 := (hb.cell (p := ⟨b1, off1 + k * 4, none⟩) hb1w).trans c0
      have c1 := (hb.cell (p := ⟨b1, off1 + k * 4 + 1, none⟩) hb1w).trans c1
      have c2 := (hb.cell (p := ⟨b1, off1 + k * 4 + 2, none⟩) hb1w).trans c2
      have c3 := (hb.cell (p := ⟨b1, off1 + k * 4 + 3, none⟩) hb1w).trans c3
      rw [drop_cons9 pc0 (by rw [HL1.out]; exact hlt), pmayF_cons] at hf
      generalize l.getD k pc0 = x at *
      generalize off1 + k * 4 = o at *
      obtain ⟨cp, fr, ln, lit⟩ := x
      dsimp only at c0 c1 c2 c3
      have HN := Lib.hid (fun (X : World) (hX : Below w.heap.size w X) => hX.alloc hX.size (.cells #[.bool cp, .int .i64 fr, .int .i64 ln, .string lit] 44))
      have BN := Lib.hid (HN.out _ hb)
      have hle := lit_empty lit
      clear hx1 hi1 hA1 hb
      cases hg : pcGood ⟨cp, fr, ln, lit⟩
      · rw [hg, Bool.false_and] at hf
        have HF := Lib.hid hf
        cases cp
        · have hc : ¬ (fr = 0 ∧ ln = 0 ∧ 1 ≤ lit.size ∧ lit.size ≤ 200) := by simpa [pcGood] using hg
          have HC := Lib.hid hc
          clear hf hg hc
          go_wp2
          all_goals first | (go_ret; exact ⟨by rw [HF.out]; try rfl, HBB.out.alloc HBB.out.size _⟩) | (exfalso; have := HC.out; simp_all; omega)
        · have hc : ¬ (0 ≤ fr ∧ fr ≤ 200 ∧ 1 ≤ ln ∧ ln ≤ 200 ∧ lit = ⟨#[]⟩) := by rw [hle]; simpa [pcGood] using hg
          have HC := Lib.hid hc
          clear hf hg hc
          go_wp2
          all_goals first | (go_ret; exact ⟨by rw [HF.out]; try rfl, HBB.out.alloc HBB.out.size _⟩) | (exfalso; have h9 := HC.out; rename_i h8; have h7 := lit_list h8; exact h9 ⟨by assumption, by assumption, by assumption, by assumption, h7⟩)
      · rw [hg, Bool.true_and] at hf
        have HF := Lib.hid hf
        cases cp
        · have hc : fr = 0 ∧ ln = 0 ∧ 1 ≤ lit.size ∧ lit.size ≤ 200 := by simpa [pcGood] using hg
          obtain ⟨rfl, rfl, h3, h4⟩ := hc
          have i3 : 1 ≤ (lit.size : Int) := by omega
          have i4 : (lit.size : Int) ≤ 200 := by omega
          have f1 : IntKind.i64.wrap all = all := IntWalk.i64_in _ (by omega)
          have f2 : IntKind.i64.wrap (all + (lit.size : Int)) = all + (lit.size : Int) := IntWalk.i64_in _ (by omega)
          have hs : pcSize ⟨false, 0, 0, lit⟩ = (lit.size : Int) := by simp [pcSize]
          have HS := Lib.hid hs
          clear hf hg hs
          go_wp2
          go_roundw
          case rel => exact ⟨k + 1, all + (lit.size : Int), by omega, by go_num, by simp, by omega, by omega, BN.out, by have := HF.out; rw [HS.out] at this; exact this⟩
          case measure => simp [intOf]; omega
        · have hc : 0 ≤ fr ∧ fr ≤ 200 ∧ 1 ≤ ln ∧ ln ≤ 200 ∧ lit = ⟨#[]⟩ := by rw [hle]; simpa [pcGood] using hg
          obtain ⟨h1, h2, h3, h4, rfl⟩ := hc
          have i5 : ¬ ln = 0 := by omega
          by_cases h0 : fr = 0
          · subst h0
            have f1 : IntKind.i64.wrap (all + ln) = all + ln := IntWalk.i64_in _ (by omega)
            have HS := Lib.hid (show pcSize ⟨true, 0, ln, ⟨#[]⟩⟩ = ln by unfold pcSize; exact Int.add_zero _)
            clear hf hg
            go_wp2
            go_roundw
            case rel => exact ⟨k + 1, all + ln, by omega, by go_num, by simp, by omega, by omega, BN.out, by have := HF.out; rw [HS.out] at this; exact this⟩
            case measure => simp [intOf]; omega
          · skip
            have f1 : IntKind.i64.wrap (all + ln) = all + ln := IntWalk.i64_in _ (by omega)
            have HS := Lib.hid (show pcSize ⟨true, fr, ln, ⟨#[]⟩⟩ = ln by unfold pcSize; exact Int.add_zero _)
            clear hf hg
            go_wp2
            go_roundw
            case rel => exact ⟨k + 1, all + ln, by omega, by go_num, by simp, by omega, by omega, BN.out, by have := HF.out; rw [HS.out] at this; exact this⟩
            case measure => simp [intOf]; omega
    · obtain rfl : k = n := by omega
      have t2 : ¬ (k : Int) < (k : Int) := by omega
      rw [List.drop_eq_nil_of_le (by rw [HL1.out]; exact Nat.le_refl _)] at hf
      have HF := Lib.hid (show V = (decide (k ≤ 60) && decide (all ≤ 200)) by rw [hf]; simp [pmayF, pcAll])
      clear hf hb
      by_cases t3 : k ≤ 60
      · have t4 : (k : Int) ≤ 60 := by omega
        rw [decide_eq_true t3, Bool.true_and] at HF
        go_wp2
        go_ret
        exact ⟨by rw [HF.out]; try rfl, HBB.out⟩
      · have t4 : ¬ (k : Int) ≤ 60 := by omega
        rw [decide_eq_false t3, Bool.false_and] at HF
        go_wp2
        go_ret
        exact ⟨by rw [HF.out]; try rfl, HBB.out⟩
end Go.Proofs.YtnencoainacpoaaDoor

end
section
/-
  What the document's own Apply of pieces answers. Nothing that was there is written.
-/
namespace Go.Proofs.YtnencoainacpoaaDoor
open Go.RowKit WM
set_option linter.unusedVariables false
set_option maxRecDepth 100000
def apV (o : Option ByteArray) : Value := match o with | some s => .tuple #[.string s, .bool true] | none => .tuple #[.string ⟨#[]⟩, .bool false]
theorem ba_size_append (a b : ByteArray) : (a ++ b).size = a.size + b.size := ByteArray.size_append
set_option maxHeartbeats 8000000 in
theorem rapply11_any (base : ByteArray) (A : Option Addr) (c : Nat) (l : List Pc) (w : World) (h1 : KPc.row w A c l) (hl : l.length ≤ 10000000) (hb0 : base.size ≤ maxLen) : Calls Tryd.prog 14 #[.string base, .slice A l.length c] w fun e w' => e = .returned (apV (papply base l)) ∧ Below w.heap.size w w' := by
  have HB := Lib.hid (Below.refl w.heap.size w)
  have H1 := Lib.hid h1
  have HM := Lib.hid (rmay11_any A c l w h1 hl)
  have R1 := Lib.hid (fun h => pc_row H1.out h)
  simp only [maxLen] at hb0
  cases hm : pmay l
  · have HV := Lib.hid (show papply base l = none by unfold papply; rw [hm]; rfl)
    rw [hm] at HM
    generalize l.length = n at *
    clear h1 hm
    go_enter Tryd.func14, Tryd.ntmps14
    go_wp2_with fail
    refine HM.out.mono ?_
    rintro e w1 ⟨rfl, hb⟩
    have B1 := Lib.hid hb
    clear hb
    go_wp2
    refine bodyPost_ret (v := .tuple #[.string ⟨#[]⟩, .bool false]) (by simp [results, Tryd.results14]) rfl ⟨by rw [HV.out]; rfl, B1.out⟩
  have HV := Lib.hid (show papply base l = pap base (l.drop 0) ⟨#[]⟩ by unfold papply; rw [if_pos hm]; rfl)
  obtain ⟨hgood, hl60, _⟩ := pmay_iff.1 hm
  have HG := Lib.hid hgood
  rw [hm] at HM
  generalize papply base l = V at *
  generalize hn1 : l.length = n at *
  have HL1 := Lib.hid hn1
  have hz := zeroPc
  rw [pc_v] at hz
  dsimp only [pc0] at hz
  obtain ⟨N, hN⟩ : ∃ N, N = base.size := ⟨_, rfl⟩
  have hlen : base.size = N := hN.symm
  have HSZ := Lib.hid hlen
  clear h1 hn1 hm hgood hN
  go_enter Tryd.func14, Tryd.ntmps14
  go_wp2_with fail
  refine HM.out.mono ?_
  rintro e w1 ⟨rfl, hb⟩
  have B1 := Lib.hid hb
  clear hb
  go_wp2
  go_loopw [7, 8] (fun a i wr => ∃ (k : Nat) (acc : ByteArray), k ≤ n ∧ i = .int .i64 k ∧ a = .string acc ∧ acc.size ≤ 400 * k ∧ Below w.heap.size w wr ∧ V = pap base (l.drop k) acc) (fun _ i _ => n - (intOf i).toNat)
  case atStart => exact ⟨0, ⟨#[]⟩, Nat.zero_le _, rfl, rfl, Nat.le_refl _, B1.out, HV.out⟩
  case round =>
    obtain ⟨k, acc, hk, rfl, rfl, ha, hb, hf⟩ := hrel
    have HBB := Lib.hid hb
    by_cases hlt : k < n
    · have t2 : (k : Int) < (n : Int) := by omega
      obtain ⟨b1, off1, hA1, hb1w, hx1, hi1⟩ := R1.out (by omega)
      have ix1 := hi1 k hlt k rfl
      rw [← hA1] at ix1
      obtain ⟨c0, c1, c2, c3⟩ := pc_cells (hx1 k hlt)
      have c0 := (hb.cell (p := ⟨b1, off1 + k * 4, none⟩) hb1w).trans c0
      have c1 := (hb.cell (p := ⟨b1, off1 + k * 4 + 1, none⟩) hb1w).trans c1
      have c2 := (hb.cell (p := ⟨b1, off1 + k * 4 + 2, none⟩) hb1w).trans c2
      have c3 := (hb.cell (p := ⟨b1, off1 + k * 4 + 3, none⟩) hb1w).trans c3
      rw [drop_cons9 pc0 (by rw [HL1.out]; exact hlt)] at hf
      have hg := HG.out (l.getD k pc0) (by rw [List.getD_eq_getElem?_getD, List.getElem?_eq_getElem (by rw [HL1.out]; exact hlt)]; exact List.getElem_mem _)
      obtain ⟨s1, s2, s3, s4, s5, s6, s7⟩ := pcGood_size hg
      generalize l.getD k pc0 = x at *
      generalize off1 + k * 4 = o at *
      obtain ⟨cp, fr, ln, lit⟩ := x
      dsimp only at c0 c1 c2 c3 s1 s2 s3 s4 s5 s6 s7
      simp only [pap] at hf
      clear hx1 hi1 hA1 hb hg s1 s2
      cases cp
      · simp only [Bool.false_eq_true, if_false] at hf
        have HF := Lib.hid hf
        have HAS := Lib.hid (show (acc ++ lit).size ≤ 400 * (k + 1) by rw [ba_size_append]; omega)
        clear hf
        go_wp2
        go_roundw
        case rel => exact ⟨k + 1, acc ++ lit, by omega, by go_num, by simp, HAS.out, HBB.out.alloc HBB.out.size _, HF.out⟩
        case measure => simp [intOf]; omega
      · simp only [if_true] at hf
        have f1 : IntKind.i64.wrap (fr + ln) = fr + ln := IntWalk.i64_in _ (by omega)
        by_cases t3 : (N : Int) < fr + ln
        · rw [if_pos (by rw [HSZ.out]; exact t3)] at hf
          have HF := Lib.hid hf
          clear hf
          go_wp2
          refine bodyPost_ret (v := .tuple #[.string ⟨#[]⟩, .bool false]) (by simp [results, Tryd.results14]) rfl ⟨by rw [HF.out]; rfl, HBB.out.alloc HBB.out.size _⟩
        · rw [if_neg (by rw [HSZ.out]; exact t3)] at hf
          obtain ⟨f, rfl⟩ : ∃ f : Nat, fr = f := ⟨fr.toNat, by omega⟩
          obtain ⟨m, rfl⟩ : ∃ m : Nat, ln = m := ⟨ln.toNat, by omega⟩
          rw [show ((f : Int) + (m : Int)).toNat = f + m by omega, Int.toNat_natCast] at hf
          have hsl := sub_str base f (f + m) (by omega) (by rw [HSZ.out]; omega) (f : Int) ((f : Int) + (m : Int)) rfl (by omega)
          have HAS := Lib.hid (show (acc ++ base.extract f (f + m)).size ≤ 400 * (k + 1) by rw [ba_size_append, extract_size _ _ _ (by rw [HSZ.out]; omega)]; omega)
          have hpp : (base.extract f (f + m)).size = m := by rw [extract_size _ _ _ (by rw [HSZ.out]; omega)]; omega
          generalize base.extract f (f + m) = p at *
          have hap : ¬ 9223372036854775807 < acc.size + p.size := by omega
          have HF := Lib.hid hf
          clear hpp
          clear hf
          go_wp2
          go_roundw
          case rel => exact ⟨k + 1, acc ++ p, by omega, by go_num, by simp, HAS.out, HBB.out.alloc HBB.out.size _, HF.out⟩
          case measure => simp [intOf]; omega
    · obtain rfl : k = n := by omega
      have t2 : ¬ (k : Int) < (k : Int) := by omega
      rw [List.drop_eq_nil_of_le (by rw [HL1.out]; exact Nat.le_refl _)] at hf
      have HF := Lib.hid (show V = some acc from hf)
      clear hf hb
      go_wp2
      refine bodyPost_ret (v := .tuple #[.string acc, .bool true]) (by simp [results, Tryd.results14]) rfl ⟨by rw [HF.out]; rfl, HBB.out⟩
end Go.Proofs.YtnencoainacpoaaDoor

end
section
/-
  What the document's own Put of pieces answers. Nothing that was there is written.
-/
namespace Go.Proofs.YtnencoainacpoaaDoor
open Go.RowKit WM
set_option linter.unusedVariables false
set_option maxRecDepth 100000
def DPutPost (w : World) (l : List Pc) (e : Ending) (w' : World) : Prop := if pmay l then GivesT w (pputB l) e w' else e = .returned (.tuple #[.slice none 0 0, .bool false]) ∧ Below w.heap.size w w'
theorem byt_one11 (w : World) (c : Int) : Byt (w.alloc (.cells #[.int .u8 c] 5)) (w.alloc (.cells #[.int .u8 c] 5)).heap.size (some ⟨w.heap.size, 0, none⟩) [c] := fun _ => ⟨w.heap.size, 0, rfl, by rw [World.size_alloc]; omega, fun i hi => by
  obtain rfl : i = 0 := by simpa using hi
  have hh : (w.alloc (.cells #[.int .u8 c] 5)).heap[w.heap.size]? = some (.cells #[.int .u8 c] 5) := heap_alloc_new w _
  rw [cell_of_row _ _ _ _ _ _ hh]; rfl⟩
theorem own_none11 {w : World} {base n c : Nat} {A : Option Addr} {zs : List Int} (h : w.ownsRow base 5 1 (.slice A n c) n (zs.map (Value.int .u8))) : A = none → c = 0 := fun e => by
  subst e
  rcases h.2 with ⟨h1, _⟩ | ⟨g, cap, cur, h1, _⟩
  · simp only [Value.slice.injEq] at h1; exact h1.2.2
  · cases h1
theorem own_lower11 {w : World} {base base' size n : Nat} {e : TypeId} {v : Value} {xs : List Value} (h : w.ownsRow base' e size v n xs) (hb : base ≤ base') : w.ownsRow base e size v n xs := by
  refine ⟨h.1, ?_⟩
  rcases h.2 with h2 | ⟨g, cap, cur, h2, h3, h4⟩
  · exact .inl h2
  · exact .inr ⟨g, cap, cur, h2, Nat.le_trans hb h3, h4⟩
set_option maxHeartbeats 8000000 in
theorem rput11_any (A : Option Addr) (c : Nat) (l : List Pc) (w : World) (h1 : KPc.row w A c l) (hl : l.length ≤ 10000000) : Calls Tryd.prog 22 #[.slice A l.length c] w (DPutPost w l) := by
  have HB := Lib.hid (Below.refl w.heap.size w)
  have H1 := Lib.hid h1
  have HM := Lib.hid (rmay11_any A c l w h1 hl)
  have R1 := Lib.hid (fun h => pc_row H1.out h)
  cases hm : pmay l
  · have HV : Hid (∀ e w', e = .returned (.tuple #[.slice none 0 0, .bool false]) ∧ Below w.heap.size w w' → DPutPost w l e w') := Lib.hid (fun e w' h1 => by unfold DPutPost; rw [hm]; exact h1)
    rw [hm] at HM
    generalize DPutPost w l = RR at *
    generalize l.length = n at *
    clear h1 hm
    go_enter Tryd.func22, Tryd.ntmps22
    go_wp2_with fail
    refine HM.out.mono ?_
    rintro e w1 ⟨rfl, hb⟩
    have B1 := Lib.hid hb
    clear hb
    go_wp2
    first | exact HV.out _ _ ⟨rfl, B1.out⟩ | (go_ret2; exact HV.out _ _ ⟨rfl, B1.out⟩)
  obtain ⟨hgood, hl60, _⟩ := pmay_iff.1 hm
  have HV : Hid (∀ v m (zs : List Int) w', zs = pputB l → w'.ownsRow w.heap.size 5 1 v m (zs.map (Value.int .u8)) → Below w.heap.size w w' → DPutPost w l (.returned (.tuple #[v, .bool true])) w') := Lib.hid (fun v m zs w' h0 h1 h2 => by unfold DPutPost; rw [if_pos hm, ← h0]; exact givesT_own h1 h2)
  have HG := Lib.hid hgood
  have HE := Lib.hid (show pputB l = enc l.length ++ l.flatMap pcB from rfl)
  rw [hm] at HM
  generalize DPutPost w l = RR at *
  generalize pputB l = V at *
  generalize hn1 : l.length = n at *
  have HL1 := Lib.hid hn1
  obtain ⟨i0, hi, hz0, hz1, hz2⟩ := info_parts infoByte
  have HP0 := Lib.hid (fun X => rput_any (n : Int) X (by omega) (by omega))
  have hel := enc_len (n : Int)
  have hcv : IntKind.u64.wrap (n : Int) = n := by simp [IntKind.wrap, IntKind.bits, IntKind.signed]; omega
  generalize enc (n : Int) = E0 at *
  clear h1 hn1 hm hgood
  go_enter Tryd.func22, Tryd.ntmps22
  go_wp2_with fail
  refine HM.out.mono ?_
  rintro e w1 ⟨rfl, hb⟩
  have B1 := Lib.hid hb
  clear hb
  go_wp2_with fail
  refine (HP0.out _).mono ?_
  rintro e w2 ⟨A2, n2, c2, rfl, hn2, hnc2, hcm2, ho2, hb2⟩
  have B2 := Lib.hid (B1.out.trans (hb2.mono B1.out.size))
  have O2 := Lib.hid (show w2.ownsRow w.heap.size 5 1 (.slice A2 n2 c2) n2 ((E0 ++ (l.take 0).flatMap pcB).map (Value.int .u8)) by rw [List.take_zero, List.flatMap_nil, List.append_nil]; exact own_lower11 ho2 B1.out.size)
  have HN2 := Lib.hid (show n2 ≤ 10 by omega)
  clear hn2 hnc2 hcm2 ho2 hb2
  go_wp2
  go_loopw [5, 6] (fun v i wr => ∃ k m : Nat, k ≤ n ∧ i = .int .i64 k ∧ m ≤ 10 + 300 * k ∧ wr.ownsRow w.heap.size 5 1 v m ((E0 ++ (l.take k).flatMap pcB).map (Value.int .u8)) ∧ Below w.heap.size w wr) (fun _ i _ => n - (intOf i).toNat)
  case atStart => exact ⟨0, n2, Nat.zero_le _, rfl, HN2.out, O2.out, B2.out⟩
  case round =>
    obtain ⟨k, m, hk, rfl, hm, ho, hb⟩ := hrel
    by_cases hlt : k < n
    · have t2 : (k : Int) < (n : Int) := by omega
      obtain ⟨b1, off1, hA1, hb1w, hx1, hi1⟩ := R1.out (by omega)
      have ix1 := hi1 k hlt k rfl
      rw [← hA1] at ix1
      obtain ⟨c0, c1, c2, c3⟩ := pc_cells (hx1 k hlt)
      have c0 := (hb.cell (p := ⟨b1, off1 + k * 4, none⟩) hb1w).trans c0
      have c1 := (hb.cell (p := ⟨b1, off1 + k * 4 + 1, none⟩) hb1w).trans c1
      have c2 := (hb.cell (p := ⟨b1, off1 + k * 4 + 2, none⟩) hb1w).trans c2
      have c3 := (hb.cell (p := ⟨b1, off1 + k * 4 + 3, none⟩) hb1w).trans c3
      obtain ⟨_, z1, z2, z3⟩ := pc_cells (hx1 k hlt)
      have hg := HG.out (l.getD k pc0) (by rw [List.getD_eq_getElem?_getD, List.getElem?_eq_getElem (by rw [HL1.out]; exact hlt)]; exact List.getElem_mem _)
      obtain ⟨s1, s2, s3, s4, s5, s6, s7⟩ := pcGood_size hg
      have HTK := Lib.hid (show (l.take (k + 1)).flatMap pcB = (l.take k).flatMap pcB ++ pcB (l.getD k pc0) by
        rw [List.take_succ_eq_append_getElem (by rw [HL1.out]; exact hlt), List.flatMap_append, List.flatMap_singleton, List.getD_eq_getElem?_getD, List.getElem?_eq_getElem (by rw [HL1.out]; exact hlt)]
        rfl)
      generalize l.getD k pc0 = x at *
      generalize (l.take k).flatMap pcB = Q at *
      generalize hP : E0 ++ Q = P at *
      have HPE := Lib.hid hP
      generalize off1 + k * 4 = o at *
      obtain ⟨cp, fr, ln, lit⟩ := x
      dsimp only at c0 c1 c2 c3 s1 s2 s3 s4 s5 s6 s7 z1 z2 z3
      have Z1 := Lib.hid z1
      have Z2 := Lib.hid z2
      have Z3 := Lib.hid z3
      have HBW := Lib.hid hb1w
      have hmb : m ≤ 18010 := by omega
      clear hx1 hi1 hA1 hg s1 s2 hP c1 c2 c3 z1 z2 z3 hb1w
      cases cp
      · have hl3 := enc_len lit.size
        have HT := Lib.hid (fun X => rtext_gives lit X (by omega))
        have htl : (txt lit).length ≤ 210 := by unfold txt; rw [List.length_append, nums_len]; omega
        have HPB := Lib.hid (show pcB ⟨false, fr, ln, lit⟩ = [0] ++ txt lit from rfl)
        generalize txt lit = Tx at *
        have O3 := Lib.hid (ho.alloc (.cells #[.int .u8 0] 5))
        have B3 := Lib.hid (hb.alloc hb.size (.cells #[.int .u8 0] 5))
        have Y3 := Lib.hid (byt_one11 wr 0)
        clear ho hb
        go_wp2_with (at_builtin; refine wpList_append_byt _ rfl (.tmp 47) (.tmp 48) 31 rfl w.heap.size 5 i0 Tryd.underlying31 hi hz0 hz1 hz2 _ m P rfl O3.out _ (some ⟨wr.heap.size, 0, none⟩) 1 1 [0] rfl Y3.out rfl (fun h => by cases h) (by omega) B3.out.size ?_; intro v4 w4 ho4 hg4; have O4 := Lib.hid ho4; have B4 := Lib.hid (B3.out.grown hg4 B3.out.size (fun g hg => own_base O3.out hg)); clear ho4 hg4; have c3 := (B4.out.cell (p := ⟨b1, o + 3, none⟩) HBW.out).trans Z3.out)
        refine (HT.out _).mono ?_
        rintro e w5 ⟨A5, n5, c5, rfl, hn5, hnc5, hcm5, ho5, hb5⟩
        have B5 := Lib.hid (B4.out.trans (hb5.mono B4.out.size))
        have O5 := Lib.hid (own_below O4.out hb5)
        have Y5 := Lib.hid (Byt.own ho5)
        have ZN5 := Lib.hid (own_none11 ho5)
        have HN5 := Lib.hid hn5
        clear ho5 hb5 hcm5 hnc5
        clear c3
        have hn5 := HN5.out
        go_wp2_with (at_builtin; refine wpList_append_byt _ rfl (.tmp 50) (.tmp 56) 31 rfl w.heap.size 5 i0 Tryd.underlying31 hi hz0 hz1 hz2 _ (m + 1) (P ++ [0]) rfl O5.out _ A5 n5 c5 Tx rfl Y5.out HN5.out ZN5.out (by omega) B5.out.size ?_; intro v6 w6 ho6 hg6; have O6 := Lib.hid ho6; have B6 := Lib.hid (B5.out.grown hg6 B5.out.size (fun g hg => own_base O5.out hg)); clear ho6 hg6)
        go_roundw
        case rel => exact ⟨k + 1, m + 1 + n5, by omega, by go_num, by omega, by rw [HTK.out, HPB.out, ← List.append_assoc, ← List.append_assoc, HPE.out]; exact O6.out, B6.out⟩
        case measure => simp [intOf]; omega
      · obtain ⟨f, rfl⟩ : ∃ f : Nat, fr = f := ⟨fr.toNat, by omega⟩
        obtain ⟨q, rfl⟩ : ∃ q : Nat, ln = q := ⟨ln.toNat, by omega⟩
        have HP1 := Lib.hid (fun X => rput_any (f : Int) X (by omega) (by omega))
        have HP2 := Lib.hid (fun X => rput_any (q : Int) X (by omega) (by omega))
        have e1 := enc_len (f : Int)
        have e2 := enc_len (q : Int)
        have cv1 : IntKind.u64.wrap (f : Int) = f := by simp [IntKind.wrap, IntKind.bits, IntKind.signed]; omega
        have cv2 : IntKind.u64.wrap (q : Int) = q := by simp [IntKind.wrap, IntKind.bits, IntKind.signed]; omega
        have HPB := Lib.hid (show pcB ⟨true, (f : Int), (q : Int), lit⟩ = [1] ++ enc f ++ enc q from rfl)
        generalize enc (f : Int) = E1 at *
        generalize enc (q : Int) = E2 at *
        have O3 := Lib.hid (ho.alloc (.cells #[.int .u8 1] 5))
        have B3 := Lib.hid (hb.alloc hb.size (.cells #[.int .u8 1] 5))
        have Y3 := Lib.hid (byt_one11 wr 1)
        clear ho hb
        go_wp2_with (at_builtin; refine wpList_append_byt _ rfl (.tmp 26) (.tmp 27) 31 rfl w.heap.size 5 i0 Tryd.underlying31 hi hz0 hz1 hz2 _ m P rfl O3.out _ (some ⟨wr.heap.size, 0, none⟩) 1 1 [1] rfl Y3.out rfl (fun h => by cases h) (by omega) B3.out.size ?_; intro v4 w4 ho4 hg4; have O4 := Lib.hid ho4; have B4 := Lib.hid (B3.out.grown hg4 B3.out.size (fun g hg => own_base O3.out hg)); clear ho4 hg4; have c1 := (B4.out.cell (p := ⟨b1, o + 1, none⟩) HBW.out).trans Z1.out)
        refine (HP1.out _).mono ?_
        rintro e w5 ⟨A5, n5, c5, rfl, hn5, hnc5, hcm5, ho5, hb5⟩
        have B5 := Lib.hid (B4.out.trans (hb5.mono B4.out.size))
        have O5 := Lib.hid (own_below O4.out hb5)
        have Y5 := Lib.hid (Byt.own ho5)
        have ZN5 := Lib.hid (own_none11 ho5)
        have HN5 := Lib.hid hn5
        clear ho5 hb5 hcm5 hnc5
        clear c1
        have hn5 := HN5.out
        go_wp2_with (at_builtin; refine wpList_append_byt _ rfl (.tmp 29) (.tmp 36) 31 rfl w.heap.size 5 i0 Tryd.underlying31 hi hz0 hz1 hz2 _ (m + 1) (P ++ [1]) rfl O5.out _ A5 n5 c5 E1 rfl Y5.out HN5.out ZN5.out (by omega) B5.out.size ?_; intro v6 w6 ho6 hg6; have O6 := Lib.hid ho6; have B6 := Lib.hid (B5.out.grown hg6 B5.out.size (fun g hg => own_base O5.out hg)); clear ho6 hg6; have c2 := (B6.out.cell (p := ⟨b1, o + 2, none⟩) HBW.out).trans Z2.out)
        refine (HP2.out _).mono ?_
        rintro e w7 ⟨A7, n7, c7, rfl, hn7, hnc7, hcm7, ho7, hb7⟩
        have B7 := Lib.hid (B6.out.trans (hb7.mono B6.out.size))
        have O7 := Lib.hid (own_below O6.out hb7)
        have Y7 := Lib.hid (Byt.own ho7)
        have ZN7 := Lib.hid (own_none11 ho7)
        have HN7 := Lib.hid hn7
        clear ho7 hb7 hcm7 hnc7
        clear c2
        have hn7 := HN7.out
        go_wp2_with (at_builtin; refine wpList_append_byt _ rfl (.tmp 38) (.tmp 45) 31 rfl w.heap.size 5 i0 Tryd.underlying31 hi hz0 hz1 hz2 _ (m + 1 + n5) (P ++ [1] ++ E1) rfl O7.out _ A7 n7 c7 E2 rfl Y7.out HN7.out ZN7.out (by omega) B7.out.size ?_; intro v8 w8 ho8 hg8; have O8 := Lib.hid ho8; have B8 := Lib.hid (B7.out.grown hg8 B7.out.size (fun g hg => own_base O7.out hg)); clear ho8 hg8)
        go_roundw
        case rel => exact ⟨k + 1, m + 1 + n5 + n7, by omega, by go_num, by omega, by rw [HTK.out, HPB.out, ← List.append_assoc, ← List.append_assoc, ← List.append_assoc, HPE.out]; exact O8.out, B8.out⟩
        case measure => simp [intOf]; omega
    · obtain rfl : k = n := by omega
      have t2 : ¬ (k : Int) < (k : Int) := by omega
      have hT : l.take k = l := List.take_of_length_le (by rw [HL1.out]; exact Nat.le_refl _)
      rw [hT, ← HE.out] at ho
      have HO := Lib.hid ho
      have HBB := Lib.hid hb
      clear ho hb hT
      go_wp2
      first | exact HV.out _ _ _ _ rfl HO.out HBB.out | (go_ret2; exact HV.out _ _ _ _ rfl HO.out HBB.out)
end Go.Proofs.YtnencoainacpoaaDoor

end
section
/-
  What the document's own Get of pieces answers. Nothing that was there is written.
-/
namespace Go.Proofs.YtnencoainacpoaaDoor
open Go.RowKit WM
set_option linter.unusedVariables false
set_option maxRecDepth 100000
def DGetPost (w : World) (o : Option (List Pc × Nat)) (e : Ending) (w' : World) : Prop := match o with
  | none => e = .returned (.tuple #[.slice none 0 0, .int .i64 0, .bool false]) ∧ Below w.heap.size w w'
  | some (l, a) => ∃ A c, e = .returned (.tuple #[.slice A l.length c, .int .i64 a, .bool true]) ∧ KPc.row w' A c l ∧ Below w.heap.size w w'
theorem blk_pc {w : World} {g : Nat} {p q : Pc} {i : Nat} {u : Value} (h : KPc.blk 44 w g p) (hq : (KPc.cs p).set i u = KPc.cs q) : KPc.blk 44 (w.setCell ⟨g, i, none⟩ u) g q ∧ w.frozen? ⟨g, i, none⟩ = false := by
  refine ⟨?_, frozen_of_row _ _ _ _ _ h⟩
  have h1 := heap_setCell_same w g i _ _ u h
  unfold Kind.blk
  rw [h1, ← hq]
  simp
theorem build_bit (b : Bool) (w : World) : (Instr.build 44 #[(0, .bool b)]).run Tryd.prog w = .ok (KPc.v ⟨b, 0, 0, ⟨#[]⟩⟩) w := run_build w _ _ _ (by kernel_rfl)
theorem wf64_small {n : Int} (h0 : 0 ≤ n) (h1 : n ≤ 1000000) : (Lit.int .i64 n).wf = true := by
  simp [Lit.wf, IntKind.min, IntKind.max, IntKind.bits, IntKind.signed]
  omega
set_option maxHeartbeats 16000000 in
theorem rget11_any (A : Option Addr) (len cap : Nat) (zs : List Int) (w : World) (h : Byt w w.heap.size A zs) (hl : zs.length = len) (hb : AllBytes zs) (hlc : len ≤ cap) (hm : cap ≤ maxLen) (hlen : len ≤ 1000000) : Calls Tryd.prog 24 #[.slice A len cap] w (DGetPost w (pget zs)) := by
  have HB := Lib.hid (Below.refl w.heap.size w)
  have HBY := Lib.hid h
  have HZB := Lib.hid hb
  have HL := Lib.hid hl
  have HCM := Lib.hid hm
  simp only [maxLen] at hm
  have HN : Hid (∀ w', pget zs = none → Below w.heap.size w w' → DGetPost w (pget zs) (.returned (.tuple #[.slice none 0 0, .int .i64 0, .bool false])) w') := Lib.hid (fun w' h1 h2 => by rw [h1]; exact ⟨rfl, h2⟩)
  have HS : Hid (∀ l a A' c' w', pget zs = some (l, a) → KPc.row w' A' c' l → Below w.heap.size w w' → DGetPost w (pget zs) (.returned (.tuple #[.slice A' l.length c', .int .i64 a, .bool true])) w') := Lib.hid (fun l a A' c' w' h1 h2 h3 => by rw [h1]; exact ⟨A', c', rfl, h2, h3⟩)
  obtain ⟨ad, had⟩ : ∃ ad : Nat → Option Addr, ∀ a, ad a = if cap = a then A else A.map (·.add a) := ⟨_, fun _ => rfl⟩
  have HG : Hid (∀ (a : Nat), a ≤ len → ∀ (X : World), Below w.heap.size w X → Calls Tryd.prog 42 #[.slice (ad a) (len - a) (cap - a)] X fun e w' => e = .returned (getV (dec (zs.drop a))) ∧ Below X.heap.size X w') := Lib.hid (fun a ha X hX => by
    rw [had]
    exact rget_any (B := w.heap.size) (if cap = a then A else A.map (·.add a)) (len - a) (cap - a) (zs.drop a) X ((h.below hX).drop (by rw [hl]; exact hlc)) (by rw [List.length_drop, hl]) (all_drop' hb a) (by omega) (by simp only [maxLen]; omega) hX.size)
  have HRD : Hid (∀ (a : Nat), a ≤ len → ∀ (X : World), Below w.heap.size w X → Calls Tryd.prog 43 #[.slice (ad a) (len - a) (cap - a), .int .i64 200] X fun e w' => e = .returned (readV (rd (zs.drop a) 200)) ∧ Below X.heap.size X w') := Lib.hid (fun a ha X hX => by
    rw [had]
    exact rread_any (B := w.heap.size) (if cap = a then A else A.map (·.add a)) (len - a) (cap - a) (zs.drop a) 200 X ((h.below hX).drop (by rw [hl]; exact hlc)) (by rw [List.length_drop, hl]) (all_drop' hb a) (by omega) (by simp only [maxLen]; omega) hX.size (by decide) (by decide))
  have HSL : Hid (∀ (a : Nat), a ≤ len → ∀ (I : Int), I = a → ∀ (X : World), (Instr.slice 31 (.slice A len cap) (some (.int .i64 I)) none none).run Tryd.prog X = .ok (.slice (ad a) (len - a) (cap - a)) X) := Lib.hid (fun a ha I e X => by rw [had]; exact sl_l A len cap a ha I e X)
  clear had
  have HG0 := Lib.hid (rget_any A len cap zs w h hl hb hlc (by simp only [maxLen]; omega) (Nat.le_refl _))
  have HDS := Lib.hid (fun n k (h9 : dec zs = some (n, k)) => dec_some hb h9)
  have HPD : Hid (dec zs = none → pget zs = none) := Lib.hid (fun h9 => by unfold pget; rw [h9])
  have HPX : Hid (∀ n k, dec zs = some (n, k) → ¬ n ≤ 60 → pget zs = none) := Lib.hid (fun n k h9 h8 => by unfold pget; rw [h9]; simp only [if_neg h8])
  have HPV : Hid (∀ n k, dec zs = some (n, k) → n ≤ 60 → pget zs = pgM (pgN zs n.toNat k [])) := Lib.hid (fun n k h9 h8 => by unfold pget; rw [h9]; simp only [if_pos h8])
  generalize DGetPost w (pget zs) = RR at *
  generalize pget zs = V at *
  clear h hl hb
  cases hd : dec zs with
  | none =>
    rw [hd] at HG0
    simp only [getV] at HG0
    have HVV := Lib.hid (HPD.out hd)
    clear hd
    go_enter Tryd.func24, Tryd.ntmps24
    go_wp2_with fail
    refine HG0.out.mono ?_
    rintro e w1 ⟨rfl, hb1⟩
    have B1 := Lib.hid hb1
    clear hb1
    go_wp2
    first | exact HN.out _ HVV.out (B1.out) | (go_ret3; exact HN.out _ HVV.out (B1.out))
  | some nk =>
    obtain ⟨n, k0⟩ := nk
    obtain ⟨d1, d2, _, d4, d5⟩ := HDS.out _ _ hd
    rw [HL.out] at d2
    rw [hd] at HG0
    simp only [getV] at HG0
    by_cases h60 : (60 : Int) < n
    · have HVV := Lib.hid (HPX.out _ _ hd (by omega))
      clear hd
      go_enter Tryd.func24, Tryd.ntmps24
      go_wp2_with fail
      refine HG0.out.mono ?_
      rintro e w1 ⟨rfl, hb1⟩
      have B1 := Lib.hid hb1
      clear hb1
      go_wp2
      first | exact HN.out _ HVV.out (B1.out) | (go_ret3; exact HN.out _ HVV.out (B1.out))
    have hv0 := HPV.out _ _ hd (by omega)
    obtain ⟨m, rfl⟩ : ∃ m : Nat, n = m := ⟨n.toNat, by omega⟩
    rw [Int.toNat_natCast] at hv0
    have HV0 := Lib.hid hv0
    have hm60 : m ≤ 60 := by omega
    have cvm : IntKind.i64.wrap (m : Int) = m := IntWalk.i64_in _ (by omega)
    obtain ⟨i0, hi, hz0, hz1, hz2⟩ := info_parts infoPc
    have hzl : (KPc.v pc0).cells.size = KPc.n := by decide
    have hz := zeroPc
    rw [show KPc.v pc0 = .agg (KPc.cs pc0).toArray from rfl] at hz
    have hzne : ¬ (KPc.cs pc0).toArray = #[] := by decide
    clear hd hv0 d4 d5 h60
    go_enter Tryd.func24, Tryd.ntmps24
    go_wp2_with fail
    refine HG0.out.mono ?_
    rintro e w1 ⟨rfl, hb1⟩
    have B1 := Lib.hid hb1
    clear hb1
    go_wp2
    go_loopw [6, 8, 9] (fun at' v i wr => ∃ (k a : Nat) (l : List Pc), k ≤ m ∧ i = .int .i64 k ∧ at' = .int .i64 a ∧ a ≤ len ∧ l.length = k ∧ wr.ownsRow w.heap.size 44 KPc.n v k (l.flatMap KPc.cs) ∧ (∀ p ∈ l, p.Ok) ∧ Below w.heap.size w wr ∧ V = pgM (pgN zs (m - k) a l)) (fun _ _ i _ => m - (intOf i).toNat)
    case atStart => exact ⟨0, k0, [], Nat.zero_le _, rfl, rfl, d2, rfl, World.ownsRow_nil _ _ _ _, (fun p hp => by cases hp), B1.out, HV0.out⟩
    case round =>
      obtain ⟨k, a, l, hk, rfl, rfl, hal, hlk, ho, hok, hb, hf⟩ := hrel
      have HO := Lib.hid ho
      have HBB := Lib.hid hb
      have HOK := Lib.hid hok
      have HLK := Lib.hid hlk
      by_cases hlt : k < m
      · have t2 : (k : Int) < (m : Int) := by omega
        obtain ⟨nn, hnn⟩ : ∃ nn, m - k = nn + 1 := ⟨m - k - 1, by omega⟩
        rw [hnn] at hf
        have HNN := Lib.hid (show m - (k + 1) = nn by omega)
        by_cases haN : a < len
        · have t3 : ¬ (len : Int) ≤ (a : Int) := by omega
          obtain ⟨b, off, hA, hbB, hcell⟩ := HBY.out (fun e => by rw [← HL.out, e] at haN; simp at haN)
          have cz := (hb.cell (p := ⟨b, off + a, none⟩) hbB).trans (hcell a (by rw [HL.out]; exact haN))
          have ixa := ix_at b off len cap a haN (a : Int) rfl
          rw [← hA] at ixa
          clear hA
          have hzr := HZB.out (zs.getD a 0) (by rw [List.getD_eq_getElem?_getD, List.getElem?_eq_getElem (by rw [HL.out]; exact haN)]; exact List.getElem_mem _)
          generalize off + a = oa at *
          obtain ⟨z, hzd⟩ : ∃ z, zs.getD a 0 = z := ⟨_, rfl⟩
          rw [hzd] at cz hzr
          by_cases hz1' : (1 : Int) < z
          · have HVV := Lib.hid (show V = none by rw [hf]; exact pgN_none (pg1_far (fun h => by rw [hzd] at h; omega)))
            clear ho hb hok hf hcell hlk hnn
            go_wp2
            first | exact HN.out _ HVV.out (HBB.out) | (go_ret3; exact HN.out _ HVV.out (HBB.out))
          have g1 : IntKind.i64.wrap ((a : Int) + 1) = ((a + 1 : Nat) : Int) := by rw [IntWalk.i64_in _ (by omega)]; omega
          obtain ⟨a1, ha1⟩ : ∃ a1, a1 = a + 1 := ⟨_, rfl⟩
          rw [← ha1] at g1
          have hsl1 := HSL.out a1 (by omega) (a1 : Int) rfl
          have SZ := Lib.hid (show (Tryd.prog.info? 44).map (·.size) = some (KPc.cs pc0).toArray.size by obtain ⟨i, hi', _, hs', _⟩ := info_parts infoPc; rw [hi']; exact congrArg some hs')
          clear ho hb hok hcell hlk
          by_cases hzz : z = 1
          · subst hzz
            obtain ⟨P0, hP0⟩ : ∃ p : Pc, p = ⟨true, 0, 0, ⟨#[]⟩⟩ := ⟨_, rfl⟩
            have BDB := Lib.hid (fun w9 => build_bit true w9)
            have HP0 := Lib.hid hP0
            rw [← hP0, show KPc.v P0 = .agg (KPc.cs P0).toArray from rfl] at BDB
            have SZ := Lib.hid (show (Tryd.prog.info? 44).map (·.size) = some (KPc.cs P0).toArray.size from SZ.out)
            have SQ := Lib.hid (show (KPc.cs pc0).toArray.size = (KPc.cs P0).toArray.size from rfl)
            have SO := Lib.hid (show (KPc.cs P0).toArray.all (·.oneCell') = true by rw [Array.all_eq_true_iff_forall_mem]; intro u hu; exact KPc.one P0 u (by simpa using hu))
            obtain ⟨X1, hX1⟩ : ∃ X, X = wr.alloc (.cells (KPc.cs P0).toArray 44) := ⟨_, rfl⟩
            have K1 := Lib.hid (show KPc.blk 44 X1 wr.heap.size P0 by rw [hX1]; exact Kind.blk_new wr P0 _)
            have hbx1 : Below wr.heap.size wr X1 := by rw [hX1]; exact (Below.refl wr.heap.size wr).alloc (Nat.le_refl _) _
            have BX1 := Lib.hid (HBB.out.trans (hbx1.mono HBB.out.size))
            have HX1 := Lib.hid hX1
            have HBX1 := Lib.hid hbx1
            have d0 : X1.cell? ⟨wr.heap.size, 0, none⟩ = some (.bool true) := by rw [cell_of_row _ _ _ _ _ _ K1.out, HP0.out]; rfl
            have hal1 : a1 ≤ len := by omega
            have C1 := Lib.hid (HG.out a1 hal1 X1 BX1.out)
            have HA1 := Lib.hid ha1
            clear hX1 hbx1 ha1 hP0
            cases hd1 : dec (zs.drop a1) with
            | none =>
              rw [hd1] at C1
              simp only [getV] at C1
              have HVV := Lib.hid (show V = none by rw [hf]; exact pgN_none (pg1_c0 (by rw [HL.out]; exact haN) hzd (by rw [← HA1.out]; exact hd1)))
              have C2 := Lib.hid (fun X (hX : Below w.heap.size w X) => HG.out a1 hal1 X hX)
              rw [hd1] at C2
              simp only [getV] at C2
              clear hf hd1 hnn hzd
              go_wp2_with (first | ((with_reducible refine wpList_build_at (o := ⟨some 55, .build 44 #[(0, .tmp 54)], _, _, _, _⟩) ?e1 44 #[(0, .tmp 54)] ?e2 #[(0, .bool true)] ?e3 _ (BDB.out _) ?_); (case e1 => rfl); (case e2 => rfl); (case e3 => (simp only [List.map_toArray, List.map_cons, List.map_nil]; rfl))) | ((with_reducible refine wpList_store_new (o := ⟨none, .store 44 (.tmp 10) (.tmp 55), _, _, _, _⟩) ?e1 44 (.tmp 10) (.tmp 55) ?e2 ?e3 (KPc.cs pc0).toArray (KPc.cs P0).toArray ?e4 SZ.out SQ.out SO.out ?_); (case e1 => rfl); (case e2 => rfl); (case e3 => rfl); (case e4 => rfl); (rw [← HX1.out])))
              refine C1.out.mono ?_
              rintro e w5 ⟨rfl, hb5⟩
              have B5 := Lib.hid (BX1.out.trans (hb5.mono BX1.out.size))
              clear d0 hb5
              go_wp2_with fail
              refine (C2.out _ B5.out).mono ?_
              rintro e w6 ⟨rfl, hb6⟩
              have B6 := Lib.hid (B5.out.trans (hb6.mono B5.out.size))
              clear hb6
              go_wp2
              first | exact HN.out _ HVV.out (B6.out) | (go_ret3; exact HN.out _ HVV.out (B6.out))
            | some fk =>
              obtain ⟨f, k1⟩ := fk
              obtain ⟨q1, q2, _, q4, q5⟩ := dec_some (all_drop' HZB.out a1) hd1
              rw [List.length_drop, HL.out] at q2
              rw [hd1] at C1
              simp only [getV] at C1
              obtain ⟨a2, ha2⟩ : ∃ a2, a2 = a1 + k1 := ⟨_, rfl⟩
              have hal2 : a2 ≤ len := by omega
              have g2 : IntKind.i64.wrap ((a1 : Int) + (k1 : Int)) = (a2 : Int) := by rw [IntWalk.i64_in _ (by omega)]; omega
              have hsl2 := HSL.out a2 hal2 (a2 : Int) rfl
              have C2 := Lib.hid (fun X (hX : Below w.heap.size w X) => HG.out a2 hal2 X hX)
              have HA2 := Lib.hid (show a2 = a + 1 + k1 by have := HA1.out; omega)
              clear ha2
              cases hd2 : dec (zs.drop a2) with
              | none =>
                rw [hd2] at C2
                simp only [getV] at C2
                have HVV := Lib.hid (show V = none by rw [hf]; exact pgN_none (pg1_c1 (by rw [HL.out]; exact haN) hzd (by rw [← HA1.out]; exact hd1) (by rw [← HA2.out]; exact hd2)))
                clear hf hd1 hd2 hnn hzd
                go_wp2_with (first | ((with_reducible refine wpList_build_at (o := ⟨some 55, .build 44 #[(0, .tmp 54)], _, _, _, _⟩) ?e1 44 #[(0, .tmp 54)] ?e2 #[(0, .bool true)] ?e3 _ (BDB.out _) ?_); (case e1 => rfl); (case e2 => rfl); (case e3 => (simp only [List.map_toArray, List.map_cons, List.map_nil]; rfl))) | ((with_reducible refine wpList_store_new (o := ⟨none, .store 44 (.tmp 10) (.tmp 55), _, _, _, _⟩) ?e1 44 (.tmp 10) (.tmp 55) ?e2 ?e3 (KPc.cs pc0).toArray (KPc.cs P0).toArray ?e4 SZ.out SQ.out SO.out ?_); (case e1 => rfl); (case e2 => rfl); (case e3 => rfl); (case e4 => rfl); (rw [← HX1.out])))
                refine C1.out.mono ?_
                rintro e w5 ⟨rfl, hb5⟩
                have B5 := Lib.hid (BX1.out.trans (hb5.mono BX1.out.size))
                clear d0 hb5
                go_wp2_with fail
                refine (C2.out _ B5.out).mono ?_
                rintro e w6 ⟨rfl, hb6⟩
                have B6 := Lib.hid (B5.out.trans (hb6.mono B5.out.size))
                clear hb6
                go_wp2
                first | exact HN.out _ HVV.out (B6.out) | (go_ret3; exact HN.out _ HVV.out (B6.out))
              | some qk =>
                obtain ⟨q, k2⟩ := qk
                obtain ⟨r1, r2, _, r4, r5⟩ := dec_some (all_drop' HZB.out a2) hd2
                rw [List.length_drop, HL.out] at r2
                rw [hd2] at C2
                simp only [getV] at C2
                have hpg := pg1_c2 (by rw [HL.out]; exact haN) hzd (by rw [← HA1.out]; exact hd1) (by rw [← HA2.out]; exact hd2)
                obtain ⟨a3, ha3⟩ : ∃ a3, a3 = a2 + k2 := ⟨_, rfl⟩
                have g3 : IntKind.i64.wrap ((a2 : Int) + (k2 : Int)) = (a3 : Int) := by rw [IntWalk.i64_in _ (by omega)]; omega
                by_cases hfq : f ≤ 200 ∧ q ≤ 200
                · rw [if_pos hfq, ← HA2.out, ← ha3] at hpg
                  have HVV := Lib.hid (show V = pgM (pgN zs nn a3 (l ++ [⟨true, f, q, ⟨#[]⟩⟩])) by rw [hf]; exact pgN_some hpg)
                  obtain ⟨XP, hXP⟩ : ∃ p : Pc, p = ⟨true, f, q, ⟨#[]⟩⟩ := ⟨_, rfl⟩
                  have OKX := Lib.hid (show XP.Ok by rw [hXP]; exact ⟨wf64_small (n := f) (by omega) (by omega), wf64_small (n := q) (by omega) (by omega), Nat.zero_le _⟩)
                  obtain ⟨u1, u2⟩ := hfq
                  have u3 : ¬ (200 : Int) < f := by omega
                  have u4 : ¬ (200 : Int) < q := by omega
                  have cf : IntKind.i64.wrap f = f := IntWalk.i64_in _ (by omega)
                  have cq : IntKind.i64.wrap q = q := IntWalk.i64_in _ (by omega)
                  rw [← hXP] at HVV
                  have HXP := Lib.hid hXP
                  clear hf hd1 hd2 hnn hzd hpg hXP u1 u2
                  go_wp2_with (first | ((with_reducible refine wpList_build_at (o := ⟨some 55, .build 44 #[(0, .tmp 54)], _, _, _, _⟩) ?e1 44 #[(0, .tmp 54)] ?e2 #[(0, .bool true)] ?e3 _ (BDB.out _) ?_); (case e1 => rfl); (case e2 => rfl); (case e3 => (simp only [List.map_toArray, List.map_cons, List.map_nil]; rfl))) | ((with_reducible refine wpList_store_new (o := ⟨none, .store 44 (.tmp 10) (.tmp 55), _, _, _, _⟩) ?e1 44 (.tmp 10) (.tmp 55) ?e2 ?e3 (KPc.cs pc0).toArray (KPc.cs P0).toArray ?e4 SZ.out SQ.out SO.out ?_); (case e1 => rfl); (case e2 => rfl); (case e3 => rfl); (case e4 => rfl); (rw [← HX1.out])))
                  refine C1.out.mono ?_
                  rintro e w5 ⟨rfl, hb5⟩
                  have B5 := Lib.hid (BX1.out.trans (hb5.mono BX1.out.size))
                  have K5 := Lib.hid (Kind.blk_below K1.out hb5 (Kind.blk_lt K1.out))
                  have hb5' := Lib.hid hb5
                  clear d0 hb5
                  go_wp2_with fail
                  refine (C2.out _ B5.out).mono ?_
                  rintro e w6 ⟨rfl, hb6⟩
                  have B6 := Lib.hid (B5.out.trans (hb6.mono B5.out.size))
                  have K6 := Kind.blk_below K5.out hb6 (Kind.blk_lt K5.out)
                  obtain ⟨K7, z7⟩ := blk_pc (q := ⟨true, f, 0, ⟨#[]⟩⟩) (i := 1) (u := .int .i64 f) K6 (by rw [HP0.out]; rfl)
                  obtain ⟨K8, z8⟩ := blk_pc (q := ⟨true, f, q, ⟨#[]⟩⟩) (i := 2) (u := .int .i64 q) K7 rfl
                  have y7 : w6.cell? ⟨wr.heap.size, 1, none⟩ = some (.int .i64 0) := by have := (pc_cells (Kind.at_blk K6)).2.1; rw [HP0.out] at this; exact this
                  have y8 : (w6.setCell ⟨wr.heap.size, 1, none⟩ (.int .i64 f)).cell? ⟨wr.heap.size, 2, none⟩ = some (.int .i64 0) := (pc_cells (Kind.at_blk K7)).2.2.1
                  have HA3 := Lib.hid ha3
                  rw [← HXP.out] at K8
                  have LD := Lib.hid (load_pc (Kind.at_blk K8))
                  have BX := Lib.hid ((B6.out.setCell (p := ⟨wr.heap.size, 1, none⟩) HBB.out.size (.int .i64 f)).setCell (p := ⟨wr.heap.size, 2, none⟩) HBB.out.size (.int .i64 q))
                  have OX := Lib.hid (own_below HO.out (show Below wr.heap.size wr ((w6.setCell ⟨wr.heap.size, 1, none⟩ (.int .i64 f)).setCell ⟨wr.heap.size, 2, none⟩ (.int .i64 q)) from ((HBX1.out.trans ((hb5'.out).trans (hb6.mono (by have := HBX1.out.size; have := hb5'.out.size; omega)) |>.mono HBX1.out.size)).setCell (p := ⟨wr.heap.size, 1, none⟩) (Nat.le_refl _) _).setCell (p := ⟨wr.heap.size, 2, none⟩) (Nat.le_refl _) _))
                  have O1 := Lib.hid ((OX.out).alloc (.cells (KPc.cs XP).toArray 44))
                  have B2 := Lib.hid (BX.out.alloc BX.out.size (.cells (KPc.cs XP).toArray 44))
                  have R2 := Lib.hid (Kind.row_one (K := KPc) (w := ((w6.setCell ⟨wr.heap.size, 1, none⟩ (.int .i64 f)).setCell ⟨wr.heap.size, 2, none⟩ (.int .i64 q))) (x := XP) (t := 44) OKX.out)
                  have VL : Hid (k + 1 ≤ 10000000) := Lib.hid (by omega)
                  have VS := Lib.hid B2.out.size
                  have XL := Lib.hid (show (KPc.cs XP).length = KPc.n from rfl)
                  clear K6 K7 K8 hb6
                  go_wp2_with (first | ((with_reducible refine wpList_load_at (o := ⟨some 118, .load 44 (.tmp 10), _, _, _, _⟩) ?e1 44 (.tmp 10) ?e2 ⟨wr.heap.size, 0, none⟩ ?e3 _ LD.out ?_); (case e1 => rfl); (case e2 => rfl); (case e3 => rfl)) | ((with_reducible refine wpList_bsliceK (K := KPc) (o := ⟨some 119, .buildSlice 22 1 #[(0, .tmp 118)], _, _, _, _⟩) ?e1 (.tmp 118) ?e2 XP ?e3 XL.out Tryd.underlying22 sizePc zeroPc nPc ?_); (case e1 => rfl); (case e2 => rfl); (case e3 => rfl)) | (at_builtin; refine wpList_append_K (K := KPc) _ rfl _ _ 22 rfl w.heap.size 44 i0 _ 40 Tryd.underlying22 hi hz0 hz1 hz2 hzl (by omega) _ k l rfl O1.out (some ⟨(((w6.setCell ⟨wr.heap.size, 1, none⟩ (.int .i64 f)).setCell ⟨wr.heap.size, 2, none⟩ (.int .i64 q))).heap.size, 0, none⟩) 1 1 [XP] (by first | rfl | simp) R2.out rfl VL.out VS.out ?_; intro v3 w3 ho3 hg3; have O3 := Lib.hid ho3; have B3 := Lib.hid (B2.out.grown hg3 B2.out.size (fun g hg => own_base O1.out hg)); obtain ⟨g13, cap13, rfl⟩ := ownsRow_succ ho3; clear ho3 hg3))
                  go_roundw
                  case rel => exact ⟨k + 1, a3, l ++ [XP], by omega, by go_num, by (have := HA3.out; first | rfl | (congr 1; omega)), by have := HA3.out; omega, by rw [List.length_append, HLK.out]; rfl, O3.out, (fun p hp => (List.mem_append.1 hp).elim (HOK.out p) (fun h => by rw [List.mem_singleton.1 h]; exact OKX.out)), B3.out, by rw [HNN.out]; exact HVV.out⟩
                  case measure => simp [intOf]; omega
                · rw [if_neg hfq] at hpg
                  have HVV := Lib.hid (show V = none by rw [hf]; exact pgN_none hpg)
                  clear hf hd1 hd2 hnn hzd hpg
                  by_cases u3 : (200 : Int) < f
                  · go_wp2_with (first | ((with_reducible refine wpList_build_at (o := ⟨some 55, .build 44 #[(0, .tmp 54)], _, _, _, _⟩) ?e1 44 #[(0, .tmp 54)] ?e2 #[(0, .bool true)] ?e3 _ (BDB.out _) ?_); (case e1 => rfl); (case e2 => rfl); (case e3 => (simp only [List.map_toArray, List.map_cons, List.map_nil]; rfl))) | ((with_reducible refine wpList_store_new (o := ⟨none, .store 44 (.tmp 10) (.tmp 55), _, _, _, _⟩) ?e1 44 (.tmp 10) (.tmp 55) ?e2 ?e3 (KPc.cs pc0).toArray (KPc.cs P0).toArray ?e4 SZ.out SQ.out SO.out ?_); (case e1 => rfl); (case e2 => rfl); (case e3 => rfl); (case e4 => rfl); (rw [← HX1.out])))
                    refine C1.out.mono ?_
                    rintro e w5 ⟨rfl, hb5⟩
                    have B5 := Lib.hid (BX1.out.trans (hb5.mono BX1.out.size))
                    clear d0 hb5
                    go_wp2_with fail
                    refine (C2.out _ B5.out).mono ?_
                    rintro e w6 ⟨rfl, hb6⟩
                    have B6 := Lib.hid (B5.out.trans (hb6.mono B5.out.size))
                    clear hb6
                    go_wp2
                    first | exact HN.out _ HVV.out (B6.out) | (go_ret3; exact HN.out _ HVV.out (B6.out))
                  · have u4 : (200 : Int) < q := by omega
                    go_wp2_with (first | ((with_reducible refine wpList_build_at (o := ⟨some 55, .build 44 #[(0, .tmp 54)], _, _, _, _⟩) ?e1 44 #[(0, .tmp 54)] ?e2 #[(0, .bool true)] ?e3 _ (BDB.out _) ?_); (case e1 => rfl); (case e2 => rfl); (case e3 => (simp only [List.map_toArray, List.map_cons, List.map_nil]; rfl))) | ((with_reducible refine wpList_store_new (o := ⟨none, .store 44 (.tmp 10) (.tmp 55), _, _, _, _⟩) ?e1 44 (.tmp 10) (.tmp 55) ?e2 ?e3 (KPc.cs pc0).toArray (KPc.cs P0).toArray ?e4 SZ.out SQ.out SO.out ?_); (case e1 => rfl); (case e2 => rfl); (case e3 => rfl); (case e4 => rfl); (rw [← HX1.out])))
                    refine C1.out.mono ?_
                    rintro e w5 ⟨rfl, hb5⟩
                    have B5 := Lib.hid (BX1.out.trans (hb5.mono BX1.out.size))
                    clear d0 hb5
                    go_wp2_with fail
                    refine (C2.out _ B5.out).mono ?_
                    rintro e w6 ⟨rfl, hb6⟩
                    have B6 := Lib.hid (B5.out.trans (hb6.mono B5.out.size))
                    clear hb6
                    go_wp2
                    first | exact HN.out _ HVV.out (B6.out) | (go_ret3; exact HN.out _ HVV.out (B6.out))
          · have hz0' : z = 0 := by omega
            subst hz0'
            clear hzz
            obtain ⟨P0, hP0⟩ : ∃ p : Pc, p = ⟨false, 0, 0, ⟨#[]⟩⟩ := ⟨_, rfl⟩
            have BDB := Lib.hid (fun w9 => build_bit false w9)
            have HP0 := Lib.hid hP0
            rw [← hP0, show KPc.v P0 = .agg (KPc.cs P0).toArray from rfl] at BDB
            have SZ := Lib.hid (show (Tryd.prog.info? 44).map (·.size) = some (KPc.cs P0).toArray.size from SZ.out)
            have SQ := Lib.hid (show (KPc.cs pc0).toArray.size = (KPc.cs P0).toArray.size from rfl)
            have SO := Lib.hid (show (KPc.cs P0).toArray.all (·.oneCell') = true by rw [Array.all_eq_true_iff_forall_mem]; intro u hu; exact KPc.one P0 u (by simpa using hu))
            obtain ⟨X1, hX1⟩ : ∃ X, X = wr.alloc (.cells (KPc.cs P0).toArray 44) := ⟨_, rfl⟩
            have K1 := Lib.hid (show KPc.blk 44 X1 wr.heap.size P0 by rw [hX1]; exact Kind.blk_new wr P0 _)
            have hbx1 : Below wr.heap.size wr X1 := by rw [hX1]; exact (Below.refl wr.heap.size wr).alloc (Nat.le_refl _) _
            have BX1 := Lib.hid (HBB.out.trans (hbx1.mono HBB.out.size))
            have HX1 := Lib.hid hX1
            have HBX1 := Lib.hid hbx1
            have d0 : X1.cell? ⟨wr.heap.size, 0, none⟩ = some (.bool false) := by rw [cell_of_row _ _ _ _ _ _ K1.out, HP0.out]; rfl
            have hal1 : a1 ≤ len := by omega
            have hal1 : a1 ≤ len := by omega
            have C1 := Lib.hid (HRD.out a1 hal1 X1 BX1.out)
            have HA1 := Lib.hid ha1
            have hpg := pg1_t (by rw [HL.out]; exact haN) hzd
            rw [← ha1] at hpg
            clear hX1 hbx1 ha1 hP0
            cases hd1 : rd (zs.drop a1) 200 with
            | none =>
              rw [hd1] at C1 hpg
              simp only [readV] at C1
              have HVV := Lib.hid (show V = none by rw [hf]; exact pgN_none hpg)
              clear hf hd1 hnn hzd hpg
              go_wp2_with (first | ((with_reducible refine wpList_build_at (o := ⟨some 55, .build 44 #[(0, .tmp 54)], _, _, _, _⟩) ?e1 44 #[(0, .tmp 54)] ?e2 #[(0, .bool false)] ?e3 _ (BDB.out _) ?_); (case e1 => rfl); (case e2 => rfl); (case e3 => (simp only [List.map_toArray, List.map_cons, List.map_nil]; rfl))) | ((with_reducible refine wpList_store_new (o := ⟨none, .store 44 (.tmp 10) (.tmp 55), _, _, _, _⟩) ?e1 44 (.tmp 10) (.tmp 55) ?e2 ?e3 (KPc.cs pc0).toArray (KPc.cs P0).toArray ?e4 SZ.out SQ.out SO.out ?_); (case e1 => rfl); (case e2 => rfl); (case e3 => rfl); (case e4 => rfl); (rw [← HX1.out])))
              refine C1.out.mono ?_
              rintro e w5 ⟨rfl, hb5⟩
              have B5 := Lib.hid (BX1.out.trans (hb5.mono BX1.out.size))
              clear d0 hb5
              go_wp2
              first | exact HN.out _ HVV.out (B5.out) | (go_ret3; exact HN.out _ HVV.out (B5.out))
            | some tk =>
              obtain ⟨t, k1⟩ := tk
              obtain ⟨q1, q2, _, q4, q5⟩ := rd_some (all_drop' HZB.out a1) hd1
              rw [List.length_drop, HL.out] at q1
              rw [hd1] at C1 hpg
              simp only [readV] at C1
              obtain ⟨a2, ha2⟩ : ∃ a2, a2 = a1 + k1 := ⟨_, rfl⟩
              have hal2 : a2 ≤ len := by omega
              have g2 : IntKind.i64.wrap ((a1 : Int) + (k1 : Int)) = (a2 : Int) := by rw [IntWalk.i64_in _ (by omega)]; omega
              have hsz := strOfNums_size t
              have HVV := Lib.hid (show V = pgM (pgN zs nn a2 (l ++ [⟨false, 0, 0, strOfNums t⟩])) by rw [hf, ha2]; exact pgN_some hpg)
              obtain ⟨XP, hXP⟩ : ∃ p : Pc, p = ⟨false, 0, 0, strOfNums t⟩ := ⟨_, rfl⟩
              have OKX := Lib.hid (show XP.Ok by rw [hXP]; exact ⟨wf64_small (n := 0) (by omega) (by omega), wf64_small (n := 0) (by omega) (by omega), by simp only [maxLen]; omega⟩)
              rw [← hXP] at HVV
              have HXP := Lib.hid hXP
              have HA2 := Lib.hid ha2
              clear hf hd1 hnn hzd hpg hXP ha2 hsz
              go_wp2_with (first | ((with_reducible refine wpList_build_at (o := ⟨some 55, .build 44 #[(0, .tmp 54)], _, _, _, _⟩) ?e1 44 #[(0, .tmp 54)] ?e2 #[(0, .bool false)] ?e3 _ (BDB.out _) ?_); (case e1 => rfl); (case e2 => rfl); (case e3 => (simp only [List.map_toArray, List.map_cons, List.map_nil]; rfl))) | ((with_reducible refine wpList_store_new (o := ⟨none, .store 44 (.tmp 10) (.tmp 55), _, _, _, _⟩) ?e1 44 (.tmp 10) (.tmp 55) ?e2 ?e3 (KPc.cs pc0).toArray (KPc.cs P0).toArray ?e4 SZ.out SQ.out SO.out ?_); (case e1 => rfl); (case e2 => rfl); (case e3 => rfl); (case e4 => rfl); (rw [← HX1.out])))
              refine C1.out.mono ?_
              rintro e w5 ⟨rfl, hb5⟩
              have B5 := Lib.hid (BX1.out.trans (hb5.mono BX1.out.size))
              have K6 := Kind.blk_below K1.out hb5 (Kind.blk_lt K1.out)
              obtain ⟨K8, z8⟩ := blk_pc (q := ⟨false, 0, 0, strOfNums t⟩) (i := 3) (u := .string (strOfNums t)) K6 (by rw [HP0.out]; rfl)
              have y8 : w5.cell? ⟨wr.heap.size, 3, none⟩ = some (.string ⟨#[]⟩) := by have := (pc_cells (Kind.at_blk K6)).2.2.2; rw [HP0.out] at this; exact this
              rw [← HXP.out] at K8
              have LD := Lib.hid (load_pc (Kind.at_blk K8))
              have BX := Lib.hid (B5.out.setCell (p := ⟨wr.heap.size, 3, none⟩) HBB.out.size (.string (strOfNums t)))
              have OX := Lib.hid (own_below HO.out (show Below wr.heap.size wr (w5.setCell ⟨wr.heap.size, 3, none⟩ (.string (strOfNums t))) from (HBX1.out.trans (hb5.mono HBX1.out.size)).setCell (p := ⟨wr.heap.size, 3, none⟩) (Nat.le_refl _) _))
              have O1 := Lib.hid ((OX.out).alloc (.cells (KPc.cs XP).toArray 44))
              have B2 := Lib.hid (BX.out.alloc BX.out.size (.cells (KPc.cs XP).toArray 44))
              have R2 := Lib.hid (Kind.row_one (K := KPc) (w := (w5.setCell ⟨wr.heap.size, 3, none⟩ (.string (strOfNums t)))) (x := XP) (t := 44) OKX.out)
              have VL : Hid (k + 1 ≤ 10000000) := Lib.hid (by omega)
              have VS := Lib.hid B2.out.size
              have XL := Lib.hid (show (KPc.cs XP).length = KPc.n from rfl)
              clear K6 K8 hb5 d0
              go_wp2_with (first | ((with_reducible refine wpList_load_at (o := ⟨some 118, .load 44 (.tmp 10), _, _, _, _⟩) ?e1 44 (.tmp 10) ?e2 ⟨wr.heap.size, 0, none⟩ ?e3 _ LD.out ?_); (case e1 => rfl); (case e2 => rfl); (case e3 => rfl)) | ((with_reducible refine wpList_bsliceK (K := KPc) (o := ⟨some 119, .buildSlice 22 1 #[(0, .tmp 118)], _, _, _, _⟩) ?e1 (.tmp 118) ?e2 XP ?e3 XL.out Tryd.underlying22 sizePc zeroPc nPc ?_); (case e1 => rfl); (case e2 => rfl); (case e3 => rfl)) | (at_builtin; refine wpList_append_K (K := KPc) _ rfl _ _ 22 rfl w.heap.size 44 i0 _ 40 Tryd.underlying22 hi hz0 hz1 hz2 hzl (by omega) _ k l rfl O1.out (some ⟨((w5.setCell ⟨wr.heap.size, 3, none⟩ (.string (strOfNums t)))).heap.size, 0, none⟩) 1 1 [XP] (by first | rfl | simp) R2.out rfl VL.out VS.out ?_; intro v3 w3 ho3 hg3; have O3 := Lib.hid ho3; have B3 := Lib.hid (B2.out.grown hg3 B2.out.size (fun g hg => own_base O1.out hg)); obtain ⟨g13, cap13, rfl⟩ := ownsRow_succ ho3; clear ho3 hg3))
              go_roundw
              case rel => exact ⟨k + 1, a2, l ++ [XP], by omega, by go_num, by (have := HA2.out; first | rfl | (congr 1; omega)), by have := HA2.out; omega, by rw [List.length_append, HLK.out]; rfl, O3.out, (fun p hp => (List.mem_append.1 hp).elim (HOK.out p) (fun h => by rw [List.mem_singleton.1 h]; exact OKX.out)), B3.out, by rw [HNN.out]; exact HVV.out⟩
              case measure => simp [intOf]; omega
        · have t3 : (len : Int) ≤ (a : Int) := by omega
          have HVV := Lib.hid (show V = none by rw [hf]; exact pgN_none (pg1_far (fun h => by rw [HL.out] at h; omega)))
          clear ho hb hok hf hlk hnn
          go_wp2
          first | exact HN.out _ HVV.out (HBB.out) | (go_ret3; exact HN.out _ HVV.out (HBB.out))
      · obtain rfl : k = m := by omega
        have t2 : ¬ (k : Int) < (k : Int) := by omega
        rw [Nat.sub_self] at hf
        have hf : V = if pmay l then some (l, a) else none := hf
        have HF := Lib.hid hf
        obtain ⟨A9, c9, rfl⟩ : ∃ A9 c9, u8 = .slice A9 k c9 := by
          rcases ho.2 with ⟨h1, h2⟩ | ⟨g, cp, cur, h1, _⟩
          · exact ⟨none, 0, by rw [h1, h2]⟩
          · exact ⟨_, cp, h1⟩
        have RW := Lib.hid (show KPc.row wr A9 c9 l from Kind.row_own (K := KPc) (by rw [hlk]; exact ho) hok)
        have HMY := rmay11_any A9 c9 l wr RW.out (by omega)
        rw [hlk] at HMY
        have HMY := Lib.hid HMY
        clear ho hb hok hf
        cases hmy : pmay l
        · rw [hmy] at HMY
          have HVV := Lib.hid (show V = none by rw [HF.out, hmy]; rfl)
          clear hmy
          go_wp2_with fail
          refine HMY.out.mono ?_
          rintro e w9 ⟨rfl, hb9⟩
          have B9 := Lib.hid (HBB.out.trans (hb9.mono HBB.out.size))
          clear hb9
          go_wp2
          first | exact HN.out _ HVV.out (B9.out) | (go_ret3; exact HN.out _ HVV.out (B9.out))
        · rw [hmy] at HMY
          have HVV := Lib.hid (show V = some (l, a) by rw [HF.out, hmy]; rfl)
          clear hmy
          go_wp2_with fail
          refine HMY.out.mono ?_
          rintro e w9 ⟨rfl, hb9⟩
          have B9 := Lib.hid (HBB.out.trans (hb9.mono HBB.out.size))
          have R9 := Lib.hid (Kind.row_below RW.out hb9 (Nat.le_refl _))
          have FIN := HS.out l a A9 c9 w9 HVV.out R9.out B9.out
          rw [hlk] at FIN
          have FIN := Lib.hid FIN
          clear hb9
          go_wp2
          first | exact FIN.out | (go_ret3; exact FIN.out)
end Go.Proofs.YtnencoainacpoaaDoor

end
