import Derived.Test.YtlahjooofjbfbaaDoorSgRefOne
import Derived.Test.YtlahjooofjbfbaaDoorGUni
/-
  What the document's own Find of a block answers. Nothing that was there is written.
-/
namespace Go.Proofs.YtlahjooofjbfbaaDoor
open Go.RowKit WM
set_option linter.unusedVariables false
set_option maxRecDepth 100000
set_option maxHeartbeats 4000000 in
theorem rfind10_any (A : Option Addr) (c : Nat) (l : List Sg) (s : ByteArray) (w : World) (h1 : KSig.row w A c l) (hl : l.length ≤ 1000000) (hs : s.size ≤ 1000000) : Calls Tryd.prog 15 #[.slice A l.length c, .string s] w fun e w' => e = .returned (.int .i64 (sgFind l (nums s))) ∧ Below w.heap.size w w' := by
  have HB := Lib.hid (Below.refl w.heap.size w)
  have HNS := nums_len s
  by_cases h8 : s.size = 8
  · have HV := Lib.hid (show sgFind l (nums s) = sgFrom (sgOne (nums s)) 0 (l.drop 0) by unfold sgFind; rw [if_pos (by rw [HNS]; exact h8)]; rfl)
    have HC := Lib.hid (fun w => rone_any s w hs)
    have HXO := Lib.hid (sgOne_ok (nums s))
    have H1 := Lib.hid h1
    have hc1 := h1.1
    have hm1 := h1.2.1
    simp only [maxLen] at hm1
    have R1 := Lib.hid (fun h => sig_row H1.out h)
    generalize sgFind l (nums s) = V at *
    generalize sgOne (nums s) = X at *
    generalize hn1 : l.length = n at *
    have HL1 := Lib.hid hn1
    have hz := zeroSig
    rw [show KSig.v ⟨0, List.replicate 32 0⟩ = .agg (KSig.cs sgz).toArray from rfl] at hz
    have SZ := Lib.hid (sig_size HXO.out)
    have SQ := Lib.hid (sig_same sgz_ok HXO.out)
    have SO := Lib.hid (sig_ones X)
    rw [show KSig.v X = .agg (KSig.cs X).toArray from rfl] at HC
    have hzne : ¬ (KSig.cs sgz).toArray = #[] := by simp [KSig, Sg.cs]
    have HNEW := Lib.hid (fun (w9 : World) => heap_alloc_new w9 (.cells (KSig.cs sgz).toArray 30))
    have HNB := Lib.hid (fun (w9 : World) => (Below.refl w9.heap.size w9).alloc (Nat.le_refl _) (.cells (KSig.cs sgz).toArray 30))
    have HNS9 := Lib.hid (fun (w9 : World) => World.size_alloc w9 (.cells (KSig.cs sgz).toArray 30))
    generalize (KSig.cs sgz).toArray = Z at *
    clear h1 hn1 HNS
    go_enter Tryd.func15, Tryd.ntmps15
    go_wp2_with fail
    refine (HC.out _).mono ?_
    rintro e w1 ⟨rfl, hb1⟩
    have B1 := Lib.hid (HB.out.trans hb1)
    have N1 := Lib.hid (HNEW.out w1)
    have BB1 := Lib.hid (B1.out.trans ((HNB.out w1).mono B1.out.size))
    have NS1 := Lib.hid (HNS9.out w1)
    have XB1 := Lib.hid (show KSig.blk 30 ((w1.alloc (.cells Z 30)).setRow w1.heap.size (KSig.cs X).toArray) w1.heap.size X from setRow_heap _ _ _ _ _ _ N1.out)
    have BX1 := Lib.hid (below_setRow BB1.out B1.out.size (KSig.cs X).toArray)
    have hw1 := B1.out.size
    clear hb1
    go_wp2_with ((with_reducible refine wpList_store_row (o := ⟨none, .store 30 (.tmp 5) (.tmp 11), _, _, _, _⟩) ?e1 30 (.tmp 5) (.tmp 11) ?e2 w1.heap.size (KSig.cs X).toArray ?e3 ?e4 30 _ N1.out SZ.out SQ.out SO.out ?_); (case e1 => rfl); (case e2 => rfl); (case e3 => rfl); (case e4 => rfl))
    have XXB := Lib.hid (show ∀ wr, Below w.heap.size w wr ∧ wr.heap[w1.heap.size]? = ((w1.alloc (.cells Z 30)).setRow w1.heap.size (KSig.cs X).toArray).heap[w1.heap.size]? → KSig.at wr w1.heap.size 0 X ∧ w1.heap.size < wr.heap.size from fun wr h => ⟨Kind.at_blk (Kind.blk_same XB1.out h.2), Kind.blk_lt (Kind.blk_same XB1.out h.2)⟩)
    generalize (w1.alloc (.cells Z 30)).setRow w1.heap.size (KSig.cs X).toArray = w2 at *
    generalize w1.heap.size = g at *
    go_loopw [6] (fun i wr => ∃ k : Nat, k ≤ n ∧ i = .int .i64 k ∧ Below w.heap.size w wr ∧ wr.heap[g]? = w2.heap[g]? ∧ V = sgFrom X k (l.drop k)) (fun i _ => n - (intOf i).toNat)
    case atStart => exact ⟨0, Nat.zero_le _, rfl, BX1.out, rfl, HV.out⟩
    case round =>
      obtain ⟨k, hk, rfl, hb, hg, hf⟩ := hrel
      have HBB := Lib.hid hb
      have HG := Lib.hid hg
      by_cases hlt : k < n
      · have t1 : (k : Int) < (n : Int) := by omega
        obtain ⟨b1, off1, hA1, hb1w, hx1, hi1⟩ := R1.out (by omega)
        have IX1 := Lib.hid (hi1 k hlt k rfl)
        rw [← hA1] at IX1
        have Q1 := Lib.hid (hx1 k hlt)
        have X1 := Lib.hid (Kind.row_ok H1.out (i := k) (by rw [HL1.out]; exact hlt))
        have B0 := Lib.hid hb
        obtain ⟨xb, hxl⟩ := XXB.out wr ⟨hb, hg⟩
        have XB := Lib.hid xb
        have HXL := Lib.hid hxl
        have XX := Lib.hid HXO.out
        have hdr := sgFrom_step (x := X) (l := l) (k := k) (by rw [HL1.out]; exact hlt)
        change Hid (Sg.Ok (l.getD k sg0)) at X1
        have HQ := Lib.hid (show ∀ w9, (Op.equalIn 10000 30 (.agg (KSig.cs (l.getD k sg0)).toArray) (.agg (KSig.cs X).toArray)).run Tryd.prog w9 = .ok (decide (l.getD k sg0 = X)) w9 from fun w9 => eq_sig X1.out HXO.out w9)
        rw [hdr] at hf
        generalize l.getD k sg0 = x at *
        clear hx1 hi1 hA1 xb hdr
        by_cases he : x = X
        · subst he
          rw [if_pos rfl] at hf
          have HF := Lib.hid hf
          rw [show decide (x = x) = true by simp] at HQ
          clear hf hb hg
          go_wp2_with fail
          refine wp_region_G _ (by kernel_rfl) ?_
          refine wpG_take (i := 0) (oi := ⟨some 18, _, _, _, _, _⟩) (v := ?_) rfl (by kernel_rfl) (by kernel_rfl) (by kernel_rfl) (Or.inl ⟨by rfl, unib_val ?_⟩) ?_; rotate_left; (focus (intro w9 hSw; go_simp; try with_reducible rfl)); simp only [Act.put, List.setIfInBounds_toArray, List.set_cons_zero, List.set_cons_succ]
          refine wpG_take (i := 1) (oi := ⟨some 19, _, _, _, _, _⟩) (v := ?_) rfl (by kernel_rfl) (by kernel_rfl) (by kernel_rfl) (Or.inl ⟨by rfl, unib_val ?_⟩) ?_; rotate_left; (focus (intro w9 hSw; go_simp; try with_reducible rfl)); simp only [Act.put, List.setIfInBounds_toArray, List.set_cons_zero, List.set_cons_succ]
          refine wpG_take (i := 2) (oi := ⟨some 20, _, _, _, _, _⟩) (v := ?_) rfl (by kernel_rfl) (by kernel_rfl) (by kernel_rfl) (Or.inl ⟨by rfl, unib_val ?_⟩) ?_; rotate_left; (focus (intro w9 hSw; have q0 := IX1.out w9; go_simp; try with_reducible rfl)); simp only [Act.put, List.setIfInBounds_toArray, List.set_cons_zero, List.set_cons_succ]
          refine wpG_take (i := 3) (oi := ⟨some 21, _, _, _, _, _⟩) (v := (.agg (KSig.cs x).toArray)) rfl (by kernel_rfl) (by kernel_rfl) (by kernel_rfl) (Or.inl ⟨by rfl, unib_val ?_⟩) ?_; (focus (intro w9 hSw; exact exec_load_at 30 _ rfl _ rfl (load_sigK Q1.out X1.out (B0.out.trans (hSw.mono B0.out.size)) hb1w))); simp only [Act.put, List.setIfInBounds_toArray, List.set_cons_zero, List.set_cons_succ]
          refine wpG_take (i := 4) (oi := ⟨some 22, _, _, _, _, _⟩) (v := (.agg (KSig.cs x).toArray)) rfl (by kernel_rfl) (by kernel_rfl) (by kernel_rfl) (Or.inl ⟨by rfl, unib_val ?_⟩) ?_; (focus (intro w9 hSw; exact exec_load_at 30 _ rfl _ rfl (load_sigK XB.out XX.out hSw HXL.out))); simp only [Act.put, List.setIfInBounds_toArray, List.set_cons_zero, List.set_cons_succ]
          refine wpG_take (i := 5) (oi := ⟨some 23, _, _, _, _, _⟩) (v := (.bool true)) rfl (by kernel_rfl) (by kernel_rfl) (by kernel_rfl) (Or.inl ⟨by rfl, unib_val ?_⟩) ?_; (focus (intro w9 hSw; have q0 := HQ.out w9; exact exec_eql_at 30 _ _ _ rfl rfl rfl guardSig q0)); simp only [Act.put, List.setIfInBounds_toArray, List.set_cons_zero, List.set_cons_succ]
          refine wpG_done (by kernel_rfl) ?_ _
          intro w9 hSw _
          have B9 := Lib.hid (HBB.out.trans (hSw.mono HBB.out.size))
          clear hSw
          go_wp2
          go_ret
          exact ⟨by rw [HF.out]; try rfl, B9.out⟩
        · rw [if_neg he] at hf
          have HF := Lib.hid hf
          rw [decide_eq_false he] at HQ
          clear hf hb hg
          go_wp2_with fail
          refine wp_region_G _ (by kernel_rfl) ?_
          refine wpG_take (i := 0) (oi := ⟨some 18, _, _, _, _, _⟩) (v := ?_) rfl (by kernel_rfl) (by kernel_rfl) (by kernel_rfl) (Or.inl ⟨by rfl, unib_val ?_⟩) ?_; rotate_left; (focus (intro w9 hSw; go_simp; try with_reducible rfl)); simp only [Act.put, List.setIfInBounds_toArray, List.set_cons_zero, List.set_cons_succ]
          refine wpG_take (i := 1) (oi := ⟨some 19, _, _, _, _, _⟩) (v := ?_) rfl (by kernel_rfl) (by kernel_rfl) (by kernel_rfl) (Or.inl ⟨by rfl, unib_val ?_⟩) ?_; rotate_left; (focus (intro w9 hSw; go_simp; try with_reducible rfl)); simp only [Act.put, List.setIfInBounds_toArray, List.set_cons_zero, List.set_cons_succ]
          refine wpG_take (i := 2) (oi := ⟨some 20, _, _, _, _, _⟩) (v := ?_) rfl (by kernel_rfl) (by kernel_rfl) (by kernel_rfl) (Or.inl ⟨by rfl, unib_val ?_⟩) ?_; rotate_left; (focus (intro w9 hSw; have q0 := IX1.out w9; go_simp; try with_reducible rfl)); simp only [Act.put, List.setIfInBounds_toArray, List.set_cons_zero, List.set_cons_succ]
          refine wpG_take (i := 3) (oi := ⟨some 21, _, _, _, _, _⟩) (v := (.agg (KSig.cs x).toArray)) rfl (by kernel_rfl) (by kernel_rfl) (by kernel_rfl) (Or.inl ⟨by rfl, unib_val ?_⟩) ?_; (focus (intro w9 hSw; exact exec_load_at 30 _ rfl _ rfl (load_sigK Q1.out X1.out (B0.out.trans (hSw.mono B0.out.size)) hb1w))); simp only [Act.put, List.setIfInBounds_toArray, List.set_cons_zero, List.set_cons_succ]
          refine wpG_take (i := 4) (oi := ⟨some 22, _, _, _, _, _⟩) (v := (.agg (KSig.cs X).toArray)) rfl (by kernel_rfl) (by kernel_rfl) (by kernel_rfl) (Or.inl ⟨by rfl, unib_val ?_⟩) ?_; (focus (intro w9 hSw; exact exec_load_at 30 _ rfl _ rfl (load_sigK XB.out XX.out hSw HXL.out))); simp only [Act.put, List.setIfInBounds_toArray, List.set_cons_zero, List.set_cons_succ]
          refine wpG_take (i := 5) (oi := ⟨some 23, _, _, _, _, _⟩) (v := (.bool false)) rfl (by kernel_rfl) (by kernel_rfl) (by kernel_rfl) (Or.inl ⟨by rfl, unib_val ?_⟩) ?_; (focus (intro w9 hSw; have q0 := HQ.out w9; exact exec_eql_at 30 _ _ _ rfl rfl rfl guardSig q0)); simp only [Act.put, List.setIfInBounds_toArray, List.set_cons_zero, List.set_cons_succ]
          refine wpG_done (by kernel_rfl) ?_ _
          intro w9 hSw _
          have B9 := Lib.hid (HBB.out.trans (hSw.mono HBB.out.size))
          have G9 := Lib.hid ((hSw.block _ HXL.out).trans HG.out)
          clear hSw
          go_wp2
          go_roundw
          case rel => exact ⟨k + 1, by omega, by go_num, B9.out, G9.out, HF.out⟩
          case measure => simp [intOf]; omega
      · obtain rfl : k = n := by omega
        have t1 : ¬ (k : Int) < (k : Int) := by omega
        rw [List.drop_eq_nil_of_le (by rw [HL1.out]; exact Nat.le_refl _)] at hf
        have HF := Lib.hid (show V = -1 from hf)
        clear hf hb hg
        go_wp2
        go_ret
        exact ⟨by rw [HF.out]; try rfl, HBB.out⟩
  · have HF := Lib.hid (show sgFind l (nums s) = -1 by unfold sgFind; rw [if_neg (by rw [HNS]; exact h8)])
    have t1 : ¬ (s.size : Int) = 8 := by omega
    go_enter Tryd.func15, Tryd.ntmps15
    go_wp2
    go_ret
    exact ⟨by rw [HF.out]; try rfl, HB.out⟩
end Go.Proofs.YtlahjooofjbfbaaDoor

