import Derived.Test.YtnencoainacpoaaDoorSgBase
import Derived.Test.YtnencoainacpoaaDoorGShaR
import Derived.Test.YtnencoainacpoaaDoorGRl
import Derived.Test.YtnencoainacpoaaDoorGUni
section
/-
  What the document's own block of a part is. Nothing that was there is written.
-/
namespace Go.Proofs.YtnencoainacpoaaDoor
open Go.RowKit WM
set_option linter.unusedVariables false
set_option maxRecDepth 100000
set_option maxHeartbeats 2000000 in
theorem rone_any (s : ByteArray) (w : World) (hs : s.size ≤ 1000000) : Calls Tryd.prog 49 #[.string s] w fun e w' => e = .returned (KSig.v (sgOne (nums s))) ∧ Below w.heap.size w w' := by
  have hz := zeroSig
  have hok := sgOne_ok (nums s)
  have HC1 := Lib.hid (fun w => rrsum_any s w hs)
  have HC2 := Lib.hid (fun (X : World) (hX : Below w.heap.size w X) => rof_dig s X (by omega))
  unfold DSumPost at HC2
  have HBD := Lib.hid (fun w9 => build_sig (x := sgOne (nums s)) hok.2.2.1 w9)
  have SZ := Lib.hid (sig_size hok)
  have SQ := Lib.hid (sig_same sgz_ok hok)
  have SO := Lib.hid (sig_ones (sgOne (nums s)))
  have hrA : ∀ X, Below (w.heap.size + 1) (w.alloc (.cells (KSig.cs sgz).toArray 81)) X → X.heap[w.heap.size]? = some (.cells (KSig.cs sgz).toArray 81) := fun X hX => (hX.block _ (by omega)).trans (heap_alloc_new w _)
  have hbA : Below w.heap.size w (w.alloc (.cells (KSig.cs sgz).toArray 81)) := (Below.refl _ _).alloc (Nat.le_refl _) _
  have hszA : (w.alloc (.cells (KSig.cs sgz).toArray 81)).heap.size = w.heap.size + 1 := World.size_alloc _ _
  simp only [show (sgOne (nums s)).wk = rlS (nums s) from rfl, show (sgOne (nums s)).ds = SH.sum (nums s) from rfl] at HBD
  rw [show KSig.v ⟨0, List.replicate 32 0⟩ = .agg (KSig.cs sgz).toArray from rfl] at hz
  rw [show KSig.v (sgOne (nums s)) = .agg (KSig.cs (sgOne (nums s))).toArray from rfl] at HBD ⊢
  have hzne : ¬ (KSig.cs sgz).toArray = #[] := by simp [KSig, Sg.cs]
  have HRA := Lib.hid hrA
  have HBA := Lib.hid hbA
  have HSZ := Lib.hid hszA
  generalize (KSig.cs sgz).toArray = Z at *
  generalize (KSig.cs (sgOne (nums s))).toArray = V at *
  generalize rlS (nums s) = R at *
  generalize bvals (SH.sum (nums s)) = D at *
  clear hrA hbA hszA hok
  go_enter Tryd.func49, Tryd.ntmps49
  go_wp2_with fail
  refine (HC1.out _).mono ?_
  rintro e w1 ⟨rfl, hb1⟩
  rw [HSZ.out] at hb1
  have HB1 := Lib.hid hb1
  clear hb1
  go_wp2_with fail
  refine (HC2.out _ (HBA.out.trans (HB1.out.mono (by omega)))).mono ?_
  rintro e w2 ⟨rfl, hb2⟩
  have HB2 := Lib.hid (HB1.out.trans (hb2.mono (by have := HB1.out.size; rw [HSZ.out] at this; exact this)))
  have F1 := Lib.hid (HRA.out _ HB2.out)
  have F2 := Lib.hid (show (w2.setRow w.heap.size V).heap[w.heap.size]? = some (.cells V 81) from setRow_heap _ _ _ _ _ _ F1.out)
  have F3 := Lib.hid (below_setRow (HBA.out.trans (HB2.out.mono (by omega))) (Nat.le_refl _) V)
  clear hb2
  go_wp2_with (first | ((with_reducible refine wpList_build_at (o := ⟨some 7, .build 81 #[(0, .tmp 4), (1, .tmp 6)], _, _, _, _⟩) ?e1 81 #[(0, .tmp 4), (1, .tmp 6)] ?e2 #[(0, .int .u32 R), (1, .agg D)] ?e3 _ (HBD.out w2) ?_); (case e1 => rfl); (case e2 => rfl); (case e3 => (simp only [List.map_toArray, List.map_cons, List.map_nil]; rfl))) | ((with_reducible refine wpList_store_row (o := ⟨none, .store 81 (.tmp 2) (.tmp 7), _, _, _, _⟩) ?e1 81 (.tmp 2) (.tmp 7) ?e2 w.heap.size V ?e3 ?e4 81 _ F1.out SZ.out SQ.out SO.out ?_); (case e1 => rfl); (case e2 => rfl); (case e3 => rfl); (case e4 => rfl)))
  exact bodyPost_ret (v := .agg V) (by exact results_cell_row Tryd.results49 _ _ w.heap.size 81 V (0, 0) _ rfl F2.out Tryd.underlying81 rfl SZ.out) (by rfl) ⟨rfl, F3.out⟩
end Go.Proofs.YtnencoainacpoaaDoor

end
section
/-
  What the document's own Find of a block answers. Nothing that was there is written.
-/
namespace Go.Proofs.YtnencoainacpoaaDoor
open Go.RowKit WM
set_option linter.unusedVariables false
set_option maxRecDepth 100000
set_option maxHeartbeats 4000000 in
theorem rfind10_any (A : Option Addr) (c : Nat) (l : List Sg) (s : ByteArray) (w : World) (h1 : KSig.row w A c l) (hl : l.length ≤ 1000000) (hs : s.size ≤ 1000000) : Calls Tryd.prog 33 #[.slice A l.length c, .string s] w fun e w' => e = .returned (.int .i64 (sgFind l (nums s))) ∧ Below w.heap.size w w' := by
  have HB := Lib.hid (Below.refl w.heap.size w)
  have HNS := nums_len s
  by_cases h8 : s.size = 8
  · have HV := Lib.hid (show sgFind l (nums s) = sgFrom (sgOne (nums s)) 0 (l.drop 0) by unfold sgFind; rw [if_pos (by rw [HNS]; exact h8)]; rfl)
    have HC := Lib.hid (fun w => rone_any s w hs)
    have HXO := Lib.hid (sgOne_ok (nums s))
    have H1 := Lib.hid h1
    have hc1 := h1.1
    have hm1 := h1.2.1
    simp only [maxLen] at hm1
    have R1 := Lib.hid (fun h => sig_row H1.out h)
    generalize sgFind l (nums s) = V at *
    generalize sgOne (nums s) = X at *
    generalize hn1 : l.length = n at *
    have HL1 := Lib.hid hn1
    have hz := zeroSig
    rw [show KSig.v ⟨0, List.replicate 32 0⟩ = .agg (KSig.cs sgz).toArray from rfl] at hz
    have SZ := Lib.hid (sig_size HXO.out)
    have SQ := Lib.hid (sig_same sgz_ok HXO.out)
    have SO := Lib.hid (sig_ones X)
    rw [show KSig.v X = .agg (KSig.cs X).toArray from rfl] at HC
    have hzne : ¬ (KSig.cs sgz).toArray = #[] := by simp [KSig, Sg.cs]
    have HNEW := Lib.hid (fun (w9 : World) => heap_alloc_new w9 (.cells (KSig.cs sgz).toArray 81))
    have HNB := Lib.hid (fun (w9 : World) => (Below.refl w9.heap.size w9).alloc (Nat.le_refl _) (.cells (KSig.cs sgz).toArray 81))
    have HNS9 := Lib.hid (fun (w9 : World) => World.size_alloc w9 (.cells (KSig.cs sgz).toArray 81))
    generalize (KSig.cs sgz).toArray = Z at *
    clear h1 hn1 HNS
    go_enter Tryd.func33, Tryd.ntmps33
    go_wp2_with fail
    refine (HC.out _).mono ?_
    rintro e w1 ⟨rfl, hb1⟩
    have B1 := Lib.hid (HB.out.trans hb1)
    have N1 := Lib.hid (HNEW.out w1)
    have BB1 := Lib.hid (B1.out.trans ((HNB.out w1).mono B1.out.size))
    have NS1 := Lib.hid (HNS9.out w1)
    have XB1 := Lib.hid (show KSig.blk 81 ((w1.alloc (.cells Z 81)).setRow w1.heap.size (KSig.cs X).toArray) w1.heap.size X from setRow_heap _ _ _ _ _ _ N1.out)
    have BX1 := Lib.hid (below_setRow BB1.out B1.out.size (KSig.cs X).toArray)
    have hw1 := B1.out.size
    clear hb1
    go_wp2_with ((with_reducible refine wpList_store_row (o := ⟨none, .store 81 (.tmp 5) (.tmp 11), _, _, _, _⟩) ?e1 81 (.tmp 5) (.tmp 11) ?e2 w1.heap.size (KSig.cs X).toArray ?e3 ?e4 81 _ N1.out SZ.out SQ.out SO.out ?_); (case e1 => rfl); (case e2 => rfl); (case e3 => rfl); (case e4 => rfl))
    have XXB := Lib.hid (show ∀ wr, Below w.heap.size w wr ∧ wr.heap[w1.heap.size]? = ((w1.alloc (.cells Z 81)).setRow w1.heap.size (KSig.cs X).toArray).heap[w1.heap.size]? → KSig.at wr w1.heap.size 0 X ∧ w1.heap.size < wr.heap.size from fun wr h => ⟨Kind.at_blk (Kind.blk_same XB1.out h.2), Kind.blk_lt (Kind.blk_same XB1.out h.2)⟩)
    generalize (w1.alloc (.cells Z 81)).setRow w1.heap.size (KSig.cs X).toArray = w2 at *
    generalize w1.heap.size = g at *
    go_loopw [6] (fun i wr => ∃ k : Nat, k ≤ n ∧ i = .int .i64 k ∧ Below w.heap.size w wr ∧ wr.heap[g]? = w2.heap[g]? ∧ V = sgFrom X k (l.drop k)) (fun i _ => n - (intOf i).toNat)
    case atStart => exact ⟨0, Nat.zero_le _, rfl, BX1.out, rfl, HV.out⟩
    case round =>
      obtain ⟨k, hk, rfl, hb, hg, hf⟩ := hrel
      have HBB := Lib.hid hb
      have HG := Lib.hid hg
      by_cases hlt : k < n
      · have t1 : (k : Int) < (n : Int) := by omega
        obtain ⟨b1, off1, hA1, hb1w, hx1, hi1⟩ := R1.out (by omega)
        have IX1 := Lib.hid (hi1 k hlt k rfl)
        rw [← hA1] at IX1
        have Q1 := Lib.hid (hx1 k hlt)
        have X1 := Lib.hid (Kind.row_ok H1.out (i := k) (by rw [HL1.out]; exact hlt))
        have B0 := Lib.hid hb
        obtain ⟨xb, hxl⟩ := XXB.out wr ⟨hb, hg⟩
        have XB := Lib.hid xb
        have HXL := Lib.hid hxl
        have XX := Lib.hid HXO.out
        have hdr := sgFrom_step (x := X) (l := l) (k := k) (by rw [HL1.out]; exact hlt)
        change Hid (Sg.Ok (l.getD k sg0)) at X1
        have HQ := Lib.hid (show ∀ w9, (Op.equalIn 10000 81 (.agg (KSig.cs (l.getD k sg0)).toArray) (.agg (KSig.cs X).toArray)).run Tryd.prog w9 = .ok (decide (l.getD k sg0 = X)) w9 from fun w9 => eq_sig X1.out HXO.out w9)
        rw [hdr] at hf
        generalize l.getD k sg0 = x at *
        clear hx1 hi1 hA1 xb hdr
        by_cases he : x = X
        · subst he
          rw [if_pos rfl] at hf
          have HF := Lib.hid hf
          rw [show decide (x = x) = true by simp] at HQ
          clear hf hb hg
          go_wp2_with fail
          refine wp_region_G _ (by kernel_rfl) ?_
          refine wpG_take (i := 0) (oi := ⟨some 18, _, _, _, _, _⟩) (v := ?_) rfl (by kernel_rfl) (by kernel_rfl) (by kernel_rfl) (Or.inl ⟨by rfl, unib_val ?_⟩) ?_; rotate_left; (focus (intro w9 hSw; go_simp; try with_reducible rfl)); simp only [Act.put, List.setIfInBounds_toArray, List.set_cons_zero, List.set_cons_succ]
          refine wpG_take (i := 1) (oi := ⟨some 19, _, _, _, _, _⟩) (v := ?_) rfl (by kernel_rfl) (by kernel_rfl) (by kernel_rfl) (Or.inl ⟨by rfl, unib_val ?_⟩) ?_; rotate_left; (focus (intro w9 hSw; go_simp; try with_reducible rfl)); simp only [Act.put, List.setIfInBounds_toArray, List.set_cons_zero, List.set_cons_succ]
          refine wpG_take (i := 2) (oi := ⟨some 20, _, _, _, _, _⟩) (v := ?_) rfl (by kernel_rfl) (by kernel_rfl) (by kernel_rfl) (Or.inl ⟨by rfl, unib_val ?_⟩) ?_; rotate_left; (focus (intro w9 hSw; have q0 := IX1.out w9; go_simp; try with_reducible rfl)); simp only [Act.put, List.setIfInBounds_toArray, List.set_cons_zero, List.set_cons_succ]
          refine wpG_take (i := 3) (oi := ⟨some 21, _, _, _, _, _⟩) (v := (.agg (KSig.cs x).toArray)) rfl (by kernel_rfl) (by kernel_rfl) (by kernel_rfl) (Or.inl ⟨by rfl, unib_val ?_⟩) ?_; (focus (intro w9 hSw; exact exec_load_at 81 _ rfl _ rfl (load_sigK Q1.out X1.out (B0.out.trans (hSw.mono B0.out.size)) hb1w))); simp only [Act.put, List.setIfInBounds_toArray, List.set_cons_zero, List.set_cons_succ]
          refine wpG_take (i := 4) (oi := ⟨some 22, _, _, _, _, _⟩) (v := (.agg (KSig.cs x).toArray)) rfl (by kernel_rfl) (by kernel_rfl) (by kernel_rfl) (Or.inl ⟨by rfl, unib_val ?_⟩) ?_; (focus (intro w9 hSw; exact exec_load_at 81 _ rfl _ rfl (load_sigK XB.out XX.out hSw HXL.out))); simp only [Act.put, List.setIfInBounds_toArray, List.set_cons_zero, List.set_cons_succ]
          refine wpG_take (i := 5) (oi := ⟨some 23, _, _, _, _, _⟩) (v := (.bool true)) rfl (by kernel_rfl) (by kernel_rfl) (by kernel_rfl) (Or.inl ⟨by rfl, unib_val ?_⟩) ?_; (focus (intro w9 hSw; have q0 := HQ.out w9; exact exec_eql_at 81 _ _ _ rfl rfl rfl guardSig q0)); simp only [Act.put, List.setIfInBounds_toArray, List.set_cons_zero, List.set_cons_succ]
          refine wpG_done (by kernel_rfl) ?_ _
          intro w9 hSw _
          have B9 := Lib.hid (HBB.out.trans (hSw.mono HBB.out.size))
          clear hSw
          go_wp2
          go_ret
          exact ⟨by rw [HF.out]; try rfl, B9.out⟩
        · rw [if_neg he] at hf
          have HF := Lib.hid hf
          rw [decide_eq_false he] at HQ
          clear hf hb hg
          go_wp2_with fail
          refine wp_region_G _ (by kernel_rfl) ?_
          refine wpG_take (i := 0) (oi := ⟨some 18, _, _, _, _, _⟩) (v := ?_) rfl (by kernel_rfl) (by kernel_rfl) (by kernel_rfl) (Or.inl ⟨by rfl, unib_val ?_⟩) ?_; rotate_left; (focus (intro w9 hSw; go_simp; try with_reducible rfl)); simp only [Act.put, List.setIfInBounds_toArray, List.set_cons_zero, List.set_cons_succ]
          refine wpG_take (i := 1) (oi := ⟨some 19, _, _, _, _, _⟩) (v := ?_) rfl (by kernel_rfl) (by kernel_rfl) (by kernel_rfl) (Or.inl ⟨by rfl, unib_val ?_⟩) ?_; rotate_left; (focus (intro w9 hSw; go_simp; try with_reducible rfl)); simp only [Act.put, List.setIfInBounds_toArray, List.set_cons_zero, List.set_cons_succ]
          refine wpG_take (i := 2) (oi := ⟨some 20, _, _, _, _, _⟩) (v := ?_) rfl (by kernel_rfl) (by kernel_rfl) (by kernel_rfl) (Or.inl ⟨by rfl, unib_val ?_⟩) ?_; rotate_left; (focus (intro w9 hSw; have q0 := IX1.out w9; go_simp; try with_reducible rfl)); simp only [Act.put, List.setIfInBounds_toArray, List.set_cons_zero, List.set_cons_succ]
          refine wpG_take (i := 3) (oi := ⟨some 21, _, _, _, _, _⟩) (v := (.agg (KSig.cs x).toArray)) rfl (by kernel_rfl) (by kernel_rfl) (by kernel_rfl) (Or.inl ⟨by rfl, unib_val ?_⟩) ?_; (focus (intro w9 hSw; exact exec_load_at 81 _ rfl _ rfl (load_sigK Q1.out X1.out (B0.out.trans (hSw.mono B0.out.size)) hb1w))); simp only [Act.put, List.setIfInBounds_toArray, List.set_cons_zero, List.set_cons_succ]
          refine wpG_take (i := 4) (oi := ⟨some 22, _, _, _, _, _⟩) (v := (.agg (KSig.cs X).toArray)) rfl (by kernel_rfl) (by kernel_rfl) (by kernel_rfl) (Or.inl ⟨by rfl, unib_val ?_⟩) ?_; (focus (intro w9 hSw; exact exec_load_at 81 _ rfl _ rfl (load_sigK XB.out XX.out hSw HXL.out))); simp only [Act.put, List.setIfInBounds_toArray, List.set_cons_zero, List.set_cons_succ]
          refine wpG_take (i := 5) (oi := ⟨some 23, _, _, _, _, _⟩) (v := (.bool false)) rfl (by kernel_rfl) (by kernel_rfl) (by kernel_rfl) (Or.inl ⟨by rfl, unib_val ?_⟩) ?_; (focus (intro w9 hSw; have q0 := HQ.out w9; exact exec_eql_at 81 _ _ _ rfl rfl rfl guardSig q0)); simp only [Act.put, List.setIfInBounds_toArray, List.set_cons_zero, List.set_cons_succ]
          refine wpG_done (by kernel_rfl) ?_ _
          intro w9 hSw _
          have B9 := Lib.hid (HBB.out.trans (hSw.mono HBB.out.size))
          have G9 := Lib.hid ((hSw.block _ HXL.out).trans HG.out)
          clear hSw
          go_wp2
          go_roundw
          case rel => exact ⟨k + 1, by omega, by go_num, B9.out, G9.out, HF.out⟩
          case measure => simp [intOf]; omega
      · obtain rfl : k = n := by omega
        have t1 : ¬ (k : Int) < (k : Int) := by omega
        rw [List.drop_eq_nil_of_le (by rw [HL1.out]; exact Nat.le_refl _)] at hf
        have HF := Lib.hid (show V = -1 from hf)
        clear hf hb hg
        go_wp2
        go_ret
        exact ⟨by rw [HF.out]; try rfl, HBB.out⟩
  · have HF := Lib.hid (show sgFind l (nums s) = -1 by unfold sgFind; rw [if_neg (by rw [HNS]; exact h8)])
    have t1 : ¬ (s.size : Int) = 8 := by omega
    go_enter Tryd.func33, Tryd.ntmps33
    go_wp2
    go_ret
    exact ⟨by rw [HF.out]; try rfl, HB.out⟩
end Go.Proofs.YtnencoainacpoaaDoor

end
