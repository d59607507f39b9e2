import Derived.Test.YtcmknbdeafcknaaDoorRcRefJoin
import Derived.Test.YtcmknbdeafcknaaDoorGRcR
/-
  What the document's own Leq of records answers. Nothing that was there is written.
-/
namespace Go.Proofs.YtcmknbdeafcknaaDoor
open Go.RowKit WM
set_option linter.unusedVariables false
set_option maxRecDepth 100000
theorem xrrsame_any (x y : RcA) (w : World) (h : RvAt w x) (k : RvAt w y) (hl : x.R.fs.length ≤ 1000) : Calls Tryd.prog 10 #[.agg x.cells, .agg y.cells] w fun e w' => e = .returned (.bool (x.R.same y.R)) ∧ Below w.heap.size w w' :=
  rrsame_any x.R.z x.R.n x.R.r x.A _ x.c x.R.fs y.R.z y.R.n y.R.r y.A _ y.c y.R.fs w h.len k.len h.1.2 k.1.2 rfl rfl hl h.2 k.2
theorem xrrjoin_any (x y : RcA) (w : World) (hx : RvAt w x) (hy : RvAt w y) (hlx : x.R.fs.length ≤ 1000) (hly : y.R.fs.length ≤ 1000) : Calls Tryd.prog 9 #[.agg x.cells, .agg y.cells] w fun e w' =>
    ∃ j : RcA, e = .returned (.tuple #[.agg j.cells, .bool (x.R.join y.R).isSome]) ∧ j.R = (x.R.join y.R).getD rc0 ∧ RvAt w' j ∧ Below w.heap.size w w' :=
  (rrjoin_any x y w hx hy hlx hly).mono fun e w' ⟨j, h1, h2, h3, _, h5⟩ => ⟨j, h1, h2, h3, h5⟩
theorem join_small {a b : Rc} {j : RcA} (h : j.R = (a.join b).getD rc0) : j.R.fs.length ≤ 1000 := by
  rw [h]
  cases hj : a.join b with
  | none => exact Nat.zero_le _
  | some R =>
    have hm : ((a.z == b.z) && a.may && b.may) = true := by
      cases hq : ((a.z == b.z) && a.may && b.may)
      · unfold Rc.may at hq
        unfold Rc.join rjoin at hj
        rw [hq] at hj
        simp at hj
      · rfl
    simp only [Bool.and_eq_true, beq_iff_eq] at hm
    rw [join_eq hm.1.2 hm.2 hm.1.1] at hj
    cases hj
    have := rmay_len (jn_may hm.1.2 hm.2)
    show (jn a b).fs.length ≤ 1000
    omega
set_option maxHeartbeats 4000000 in
theorem rrleq_any (x y : RcA) (w : World) (hx : RvAt w x) (hy : RvAt w y) (hlx : x.R.fs.length ≤ 1000) (hly : y.R.fs.length ≤ 1000) :
    Calls Tryd.prog 12 #[.agg x.cells, .agg y.cells] w fun e w' => e = .returned (.bool (x.R.leq y.R)) ∧ Below w.heap.size w w' := by
  have X0 := Lib.hid ((XAt.new w hx.len).old (.cells y.cells 28))
  have x1 := XAt.new (w.alloc (.cells x.cells 28)) hy.len
  rw [World.size_alloc] at x1
  have X1 := Lib.hid x1
  have HB := Lib.hid (((Below.refl w.heap.size w).alloc (Nat.le_refl _) (.cells x.cells 28)).alloc (by simp) (.cells y.cells 28))
  have LX := Lib.hid X0.out.load
  have LY := Lib.hid X1.out.load
  have HJ := Lib.hid (xrrjoin_any x y _ (hx.below HB.out (Nat.le_refl _)) (hy.below HB.out (Nat.le_refl _)) hlx hly)
  have HY := Lib.hid hy
  have hz := zeroX
  have HV := Lib.hid (Rc.leq_eq x.R y.R)
  have HSM := Lib.hid (fun (j : RcA) (h : j.R = (x.R.join y.R).getD rc0) => join_small h)
  generalize x.R.leq y.R = V at *
  generalize x.R.join y.R = o at *
  clear x1 hx hy hlx hly
  go_enter Tryd.func12, Tryd.ntmps12
  go_wp2_with (first | ((with_reducible refine wpList_load_by (o := ⟨some 9, .load 28 (.tmp 2), _, _, _, _⟩) ?e1 28 (.tmp 2) ?e2 ⟨w.heap.size, 0, none⟩ ?e3 _ LX.out ?_); (case e1 => rfl); (case e2 => rfl); (case e3 => rfl)) | ((with_reducible refine wpList_load_by (o := ⟨some 10, .load 28 (.tmp 3), _, _, _, _⟩) ?e1 28 (.tmp 3) ?e2 ⟨(w.heap.size + 1), 0, none⟩ ?e3 _ LY.out ?_); (case e1 => rfl); (case e2 => rfl); (case e3 => rfl)))
  refine HJ.out.mono ?_
  rintro e w1 ⟨j, rfl, hj, hk, hb1⟩
  have ZJ := Lib.hid hk.len
  have HJR := Lib.hid hj
  have HJV := Lib.hid hk
  have HJS := Lib.hid (HSM.out j hj)
  have B1 := Lib.hid (HB.out.trans (hb1.mono HB.out.size))
  have Y1 := Lib.hid (X1.out.below hb1 X1.out.lt)
  clear hb1 hj hk
  go_wp2_with (first | ((with_reducible refine wpList_store_newx (o := ⟨none, .store 28 (.tmp 5) (.tmp 12), _, _, _, _⟩) (w := w1) ?e1 (.tmp 5) (.tmp 12) ?e2 w1.heap.size ?e0 ?e3 j ?e4 ZJ.out ?_); (case e1 => rfl); (case e2 => rfl); (case e0 => rfl); (case e3 => rfl); (case e4 => rfl); intro w2 hb2 hx2 hs2; have B2 := Lib.hid (B1.out.trans (hb2.mono B1.out.size)); have LJ := Lib.hid hx2.load; have LY2 := Lib.hid (Y1.out.below hb2 Y1.out.lt).load; have HS := Lib.hid (xrrsame_any j y w2 (HJV.out.below hb2 (Nat.le_refl _)) (HY.out.below B2.out (Nat.le_refl _)) HJS.out); clear hb2 hx2 hs2) | ((with_reducible refine wpList_load_by (o := ⟨some 14, .load 28 (.tmp 5), _, _, _, _⟩) ?e1 28 (.tmp 5) ?e2 ⟨w1.heap.size, 0, none⟩ ?e3 _ LJ.out ?_); (case e1 => rfl); (case e2 => rfl); (case e3 => rfl)) | ((with_reducible refine wpList_load_by (o := ⟨some 15, .load 28 (.tmp 3), _, _, _, _⟩) ?e1 28 (.tmp 3) ?e2 ⟨(w.heap.size + 1), 0, none⟩ ?e3 _ LY2.out ?_); (case e1 => rfl); (case e2 => rfl); (case e3 => rfl)))
  refine HS.out.mono ?_
  rintro e w3 ⟨rfl, hb3⟩
  have B3 := Lib.hid (B2.out.trans (hb3.mono B2.out.size))
  clear hb3
  cases o with
  | none =>
    have HV2 := Lib.hid (show V = false by rw [HV.out]; rfl)
    dsimp only [Option.isSome_none]
    go_wp2
    go_ret
    exact ⟨by rw [HV2.out]; try rfl, B3.out⟩
  | some R =>
    have HV2 := Lib.hid (show V = j.R.same y.R by rw [HV.out, HJR.out]; rfl)
    dsimp only [Option.isSome_some]
    go_wp2
    go_ret
    exact ⟨by rw [HV2.out]; try rfl, B3.out⟩
end Go.Proofs.YtcmknbdeafcknaaDoor

