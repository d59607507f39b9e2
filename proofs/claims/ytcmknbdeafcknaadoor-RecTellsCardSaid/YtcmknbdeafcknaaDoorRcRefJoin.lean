import Derived.Test.YtcmknbdeafcknaaDoorBkRec
import Derived.Test.YtcmknbdeafcknaaDoorGRcR
import Derived.Test.YtcmknbdeafcknaaDoorGClR
import Derived.Test.YtcmknbdeafcknaaDoorGStR
import Derived.Test.YtcmknbdeafcknaaDoorRcTag
/-
  What the document's own Join of records answers. Nothing that was there is written.
-/
namespace Go.Proofs.YtcmknbdeafcknaaDoor
open Go.RowKit WM
set_option linter.unusedVariables false
set_option maxRecDepth 100000
theorem xrrmay_any (x : RcA) (w : World) (h : RvAt w x) (hl : x.R.fs.length ≤ 1000) : Calls Tryd.prog 11 #[.agg x.cells] w fun e w' => e = .returned (.bool x.R.may) ∧ Below w.heap.size w w' :=
  rrmay_any x.R.z x.R.n x.R.r x.A _ x.c x.R.fs w h.len rfl hl h.2
theorem xrrfind_any (x : RcA) (no : Int) (w : World) (h : RvAt w x) (hl : x.R.fs.length ≤ 1000) : Calls Tryd.prog 7 #[.agg x.cells, .int .i64 no] w fun e w' => e = .returned (.tuple #[((rfind x.R.fs no).getD cel00).v, .bool (rfind x.R.fs no).isSome]) ∧ Below w.heap.size w w' :=
  rrfind_any x.R.z x.R.n x.R.r x.A _ x.c x.R.fs no w h.len rfl hl h.2
/-- What holds between two rounds. -/
def RJ (w : World) (x y : RcA) (g : Nat) (z : List Int) (m : Int × Int) (v : Value) (fs : List Fld) (W : World) : Prop :=
  XAt W w.heap.size x ∧ XAt W (w.heap.size + 1) y ∧ XAt W (w.heap.size + 1 + 1) rcA0 ∧ RcAt W g z m.1 m.2 v ∧ W.ownsRow w.heap.size 40 4 v fs.length (fs.flatMap Fld.cs) ∧ Below w.heap.size w W
section
variable {w W W' : World} {x y : RcA} {g : Nat} {z : List Int} {m : Int × Int} {v : Value} {fs : List Fld}
theorem RJ.below (h : RJ w x y g z m v fs W) (hb : Below W.heap.size W W') : RJ w x y g z m v fs W' := by
  obtain ⟨h1, h2, h3, h4, h5, h6⟩ := h
  exact ⟨h1.below hb h1.lt, h2.below hb h2.lt, h3.below hb h3.lt, h4.below hb h4.lt, own_below h5 hb, h6.trans (hb.mono h6.size)⟩
theorem RJ.alloc (h : RJ w x y g z m v fs W) (o : Obj) : RJ w x y g z m v fs (W.alloc o) := h.below ((Below.refl _ _).alloc (Nat.le_refl _) o)
theorem ClAt.ne {b b' : Nat} {c : Cel} {o : Array Value} {t : TypeId} (hc : ClAt W b c) (h : W.heap[b']? = some (.cells o t)) (ht : t ≠ 32) : b' ≠ b := by
  rintro rfl
  unfold ClAt at hc
  rw [hc] at h
  simp only [Option.some.injEq, Obj.cells.injEq] at h
  exact ht h.2.1.symm
theorem grown_put3 (W : World) (b : Nat) (p q s : Value) : W.grownBy (((W.setCell ⟨b, 0, none⟩ p).setCell ⟨b, 1, none⟩ q).setCell ⟨b, 2, none⟩ s) (some b) :=
  ⟨rfl, rfl, rfl, Nat.le_trans (Nat.le_trans (KeepsWalks.setCell W _ p).size (KeepsWalks.setCell _ _ q).size) (KeepsWalks.setCell _ _ s).size, fun k _ hk => by
    have hne : k ≠ b := fun e => hk (by rw [e])
    rw [Below.heap_setCell _ _ _ k hne, Below.heap_setCell _ _ _ k hne, Below.heap_setCell _ _ _ k hne]⟩
theorem RJ.put {b : Nat} {c : Cel} (h : RJ w x y g z m v fs W) (hc : ClAt W b c) (hb : w.heap.size ≤ b) (d : Cel) : RJ w x y g z m v fs (((W.setCell ⟨b, 0, none⟩ (.int .i64 d.n)).setCell ⟨b, 1, none⟩ (.int .i64 d.r)).setCell ⟨b, 2, none⟩ (.string d.s)) := by
  obtain ⟨h1, h2, h3, h4, h5, h6⟩ := h
  have hg := grown_put3 W b (.int .i64 d.n) (.int .i64 d.r) (.string d.s)
  have ne : ∀ {b' : Nat} {o : Array Value}, W.heap[b']? = some (.cells o 28) → some b' ≠ some b := fun h e => hc.ne h (by decide) (Option.some.inj e)
  refine ⟨h1.same (hg.block _ h1.lt (ne h1.2)), h2.same (hg.block _ h2.lt (ne h2.2)), h3.same (hg.block _ h3.lt (ne h3.2)), h4.kept hg (ne h4.2), h5.kept hg ?_, below_put3 h6 hb _ _ _⟩
  rcases h5.2 with ⟨rfl, _⟩ | ⟨g', cap, cur, rfl, _, hgb, _⟩
  · exact .inl rfl
  · exact .inr fun e => hc.ne hgb (by decide) (by simpa [Value.ownBlock] using e)
end
theorem jstep (a b : Rc) (m : Int × Int) (k : Nat) : toF (fun k => ofilt m (omerge (a.at k) (b.at k))) 0 (k + 1) = toF (fun k => ofilt m (omerge (a.at k) (b.at k))) 0 k ++ (match omerge (rfind a.fs (k : Int)) (rfind b.fs (k : Int)) with | none => [] | some c => if stLess m.1 m.2 c.n c.r = true then [⟨(k : Int), c⟩] else []) := by
  rw [toF_last, Nat.zero_add]
  congr 1
  show (match ofilt m (omerge (rfind a.fs (k : Int)) (rfind b.fs (k : Int))) with | some c => [(⟨(k : Int), c⟩ : Fld)] | none => []) = _
  cases omerge (rfind a.fs (k : Int)) (rfind b.fs (k : Int)) with
  | none => rfl
  | some c =>
    dsimp only
    cases hs : stLess m.1 m.2 c.n c.r
    · rw [ofilt_no (m := m) hs]; rfl
    · rw [ofilt_some (m := m) hs]; rfl
theorem rfind_small {R : Rc} (h : R.may = true) {no : Int} {c : Cel} (e : rfind R.fs no = some c) : c.s.size ≤ 300 := by
  obtain ⟨f, hf, _, rfl⟩ := rfind_mem e
  exact Nat.le_trans (cmay_iff.1 (rmay_all h f hf).2.2.1).2.2 (by omega)
def RRJPost (w : World) (o : Option Rc) (e : Ending) (w' : World) : Prop :=
  ∃ j : RcA, e = .returned (.tuple #[.agg j.cells, .bool o.isSome]) ∧ j.R = o.getD rc0 ∧ RvAt w' j ∧ FTag w' j.A ∧ Below w.heap.size w w'
theorem toF_le (φ : Nat → Option Cel) : ∀ (n k : Nat), (toF φ k n).length ≤ n
  | 0, _ => Nat.le_refl _
  | n + 1, k => by
    rw [toF, List.length_append]
    have := toF_le φ n (k + 1)
    cases φ k <;> simp <;> omega
theorem rj_step {w W w1 : World} {x y : RcA} {g : Nat} {z : List Int} {m : Int × Int} {v v' : Value} {fs : List Fld} {f : Fld} (h : RJ w x y g z m v fs W) (hg : w.heap.size + 1 + 1 < g)
    (hO : w1.ownsRow w.heap.size 40 4 v' (fs.length + 1) ((fs ++ [f]).flatMap Fld.cs)) (hG : W.grownBy w1 v.ownBlock) : RJ w x y g z m v' (fs ++ [f]) (w1.setCell ⟨g, 18, none⟩ v') := by
  obtain ⟨h1, h2, h3, h4, h5, h6⟩ := h
  have hs := grownBy_setCell18 w1 g 18 v'
  have k1 : XAt w1 w.heap.size x := h1.same (hG.block _ h1.lt (h1.rc.not_row h5))
  have k2 : XAt w1 (w.heap.size + 1) y := h2.same (hG.block _ h2.lt (h2.rc.not_row h5))
  have k3 : XAt w1 (w.heap.size + 1 + 1) rcA0 := h3.same (hG.block _ h3.lt (h3.rc.not_row h5))
  have k4 := h4.kept hG (h4.not_row h5)
  have ne : ∀ {b : Nat}, b < g → some b ≠ some g := fun h e => by have := Option.some.inj e; omega
  refine ⟨k1.same (hs.block _ k1.lt (ne (by omega))), k2.same (hs.block _ k2.lt (ne (by omega))), k3.same (hs.block _ k3.lt (ne (by omega))), k4.put v', ?_, (h6.grown hG h6.size (fun j e => own_base h5 e)).setCell (p := ⟨g, 18, none⟩) (by show w.heap.size ≤ g; omega) v'⟩
  rw [List.length_append]
  exact hO.kept hs (.inr (k4.not_row hO).symm)
set_option maxHeartbeats 16000000 in
theorem rrjoin_any (x y : RcA) (w : World) (hx : RvAt w x) (hy : RvAt w y) (hlx : x.R.fs.length ≤ 1000) (hly : y.R.fs.length ≤ 1000) :
    Calls Tryd.prog 9 #[.agg x.cells, .agg y.cells] w (RRJPost w (x.R.join y.R)) := by
  have HX := Lib.hid hx
  have HY := Lib.hid hy
  have HLX := Lib.hid hlx
  have HLY := Lib.hid hly
  have hzx := hx.len
  have hzy := hy.len
  have X1 := Lib.hid ((XAt.new w hzx).old (.cells y.cells 28) |>.old (.cells rcA0.cells 28))
  have x2 := (XAt.new (w.alloc (.cells x.cells 28)) hzy).old (.cells rcA0.cells 28)
  rw [World.size_alloc] at x2
  have X2 := Lib.hid x2
  have x4 := XAt.new (x := rcA0) ((w.alloc (.cells x.cells 28)).alloc (.cells y.cells 28)) z16_len
  rw [World.size_alloc, World.size_alloc] at x4
  have X4 := Lib.hid x4
  have HB := Lib.hid ((((Below.refl w.heap.size w).alloc (Nat.le_refl _) (.cells x.cells 28)).alloc (by simp) (.cells y.cells 28)).alloc (by simp; omega) (.cells rcA0.cells 28))
  have hz := zeroX
  have hb0 := build0
  have Z0 : Hid (rcA0.R.z.length = 16) := Lib.hid z16_len
  have LX := Lib.hid X1.out.load
  have HM1 := Lib.hid (xrrmay_any x _ (HX.out.below HB.out (Nat.le_refl _)) HLX.out)
  have HE := eq_id hx.1.2 hy.1.2 hzx hzy
  have HNO : Hid ((x.R.join y.R) = none → ∀ w', Below w.heap.size w w' → RRJPost w (x.R.join y.R) (.returned (.tuple #[.agg rcA0.cells, .bool false])) w') := Lib.hid (fun e w' hb => by
    rw [e]
    exact ⟨rcA0, rfl, rfl, RvAt.zero w', fun p hp => (by cases hp), hb⟩)
  have HJN : Hid (((x.R.z == y.R.z) && x.R.may && y.R.may) = false → x.R.join y.R = none) := Lib.hid (fun h => by
    unfold Rc.join rjoin
    unfold Rc.may at h
    rw [h]
    simp)
  have HYES : Hid (x.R.may = true → y.R.may = true → x.R.z = y.R.z → x.R.join y.R = some (jn x.R y.R)) := Lib.hid (fun h1 h2 h3 => join_eq h1 h2 h3)
  clear x2 x4 hx hy hlx hly
  cases hm1 : x.R.may
  · rw [hm1] at HM1
    have HN := Lib.hid (HNO.out (HJN.out (by rw [hm1, Bool.and_false]; rfl)))
    generalize RRJPost w (x.R.join y.R) = RR at *
    clear hm1 HE
    cases hm2 : y.R.may
    · go_enter Tryd.func9, Tryd.ntmps9
      go_wp2_with (first | ((with_reducible refine wpList_load_by (o := ⟨some 15, .load 28 (.tmp 2), _, _, _, _⟩) ?e1 28 (.tmp 2) ?e2 ⟨w.heap.size, 0, none⟩ ?e3 _ LX.out ?_); (case e1 => rfl); (case e2 => rfl); (case e3 => rfl)))
      refine HM1.out.mono ?_
      rintro e w1 ⟨rfl, hb1⟩
      have Y1 := Lib.hid (X1.out.below hb1 X1.out.lt)
      have Y2 := Lib.hid (X2.out.below hb1 X2.out.lt)
      have Y4 := Lib.hid (X4.out.below hb1 X4.out.lt)
      have B1 := Lib.hid (HB.out.trans (hb1.mono HB.out.size))
      clear hb1
      have LY := Lib.hid Y2.out.load
      have HM2 := Lib.hid (xrrmay_any y w1 (HY.out.below B1.out (Nat.le_refl _)) HLY.out)
      rw [hm2] at HM2
      clear hm2
      go_wp2_with (first | ((with_reducible refine wpList_load_by (o := ⟨some 17, .load 28 (.tmp 3), _, _, _, _⟩) ?e1 28 (.tmp 3) ?e2 ⟨(w.heap.size + 1), 0, none⟩ ?e3 _ LY.out ?_); (case e1 => rfl); (case e2 => rfl); (case e3 => rfl)))
      refine HM2.out.mono ?_
      rintro e w2 ⟨rfl, hb2⟩
      have Q1 := Lib.hid (Y1.out.below hb2 Y1.out.lt)
      have Q2 := Lib.hid (Y2.out.below hb2 Y2.out.lt)
      have Q4 := Lib.hid (Y4.out.below hb2 Y4.out.lt)
      have B2 := Lib.hid (B1.out.trans (hb2.mono B1.out.size))
      clear hb2
      have L1 := Lib.hid Q1.out.load_id
      have L2 := Lib.hid Q2.out.load_id
      go_wp2_with (first | ((with_reducible refine wpList_load_by (o := ⟨some 27, .load 23 (.tmp 26), _, _, _, _⟩) ?e1 23 (.tmp 26) ?e2 ⟨w.heap.size, 0, none⟩ ?e3 _ L1.out ?_); (case e1 => rfl); (case e2 => rfl); (case e3 => rfl)) | ((with_reducible refine wpList_load_by (o := ⟨some 29, .load 23 (.tmp 28), _, _, _, _⟩) ?e1 23 (.tmp 28) ?e2 ⟨(w.heap.size + 1), 0, none⟩ ?e3 _ L2.out ?_); (case e1 => rfl); (case e2 => rfl); (case e3 => rfl)) | ((with_reducible refine wpList_store_oldx (o := ⟨none, .store 28 (.tmp 4) (.tmp 32), _, _, _, _⟩) ?e1 (.tmp 4) (.tmp 32) ?e2 (w.heap.size + 1 + 1) _ Q4.out ?e3 rcA0 ?e4 Z0.out ?_); (case e1 => rfl); (case e2 => rfl); (case e3 => rfl); (case e4 => rfl); intro w99 hg99 hx99; have X99 := Lib.hid hx99; have G99 := Lib.hid hg99; clear hx99 hg99))
      refine bodyPost_ret (v := .tuple #[.agg rcA0.cells, .bool false]) ?_ rfl ?_
      · exact res_rc2 Tryd.results9 rfl X99.out.rc
      · exact HN.out w99 (B2.out.grown G99.out B2.out.size (fun k e => by have := Option.some.inj e; omega))
    · go_enter Tryd.func9, Tryd.ntmps9
      go_wp2_with (first | ((with_reducible refine wpList_load_by (o := ⟨some 15, .load 28 (.tmp 2), _, _, _, _⟩) ?e1 28 (.tmp 2) ?e2 ⟨w.heap.size, 0, none⟩ ?e3 _ LX.out ?_); (case e1 => rfl); (case e2 => rfl); (case e3 => rfl)))
      refine HM1.out.mono ?_
      rintro e w1 ⟨rfl, hb1⟩
      have Y1 := Lib.hid (X1.out.below hb1 X1.out.lt)
      have Y2 := Lib.hid (X2.out.below hb1 X2.out.lt)
      have Y4 := Lib.hid (X4.out.below hb1 X4.out.lt)
      have B1 := Lib.hid (HB.out.trans (hb1.mono HB.out.size))
      clear hb1
      have LY := Lib.hid Y2.out.load
      have HM2 := Lib.hid (xrrmay_any y w1 (HY.out.below B1.out (Nat.le_refl _)) HLY.out)
      rw [hm2] at HM2
      clear hm2
      go_wp2_with (first | ((with_reducible refine wpList_load_by (o := ⟨some 17, .load 28 (.tmp 3), _, _, _, _⟩) ?e1 28 (.tmp 3) ?e2 ⟨(w.heap.size + 1), 0, none⟩ ?e3 _ LY.out ?_); (case e1 => rfl); (case e2 => rfl); (case e3 => rfl)))
      refine HM2.out.mono ?_
      rintro e w2 ⟨rfl, hb2⟩
      have Q1 := Lib.hid (Y1.out.below hb2 Y1.out.lt)
      have Q2 := Lib.hid (Y2.out.below hb2 Y2.out.lt)
      have Q4 := Lib.hid (Y4.out.below hb2 Y4.out.lt)
      have B2 := Lib.hid (B1.out.trans (hb2.mono B1.out.size))
      clear hb2
      have L1 := Lib.hid Q1.out.load_id
      have L2 := Lib.hid Q2.out.load_id
      go_wp2_with (first | ((with_reducible refine wpList_load_by (o := ⟨some 27, .load 23 (.tmp 26), _, _, _, _⟩) ?e1 23 (.tmp 26) ?e2 ⟨w.heap.size, 0, none⟩ ?e3 _ L1.out ?_); (case e1 => rfl); (case e2 => rfl); (case e3 => rfl)) | ((with_reducible refine wpList_load_by (o := ⟨some 29, .load 23 (.tmp 28), _, _, _, _⟩) ?e1 23 (.tmp 28) ?e2 ⟨(w.heap.size + 1), 0, none⟩ ?e3 _ L2.out ?_); (case e1 => rfl); (case e2 => rfl); (case e3 => rfl)) | ((with_reducible refine wpList_store_oldx (o := ⟨none, .store 28 (.tmp 4) (.tmp 32), _, _, _, _⟩) ?e1 (.tmp 4) (.tmp 32) ?e2 (w.heap.size + 1 + 1) _ Q4.out ?e3 rcA0 ?e4 Z0.out ?_); (case e1 => rfl); (case e2 => rfl); (case e3 => rfl); (case e4 => rfl); intro w99 hg99 hx99; have X99 := Lib.hid hx99; have G99 := Lib.hid hg99; clear hx99 hg99))
      refine bodyPost_ret (v := .tuple #[.agg rcA0.cells, .bool false]) ?_ rfl ?_
      · exact res_rc2 Tryd.results9 rfl X99.out.rc
      · exact HN.out w99 (B2.out.grown G99.out B2.out.size (fun k e => by have := Option.some.inj e; omega))
  · rw [hm1] at HM1
    cases hm2 : y.R.may
    · have HN := Lib.hid (HNO.out (HJN.out (by rw [hm2, Bool.and_false])))
      generalize RRJPost w (x.R.join y.R) = RR at *
      clear hm1 HE
      go_enter Tryd.func9, Tryd.ntmps9
      go_wp2_with (first | ((with_reducible refine wpList_load_by (o := ⟨some 15, .load 28 (.tmp 2), _, _, _, _⟩) ?e1 28 (.tmp 2) ?e2 ⟨w.heap.size, 0, none⟩ ?e3 _ LX.out ?_); (case e1 => rfl); (case e2 => rfl); (case e3 => rfl)))
      refine HM1.out.mono ?_
      rintro e w1 ⟨rfl, hb1⟩
      have Y1 := Lib.hid (X1.out.below hb1 X1.out.lt)
      have Y2 := Lib.hid (X2.out.below hb1 X2.out.lt)
      have Y4 := Lib.hid (X4.out.below hb1 X4.out.lt)
      have B1 := Lib.hid (HB.out.trans (hb1.mono HB.out.size))
      clear hb1
      have LY := Lib.hid Y2.out.load
      have HM2 := Lib.hid (xrrmay_any y w1 (HY.out.below B1.out (Nat.le_refl _)) HLY.out)
      rw [hm2] at HM2
      clear hm2
      go_wp2_with (first | ((with_reducible refine wpList_load_by (o := ⟨some 17, .load 28 (.tmp 3), _, _, _, _⟩) ?e1 28 (.tmp 3) ?e2 ⟨(w.heap.size + 1), 0, none⟩ ?e3 _ LY.out ?_); (case e1 => rfl); (case e2 => rfl); (case e3 => rfl)))
      refine HM2.out.mono ?_
      rintro e w2 ⟨rfl, hb2⟩
      have Q1 := Lib.hid (Y1.out.below hb2 Y1.out.lt)
      have Q2 := Lib.hid (Y2.out.below hb2 Y2.out.lt)
      have Q4 := Lib.hid (Y4.out.below hb2 Y4.out.lt)
      have B2 := Lib.hid (B1.out.trans (hb2.mono B1.out.size))
      clear hb2
      have L1 := Lib.hid Q1.out.load_id
      have L2 := Lib.hid Q2.out.load_id
      go_wp2_with (first | ((with_reducible refine wpList_load_by (o := ⟨some 27, .load 23 (.tmp 26), _, _, _, _⟩) ?e1 23 (.tmp 26) ?e2 ⟨w.heap.size, 0, none⟩ ?e3 _ L1.out ?_); (case e1 => rfl); (case e2 => rfl); (case e3 => rfl)) | ((with_reducible refine wpList_load_by (o := ⟨some 29, .load 23 (.tmp 28), _, _, _, _⟩) ?e1 23 (.tmp 28) ?e2 ⟨(w.heap.size + 1), 0, none⟩ ?e3 _ L2.out ?_); (case e1 => rfl); (case e2 => rfl); (case e3 => rfl)) | ((with_reducible refine wpList_store_oldx (o := ⟨none, .store 28 (.tmp 4) (.tmp 32), _, _, _, _⟩) ?e1 (.tmp 4) (.tmp 32) ?e2 (w.heap.size + 1 + 1) _ Q4.out ?e3 rcA0 ?e4 Z0.out ?_); (case e1 => rfl); (case e2 => rfl); (case e3 => rfl); (case e4 => rfl); intro w99 hg99 hx99; have X99 := Lib.hid hx99; have G99 := Lib.hid hg99; clear hx99 hg99))
      refine bodyPost_ret (v := .tuple #[.agg rcA0.cells, .bool false]) ?_ rfl ?_
      · exact res_rc2 Tryd.results9 rfl X99.out.rc
      · exact HN.out w99 (B2.out.grown G99.out B2.out.size (fun k e => by have := Option.some.inj e; omega))
    · cases hq : (x.R.z == y.R.z)
      · have HN := Lib.hid (HNO.out (HJN.out (by rw [hq]; rfl)))
        rw [hq] at HE
        generalize RRJPost w (x.R.join y.R) = RR at *
        clear hm1 hq
        go_enter Tryd.func9, Tryd.ntmps9
        go_wp2_with (first | ((with_reducible refine wpList_load_by (o := ⟨some 15, .load 28 (.tmp 2), _, _, _, _⟩) ?e1 28 (.tmp 2) ?e2 ⟨w.heap.size, 0, none⟩ ?e3 _ LX.out ?_); (case e1 => rfl); (case e2 => rfl); (case e3 => rfl)))
        refine HM1.out.mono ?_
        rintro e w1 ⟨rfl, hb1⟩
        have Y1 := Lib.hid (X1.out.below hb1 X1.out.lt)
        have Y2 := Lib.hid (X2.out.below hb1 X2.out.lt)
        have Y4 := Lib.hid (X4.out.below hb1 X4.out.lt)
        have B1 := Lib.hid (HB.out.trans (hb1.mono HB.out.size))
        clear hb1
        have LY := Lib.hid Y2.out.load
        have HM2 := Lib.hid (xrrmay_any y w1 (HY.out.below B1.out (Nat.le_refl _)) HLY.out)
        rw [hm2] at HM2
        clear hm2
        go_wp2_with (first | ((with_reducible refine wpList_load_by (o := ⟨some 17, .load 28 (.tmp 3), _, _, _, _⟩) ?e1 28 (.tmp 3) ?e2 ⟨(w.heap.size + 1), 0, none⟩ ?e3 _ LY.out ?_); (case e1 => rfl); (case e2 => rfl); (case e3 => rfl)))
        refine HM2.out.mono ?_
        rintro e w2 ⟨rfl, hb2⟩
        have Q1 := Lib.hid (Y1.out.below hb2 Y1.out.lt)
        have Q2 := Lib.hid (Y2.out.below hb2 Y2.out.lt)
        have Q4 := Lib.hid (Y4.out.below hb2 Y4.out.lt)
        have B2 := Lib.hid (B1.out.trans (hb2.mono B1.out.size))
        clear hb2
        have L1 := Lib.hid Q1.out.load_id
        have L2 := Lib.hid Q2.out.load_id
        go_wp2_with (first | ((with_reducible refine wpList_load_by (o := ⟨some 27, .load 23 (.tmp 26), _, _, _, _⟩) ?e1 23 (.tmp 26) ?e2 ⟨w.heap.size, 0, none⟩ ?e3 _ L1.out ?_); (case e1 => rfl); (case e2 => rfl); (case e3 => rfl)) | ((with_reducible refine wpList_load_by (o := ⟨some 29, .load 23 (.tmp 28), _, _, _, _⟩) ?e1 23 (.tmp 28) ?e2 ⟨(w.heap.size + 1), 0, none⟩ ?e3 _ L2.out ?_); (case e1 => rfl); (case e2 => rfl); (case e3 => rfl)) | ((with_reducible refine wpList_store_oldx (o := ⟨none, .store 28 (.tmp 4) (.tmp 32), _, _, _, _⟩) ?e1 (.tmp 4) (.tmp 32) ?e2 (w.heap.size + 1 + 1) _ Q4.out ?e3 rcA0 ?e4 Z0.out ?_); (case e1 => rfl); (case e2 => rfl); (case e3 => rfl); (case e4 => rfl); intro w99 hg99 hx99; have X99 := Lib.hid hx99; have G99 := Lib.hid hg99; clear hx99 hg99))
        refine bodyPost_ret (v := .tuple #[.agg rcA0.cells, .bool false]) ?_ rfl ?_
        · exact res_rc2 Tryd.results9 rfl X99.out.rc
        · exact HN.out w99 (B2.out.grown G99.out B2.out.size (fun k e => by have := Option.some.inj e; omega))
      · have hj := HYES.out hm1 hm2 (by simpa using hq)
        rw [hq] at HE
        have HS1 := Lib.hid (fun (no : Int) (c : Cel) (h : rfind x.R.fs no = some c) => rfind_small hm1 h)
        have HS2 := Lib.hid (fun (no : Int) (c : Cel) (h : rfind y.R.fs no = some c) => rfind_small hm2 h)
        have HMX := Lib.hid (fun w => rmax_any x.R.n x.R.r y.R.n y.R.r w)
        have hmx : ∀ w : World, Calls Tryd.prog 21 #[st x.R.n x.R.r, st y.R.n y.R.r] w fun e w' => e = .returned (st (mx x.R.d y.R.d).1 (mx x.R.d y.R.d).2) ∧ Below w.heap.size w w' := fun w => by
          have h := HMX.out w
          unfold mx Rc.d
          dsimp only
          split at h <;> rename_i hh
          · rw [if_pos hh]; exact h
          · rw [if_neg hh]; exact h
        have HMX := Lib.hid hmx
        clear hmx
        have HST := Lib.hid (fun k => jstep x.R y.R (mx x.R.d y.R.d) k)
        have HV : Hid (∀ (A : Option Addr) (c : Nat) (w' : World), FsAt w' A c (toF (fun k => ofilt (mx x.R.d y.R.d) (omerge (x.R.at k) (y.R.at k))) 0 8) → FTag w' A → Below w.heap.size w w' →
            RRJPost w (x.R.join y.R) (.returned (.tuple #[.agg (rcells x.R.z (mx x.R.d y.R.d).1 (mx x.R.d y.R.d).2 (.slice A (toF (fun k => ofilt (mx x.R.d y.R.d) (omerge (x.R.at k) (y.R.at k))) 0 8).length c)), .bool true])) w') := Lib.hid (fun A c w' hf ht hb => by
          rw [hj]
          exact ⟨⟨jn x.R y.R, A, c⟩, rfl, rfl, ⟨⟨hzx, HX.out.1.2⟩, hf⟩, ht, hb⟩)
        have HK8 := Lib.hid (fun k => toF_le (fun k => ofilt (mx x.R.d y.R.d) (omerge (x.R.at k) (y.R.at k))) k 0)
        generalize RRJPost w (x.R.join y.R) = RR at *
        generalize (fun k => ofilt (mx x.R.d y.R.d) (omerge (x.R.at k) (y.R.at k))) = φ at *
        generalize mx x.R.d y.R.d = m at *
        unfold st at HMX
        have HBD := Lib.hid (fun w9 => build_rec hzx m.1 m.2 w9)
        unfold rv at HBD
        have HZ := Lib.hid hz
        rw [zrec] at HZ
        have SZ := Lib.hid (size_rcells hzx m.1 m.2 (.slice none 0 0))
        have SQ := Lib.hid (show (rcells z16 0 0 (.slice none 0 0)).size = (rcells x.R.z m.1 m.2 (.slice none 0 0)).size by rw [rcells_size z16_len, rcells_size hzx])
        have SO := Lib.hid (rcells_one (z := x.R.z) (n := m.1) (r := m.2) (v := (.slice none 0 0)) rfl)
        obtain ⟨i0, hi, hz0, hz1, hz2⟩ := info_parts infoFld
        clear hm1 hq hj HNO HJN HYES
        go_enter Tryd.func9, Tryd.ntmps9
        go_wp2_with (first | ((with_reducible refine wpList_load_by (o := ⟨some 15, .load 28 (.tmp 2), _, _, _, _⟩) ?e1 28 (.tmp 2) ?e2 ⟨w.heap.size, 0, none⟩ ?e3 _ LX.out ?_); (case e1 => rfl); (case e2 => rfl); (case e3 => rfl)))
        refine HM1.out.mono ?_
        rintro e w1 ⟨rfl, hb1⟩
        have Y1 := Lib.hid (X1.out.below hb1 X1.out.lt)
        have Y2 := Lib.hid (X2.out.below hb1 X2.out.lt)
        have Y4 := Lib.hid (X4.out.below hb1 X4.out.lt)
        have B1 := Lib.hid (HB.out.trans (hb1.mono HB.out.size))
        clear hb1
        have LY := Lib.hid Y2.out.load
        have HM2 := Lib.hid (xrrmay_any y w1 (HY.out.below B1.out (Nat.le_refl _)) HLY.out)
        rw [hm2] at HM2
        clear hm2
        go_wp2_with (first | ((with_reducible refine wpList_load_by (o := ⟨some 17, .load 28 (.tmp 3), _, _, _, _⟩) ?e1 28 (.tmp 3) ?e2 ⟨(w.heap.size + 1), 0, none⟩ ?e3 _ LY.out ?_); (case e1 => rfl); (case e2 => rfl); (case e3 => rfl)))
        refine HM2.out.mono ?_
        rintro e w2 ⟨rfl, hb2⟩
        have Q1 := Lib.hid (Y1.out.below hb2 Y1.out.lt)
        have Q2 := Lib.hid (Y2.out.below hb2 Y2.out.lt)
        have Q4 := Lib.hid (Y4.out.below hb2 Y4.out.lt)
        have B2 := Lib.hid (B1.out.trans (hb2.mono B1.out.size))
        clear hb2
        have L1 := Lib.hid Q1.out.load_id
        have L2 := Lib.hid Q2.out.load_id
        go_wp2_with (first | ((with_reducible refine wpList_load_by (o := ⟨some 27, .load 23 (.tmp 26), _, _, _, _⟩) ?e1 23 (.tmp 26) ?e2 ⟨w.heap.size, 0, none⟩ ?e3 _ L1.out ?_); (case e1 => rfl); (case e2 => rfl); (case e3 => rfl)) | ((with_reducible refine wpList_load_by (o := ⟨some 29, .load 23 (.tmp 28), _, _, _, _⟩) ?e1 23 (.tmp 28) ?e2 ⟨(w.heap.size + 1), 0, none⟩ ?e3 _ L2.out ?_); (case e1 => rfl); (case e2 => rfl); (case e3 => rfl)))
        refine wp_region_G w2 (by kernel_rfl) ?_
        refine wpG_take (i := 0) (oi := ⟨some 33, _, _, _, _, _⟩) (v := ?_) rfl (by kernel_rfl) (by kernel_rfl) (by kernel_rfl) (Or.inl ⟨by rfl, unib_val ?_⟩) ?_; rotate_left; (focus (intro w9 hSw; go_simp; try with_reducible rfl)); simp only [Act.put, List.setIfInBounds_toArray, List.set_cons_zero, List.set_cons_succ]
        refine wpG_take (i := 1) (oi := ⟨some 34, _, _, _, _, _⟩) (v := (.agg (bvals x.R.z))) rfl (by kernel_rfl) (by kernel_rfl) (by kernel_rfl) (Or.inl ⟨by rfl, unib_val ?_⟩) ?_; (focus (intro w9 hSw; exact exec_load_by 23 _ rfl ⟨w.heap.size, 0, none⟩ rfl (Q1.out.below hSw Q1.out.lt).load_id)); simp only [Act.put, List.setIfInBounds_toArray, List.set_cons_zero, List.set_cons_succ]
        refine wpG_take (i := 2) (oi := ⟨some 35, _, _, _, _, _⟩) (v := ?_) rfl (by kernel_rfl) (by kernel_rfl) (by kernel_rfl) (Or.inl ⟨by rfl, unib_val ?_⟩) ?_; rotate_left; (focus (intro w9 hSw; go_simp; try with_reducible rfl)); simp only [Act.put, List.setIfInBounds_toArray, List.set_cons_zero, List.set_cons_succ]
        refine wpG_take (i := 3) (oi := ⟨some 36, _, _, _, _, _⟩) (v := ?_) rfl (by kernel_rfl) (by kernel_rfl) (by kernel_rfl) (Or.inl ⟨by rfl, unib_val ?_⟩) ?_; rotate_left; (focus (intro w9 hSw; have q9 := Q1.out.below hSw Q1.out.lt; have q0 := q9.c16; have q1 := q9.c17; go_simp; try with_reducible rfl)); simp only [Act.put, List.setIfInBounds_toArray, List.set_cons_zero, List.set_cons_succ]
        refine wpG_take (i := 4) (oi := ⟨some 37, _, _, _, _, _⟩) (v := ?_) rfl (by kernel_rfl) (by kernel_rfl) (by kernel_rfl) (Or.inl ⟨by rfl, unib_val ?_⟩) ?_; rotate_left; (focus (intro w9 hSw; go_simp; try with_reducible rfl)); simp only [Act.put, List.setIfInBounds_toArray, List.set_cons_zero, List.set_cons_succ]
        refine wpG_take (i := 5) (oi := ⟨some 38, _, _, _, _, _⟩) (v := ?_) rfl (by kernel_rfl) (by kernel_rfl) (by kernel_rfl) (Or.inl ⟨by rfl, unib_val ?_⟩) ?_; rotate_left; (focus (intro w9 hSw; have q9 := Q2.out.below hSw Q2.out.lt; have q0 := q9.c16; have q1 := q9.c17; go_simp; try with_reducible rfl)); simp only [Act.put, List.setIfInBounds_toArray, List.set_cons_zero, List.set_cons_succ]
        refine wpG_take (i := 6) (oi := ⟨some 39, _, _, _, _, _⟩) rfl (by kernel_rfl) (by kernel_rfl) (by kernel_rfl) (Or.inl ⟨by rfl, unib_call ?_ HMX.out⟩) ?_; (focus (intro w9 hSw; go_simp; try with_reducible rfl)); simp only [Act.put, List.setIfInBounds_toArray, List.set_cons_zero, List.set_cons_succ]
        refine wpG_take (i := 7) (oi := ⟨some 40, _, _, _, _, _⟩) (v := (.agg (rcells x.R.z m.1 m.2 (.slice none 0 0)))) rfl (by kernel_rfl) (by kernel_rfl) (by kernel_rfl) (Or.inl ⟨by rfl, unib_val ?_⟩) ?_; (focus (intro w9 hSw; refine exec_build_by _ _ rfl #[(0, .agg (bvals x.R.z)), (1, .agg #[.int .i64 m.1, .int .i64 m.2])] ?_ (HBD.out w9); simp only [List.map_toArray, List.map_cons, List.map_nil]; rfl)); simp only [Act.put, List.setIfInBounds_toArray, List.set_cons_zero, List.set_cons_succ]
        refine wpG_alloc (i := 8) (oi := ⟨some 8, _, _, _, _, _⟩) (z := rcells z16 0 0 (.slice none 0 0)) (t := 28) (by kernel_rfl) rfl ⟨by rfl, fun w9 hSw => by have hz := HZ.out; go_simp; try rfl⟩ ?_; intro g hg ng; simp only [Act.put, List.setIfInBounds_toArray, List.set_cons_zero, List.set_cons_succ]
        refine wpG_store (i := 9) (oi := ⟨none, _, _, _, _, _⟩) (v := undef) [(g, rcells x.R.z m.1 m.2 (.slice none 0 0), 28)] (by kernel_rfl) rfl ⟨by rfl, fun w9 hSw hO => ?_⟩ ?_; (focus (have q9 := hO _ (.head _); refine ⟨_, Or.inr ⟨exec_store_row 28 _ _ rfl g (rcells x.R.z m.1 m.2 (.slice none 0 0)) rfl rfl 28 _ q9 SZ.out SQ.out SO.out, rfl⟩, below_setRow hSw hg _, ?_⟩; intro u hu; obtain rfl := List.mem_singleton.1 hu; exact setRow_heap w9 g _ _ _ _ q9)); simp only [Act.put]
        refine wpG_done (by kernel_rfl) ?_ _
        intro w9 hSw hO
        have hgw : w.heap.size + 1 + 1 < g := Nat.lt_of_lt_of_le Q4.out.lt hg
        have HJ0 : Hid (RJ w x y g x.R.z m (.slice none 0 0) [] w9) := Lib.hid ⟨Q1.out.below hSw Q1.out.lt, Q2.out.below hSw Q2.out.lt, Q4.out.below hSw Q4.out.lt, ⟨hzx, hO _ (.head _)⟩, World.ownsRow_nil _ _ _ _, B2.out.trans (hSw.mono B2.out.size)⟩
        clear hSw hO
        go_wp2
        go_loopw [9] (fun i wq => ∃ (k : Nat) (v : Value), k ≤ 8 ∧ i = .int .i64 k ∧ RJ w x y g x.R.z m v (toF φ 0 k) wq) (fun i _ => 8 - (intOf i).toNat)
        case atStart => exact ⟨0, .slice none 0 0, by omega, rfl, HJ0.out⟩
        case round =>
          obtain ⟨k, v, hk, rfl, hJ⟩ := hrel
          clear HJ0
          by_cases hlt : k < 8
          · have t8 : (k : Int) < 8 := by omega
            have HJ := Lib.hid hJ
            have HW := Lib.hid hJ.2.2.2.2.2.size
            have HK := Lib.hid (HK8.out k)
            have LA := Lib.hid hJ.1.load
            have HF1 := Lib.hid (xrrfind_any x k wr (HX.out.below hJ.2.2.2.2.2 (Nat.le_refl _)) HLX.out)
            have hst := HST.out k
            clear hJ
            cases o1 : rfind x.R.fs (k : Int) with
            | none =>
              rw [o1] at HF1 hst
              dsimp only [Option.getD_some, Option.getD_none, Option.isSome_some, Option.isSome_none, Cel.v, cel00] at HF1
              clear o1
              cases o2 : rfind y.R.fs (k : Int) with
              | none =>
                rw [o2] at hst
                have HF := Lib.hid (show toF φ 0 (k + 1) = toF φ 0 k by rw [hst]; simp [omerge])
                clear hst
                go_wp2_with (first | ((with_reducible refine wpList_load_by (o := ⟨some 46, .load 28 (.tmp 2), _, _, _, _⟩) ?e1 28 (.tmp 2) ?e2 ⟨w.heap.size, 0, none⟩ ?e3 _ LA.out ?_); (case e1 => rfl); (case e2 => rfl); (case e3 => rfl)))
                refine HF1.out.mono ?_
                rintro e w4 ⟨rfl, hb4⟩
                have J5 := Lib.hid ((HJ.out.below hb4).alloc (.cells #[.int .i64 0, .int .i64 0, .string ⟨#[]⟩] 32))
                have c5 : ClAt (w4.alloc (.cells #[.int .i64 0, .int .i64 0, .string ⟨#[]⟩] 32)) w4.heap.size cel00 := ClAt.new w4 cel00
                have LB := Lib.hid J5.out.2.1.load
                have HF2 := Lib.hid (xrrfind_any y k _ (HY.out.below J5.out.2.2.2.2.2 (Nat.le_refl _)) HLY.out)
                rw [o2] at HF2
                dsimp only [Option.getD_some, Option.getD_none, Option.isSome_some, Option.isSome_none, Cel.v, cel00] at HF2
                have C5 := Lib.hid c5
                have hg4 := hb4.size
                clear hb4 c5 o2
                go_wp2_with (first | ((with_reducible refine wpList_load_by (o := ⟨some 52, .load 28 (.tmp 3), _, _, _, _⟩) ?e1 28 (.tmp 3) ?e2 ⟨(w.heap.size + 1), 0, none⟩ ?e3 _ LB.out ?_); (case e1 => rfl); (case e2 => rfl); (case e3 => rfl)))
                refine HF2.out.mono ?_
                rintro e w6 ⟨rfl, hb6⟩
                have J7 := Lib.hid ((J5.out.below hb6).alloc (.cells #[.int .i64 0, .int .i64 0, .string ⟨#[]⟩] 32))
                have C7 := Lib.hid ((C5.out.below hb6 C5.out.lt).old (.cells #[.int .i64 0, .int .i64 0, .string ⟨#[]⟩] 32))
                have D7 : Hid (ClAt (w6.alloc (.cells #[.int .i64 0, .int .i64 0, .string ⟨#[]⟩] 32)) w6.heap.size cel00) := Lib.hid (ClAt.new w6 cel00)
                have hw4 := HW.out
                clear hb6
                have a0 := C7.out.c0
                have a1 := C7.out.c1
                have a2 := C7.out.c2
                have b0 := D7.out.c0
                have b1 := D7.out.c1
                have b2 := D7.out.c2
                have f0 := C7.out.fz 0
                have f1 := C7.out.fz 1
                have f2 := C7.out.fz 2
                have J := Lib.hid (J7.out.put C7.out (by omega) cel00)
                have C := Lib.hid (C7.out.put cel00)
                have HL := Lib.hid (rless_any m.1 m.2 0 0)
                unfold st at HL
                have g16 := J.out.2.2.2.1.c16
                have g17 := J.out.2.2.2.1.c17
                dsimp only [cel00] at a0 a1 a2 b0 b1 b2 J C g16 g17
                have e0 := C.out.c0
                have e1 := C.out.c1
                dsimp only at e0 e1
                go_wp2_with fail
                refine (HL.out _).mono ?_
                rintro e w11 ⟨rfl, hb11⟩
                have J11 := Lib.hid (J.out.below hb11)
                clear hb11 g16 g17 a0 a1 a2 b0 b1 b2 e0 e1 f0 f1 f2
                go_wp2
                go_roundw
                case rel => exact ⟨k + 1, v, by omega, by go_num, by rw [HF.out]; exact J11.out⟩
                case measure => simp [intOf]; omega
              | some d =>
                rw [o2] at hst
                have HS : Hid (∀ b, stLess m.1 m.2 d.n d.r = b → toF φ 0 (k + 1) = toF φ 0 k ++ (if b = true then [⟨(k : Int), d⟩] else [])) := Lib.hid (fun b e => by rw [hst, ← e]; rfl)
                clear hst
                go_wp2_with (first | ((with_reducible refine wpList_load_by (o := ⟨some 46, .load 28 (.tmp 2), _, _, _, _⟩) ?e1 28 (.tmp 2) ?e2 ⟨w.heap.size, 0, none⟩ ?e3 _ LA.out ?_); (case e1 => rfl); (case e2 => rfl); (case e3 => rfl)))
                refine HF1.out.mono ?_
                rintro e w4 ⟨rfl, hb4⟩
                have J5 := Lib.hid ((HJ.out.below hb4).alloc (.cells #[.int .i64 0, .int .i64 0, .string ⟨#[]⟩] 32))
                have c5 : ClAt (w4.alloc (.cells #[.int .i64 0, .int .i64 0, .string ⟨#[]⟩] 32)) w4.heap.size cel00 := ClAt.new w4 cel00
                have LB := Lib.hid J5.out.2.1.load
                have HF2 := Lib.hid (xrrfind_any y k _ (HY.out.below J5.out.2.2.2.2.2 (Nat.le_refl _)) HLY.out)
                rw [o2] at HF2
                dsimp only [Option.getD_some, Option.getD_none, Option.isSome_some, Option.isSome_none, Cel.v, cel00] at HF2
                have C5 := Lib.hid c5
                have hg4 := hb4.size
                clear hb4 c5 o2
                go_wp2_with (first | ((with_reducible refine wpList_load_by (o := ⟨some 52, .load 28 (.tmp 3), _, _, _, _⟩) ?e1 28 (.tmp 3) ?e2 ⟨(w.heap.size + 1), 0, none⟩ ?e3 _ LB.out ?_); (case e1 => rfl); (case e2 => rfl); (case e3 => rfl)))
                refine HF2.out.mono ?_
                rintro e w6 ⟨rfl, hb6⟩
                have J7 := Lib.hid ((J5.out.below hb6).alloc (.cells #[.int .i64 d.n, .int .i64 d.r, .string d.s] 32))
                have C7 := Lib.hid ((C5.out.below hb6 C5.out.lt).old (.cells #[.int .i64 d.n, .int .i64 d.r, .string d.s] 32))
                have D7 : Hid (ClAt (w6.alloc (.cells #[.int .i64 d.n, .int .i64 d.r, .string d.s] 32)) w6.heap.size d) := Lib.hid (ClAt.new w6 d)
                have hw4 := HW.out
                clear hb6
                have a0 := C7.out.c0
                have a1 := C7.out.c1
                have a2 := C7.out.c2
                have b0 := D7.out.c0
                have b1 := D7.out.c1
                have b2 := D7.out.c2
                have f0 := C7.out.fz 0
                have f1 := C7.out.fz 1
                have f2 := C7.out.fz 2
                have J := Lib.hid (J7.out.put C7.out (by omega) d)
                have C := Lib.hid (C7.out.put d)
                dsimp only [cel00] at a0 a1 a2 J C
                have HL := Lib.hid (rless_any m.1 m.2 d.n d.r)
                unfold st at HL
                have g16 := J.out.2.2.2.1.c16
                have g17 := J.out.2.2.2.1.c17
                have a0 := C.out.c0
                have a1 := C.out.c1
                cases hs : stLess m.1 m.2 d.n d.r
                · rw [hs] at HL
                  have HF := Lib.hid (HS.out false hs)
                  simp only [Bool.false_eq_true, if_false, List.append_nil] at HF
                  clear hs HS
                  go_wp2_with fail
                  refine (HL.out _).mono ?_
                  rintro e w11 ⟨rfl, hb11⟩
                  have J11 := Lib.hid (J.out.below hb11)
                  clear hb11 g16 g17 a0 a1
                  go_wp2
                  go_roundw
                  case rel => exact ⟨k + 1, v, by omega, by go_num, by rw [HF.out]; exact J11.out⟩
                  case measure => simp [intOf]; omega
                · rw [hs] at HL
                  have HF := Lib.hid (HS.out true hs)
                  simp only [if_true] at HF
                  clear hs HS
                  go_wp2_with fail
                  refine (HL.out _).mono ?_
                  rintro e w11 ⟨rfl, hb11⟩
                  have j11 := J.out.below hb11
                  have c11 := C.out.below hb11 C.out.lt
                  have a0 := c11.c0
                  have a1 := c11.c1
                  have a2 := c11.c2
                  have x18 := j11.2.2.2.1.c18
                  have J12 := Lib.hid (j11.alloc (.cells #[.int .i64 (k : Int), .int .i64 d.n, .int .i64 d.r, .string d.s] 40))
                  have VF := Lib.hid (one_fs w11 ⟨(k : Int), d⟩)
                  dsimp only at VF
                  have VO := Lib.hid J12.out.2.2.2.2.1
                  have VR := Lib.hid J12.out.2.2.2.1
                  have VN := Lib.hid (VR.out.not_row VO.out)
                  have VS := Lib.hid J12.out.2.2.2.2.2.size
                  have VL : Hid ((toF φ 0 k).length + 1 ≤ 100000) := Lib.hid (by have := HK.out; omega)
                  clear hb11 j11 c11 g16 g17
                  go_wp2_with (at_builtin; refine wpList_append_fld _ rfl _ _ 26 rfl w.heap.size 40 i0 Tryd.underlying26 hi hz0 hz1 hz2 _ (toF φ 0 k).length (toF φ 0 k) rfl VO.out (some ⟨w11.heap.size, 0, none⟩) 1 1 [⟨(k : Int), d⟩] rfl VF.out rfl VL.out VS.out ?_; intro v13 w13 ho13 hg13; obtain ⟨g13, cap13, rfl⟩ := ownsRow_succ ho13; have O13 := Lib.hid ho13; have G13 := Lib.hid hg13; have u5 := VR.out.kept hg13 VN.out; have U5 := Lib.hid u5; have y18 := u5.c18; have fy18 := u5.fz 18; clear ho13 hg13 u5)
                  have J14 := Lib.hid (rj_step J12.out hgw O13.out G13.out)
                  go_roundw
                  case rel => exact ⟨k + 1, _, by omega, by go_num, by rw [HF.out]; exact J14.out⟩
                  case measure => simp [intOf]; omega
            | some c =>
              rw [o1] at HF1 hst
              dsimp only [Option.getD_some, Option.getD_none, Option.isSome_some, Option.isSome_none, Cel.v, cel00] at HF1
              have HCS := Lib.hid (HS1.out _ _ o1)
              clear o1
              cases o2 : rfind y.R.fs (k : Int) with
              | none =>
                rw [o2] at hst
                have HS : Hid (∀ b, stLess m.1 m.2 c.n c.r = b → toF φ 0 (k + 1) = toF φ 0 k ++ (if b = true then [⟨(k : Int), c⟩] else [])) := Lib.hid (fun b e => by rw [hst, ← e]; rfl)
                clear hst
                go_wp2_with (first | ((with_reducible refine wpList_load_by (o := ⟨some 46, .load 28 (.tmp 2), _, _, _, _⟩) ?e1 28 (.tmp 2) ?e2 ⟨w.heap.size, 0, none⟩ ?e3 _ LA.out ?_); (case e1 => rfl); (case e2 => rfl); (case e3 => rfl)))
                refine HF1.out.mono ?_
                rintro e w4 ⟨rfl, hb4⟩
                have J5 := Lib.hid ((HJ.out.below hb4).alloc (.cells #[.int .i64 c.n, .int .i64 c.r, .string c.s] 32))
                have c5 : ClAt (w4.alloc (.cells #[.int .i64 c.n, .int .i64 c.r, .string c.s] 32)) w4.heap.size c := ClAt.new w4 c
                have LB := Lib.hid J5.out.2.1.load
                have HF2 := Lib.hid (xrrfind_any y k _ (HY.out.below J5.out.2.2.2.2.2 (Nat.le_refl _)) HLY.out)
                rw [o2] at HF2
                dsimp only [Option.getD_some, Option.getD_none, Option.isSome_some, Option.isSome_none, Cel.v, cel00] at HF2
                have C5 := Lib.hid c5
                have hg4 := hb4.size
                clear hb4 c5 o2
                go_wp2_with (first | ((with_reducible refine wpList_load_by (o := ⟨some 52, .load 28 (.tmp 3), _, _, _, _⟩) ?e1 28 (.tmp 3) ?e2 ⟨(w.heap.size + 1), 0, none⟩ ?e3 _ LB.out ?_); (case e1 => rfl); (case e2 => rfl); (case e3 => rfl)))
                refine HF2.out.mono ?_
                rintro e w6 ⟨rfl, hb6⟩
                have J7 := Lib.hid ((J5.out.below hb6).alloc (.cells #[.int .i64 0, .int .i64 0, .string ⟨#[]⟩] 32))
                have C7 := Lib.hid ((C5.out.below hb6 C5.out.lt).old (.cells #[.int .i64 0, .int .i64 0, .string ⟨#[]⟩] 32))
                have D7 : Hid (ClAt (w6.alloc (.cells #[.int .i64 0, .int .i64 0, .string ⟨#[]⟩] 32)) w6.heap.size cel00) := Lib.hid (ClAt.new w6 cel00)
                have hw4 := HW.out
                clear hb6
                have J := Lib.hid J7.out
                have C := Lib.hid C7.out
                try dsimp only [cel00] at J C
                have HL := Lib.hid (rless_any m.1 m.2 c.n c.r)
                unfold st at HL
                have g16 := J.out.2.2.2.1.c16
                have g17 := J.out.2.2.2.1.c17
                have a0 := C.out.c0
                have a1 := C.out.c1
                cases hs : stLess m.1 m.2 c.n c.r
                · rw [hs] at HL
                  have HF := Lib.hid (HS.out false hs)
                  simp only [Bool.false_eq_true, if_false, List.append_nil] at HF
                  clear hs HS
                  go_wp2_with fail
                  refine (HL.out _).mono ?_
                  rintro e w11 ⟨rfl, hb11⟩
                  have J11 := Lib.hid (J.out.below hb11)
                  clear hb11 g16 g17 a0 a1
                  go_wp2
                  go_roundw
                  case rel => exact ⟨k + 1, v, by omega, by go_num, by rw [HF.out]; exact J11.out⟩
                  case measure => simp [intOf]; omega
                · rw [hs] at HL
                  have HF := Lib.hid (HS.out true hs)
                  simp only [if_true] at HF
                  clear hs HS
                  go_wp2_with fail
                  refine (HL.out _).mono ?_
                  rintro e w11 ⟨rfl, hb11⟩
                  have j11 := J.out.below hb11
                  have c11 := C.out.below hb11 C.out.lt
                  have a0 := c11.c0
                  have a1 := c11.c1
                  have a2 := c11.c2
                  have x18 := j11.2.2.2.1.c18
                  have J12 := Lib.hid (j11.alloc (.cells #[.int .i64 (k : Int), .int .i64 c.n, .int .i64 c.r, .string c.s] 40))
                  have VF := Lib.hid (one_fs w11 ⟨(k : Int), c⟩)
                  dsimp only at VF
                  have VO := Lib.hid J12.out.2.2.2.2.1
                  have VR := Lib.hid J12.out.2.2.2.1
                  have VN := Lib.hid (VR.out.not_row VO.out)
                  have VS := Lib.hid J12.out.2.2.2.2.2.size
                  have VL : Hid ((toF φ 0 k).length + 1 ≤ 100000) := Lib.hid (by have := HK.out; omega)
                  clear hb11 j11 c11 g16 g17
                  go_wp2_with (at_builtin; refine wpList_append_fld _ rfl _ _ 26 rfl w.heap.size 40 i0 Tryd.underlying26 hi hz0 hz1 hz2 _ (toF φ 0 k).length (toF φ 0 k) rfl VO.out (some ⟨w11.heap.size, 0, none⟩) 1 1 [⟨(k : Int), c⟩] rfl VF.out rfl VL.out VS.out ?_; intro v13 w13 ho13 hg13; obtain ⟨g13, cap13, rfl⟩ := ownsRow_succ ho13; have O13 := Lib.hid ho13; have G13 := Lib.hid hg13; have u5 := VR.out.kept hg13 VN.out; have U5 := Lib.hid u5; have y18 := u5.c18; have fy18 := u5.fz 18; clear ho13 hg13 u5)
                  have J14 := Lib.hid (rj_step J12.out hgw O13.out G13.out)
                  go_roundw
                  case rel => exact ⟨k + 1, _, by omega, by go_num, by rw [HF.out]; exact J14.out⟩
                  case measure => simp [intOf]; omega
              | some d =>
                rw [o2] at hst
                have HDS := Lib.hid (HS2.out _ _ o2)
                have HS : Hid (∀ b, stLess m.1 m.2 (cjoin c d).n (cjoin c d).r = b → toF φ 0 (k + 1) = toF φ 0 k ++ (if b = true then [⟨(k : Int), cjoin c d⟩] else [])) := Lib.hid (fun b e => by rw [hst, ← e]; rfl)
                clear hst
                go_wp2_with (first | ((with_reducible refine wpList_load_by (o := ⟨some 46, .load 28 (.tmp 2), _, _, _, _⟩) ?e1 28 (.tmp 2) ?e2 ⟨w.heap.size, 0, none⟩ ?e3 _ LA.out ?_); (case e1 => rfl); (case e2 => rfl); (case e3 => rfl)))
                refine HF1.out.mono ?_
                rintro e w4 ⟨rfl, hb4⟩
                have J5 := Lib.hid ((HJ.out.below hb4).alloc (.cells #[.int .i64 c.n, .int .i64 c.r, .string c.s] 32))
                have c5 : ClAt (w4.alloc (.cells #[.int .i64 c.n, .int .i64 c.r, .string c.s] 32)) w4.heap.size c := ClAt.new w4 c
                have LB := Lib.hid J5.out.2.1.load
                have HF2 := Lib.hid (xrrfind_any y k _ (HY.out.below J5.out.2.2.2.2.2 (Nat.le_refl _)) HLY.out)
                rw [o2] at HF2
                dsimp only [Option.getD_some, Option.getD_none, Option.isSome_some, Option.isSome_none, Cel.v, cel00] at HF2
                have C5 := Lib.hid c5
                have hg4 := hb4.size
                clear hb4 c5 o2
                go_wp2_with (first | ((with_reducible refine wpList_load_by (o := ⟨some 52, .load 28 (.tmp 3), _, _, _, _⟩) ?e1 28 (.tmp 3) ?e2 ⟨(w.heap.size + 1), 0, none⟩ ?e3 _ LB.out ?_); (case e1 => rfl); (case e2 => rfl); (case e3 => rfl)))
                refine HF2.out.mono ?_
                rintro e w6 ⟨rfl, hb6⟩
                have J7 := Lib.hid ((J5.out.below hb6).alloc (.cells #[.int .i64 d.n, .int .i64 d.r, .string d.s] 32))
                have C7 := Lib.hid ((C5.out.below hb6 C5.out.lt).old (.cells #[.int .i64 d.n, .int .i64 d.r, .string d.s] 32))
                have D7 : Hid (ClAt (w6.alloc (.cells #[.int .i64 d.n, .int .i64 d.r, .string d.s] 32)) w6.heap.size d) := Lib.hid (ClAt.new w6 d)
                have hw4 := HW.out
                clear hb6
                have HCJ := Lib.hid (fun w9 => rcjoin_any c d w9 HCS.out HDS.out)
                generalize cjoin c d = q at *
                unfold Cel.v at HCJ
                have a0 := C7.out.c0
                have a1 := C7.out.c1
                have a2 := C7.out.c2
                have b0 := D7.out.c0
                have b1 := D7.out.c1
                have b2 := D7.out.c2
                go_wp2_with fail
                refine (HCJ.out _).mono ?_
                rintro e w8 ⟨rfl, hb8⟩
                have J8 := Lib.hid (J7.out.below hb8)
                have C8 := Lib.hid (C7.out.below hb8 C7.out.lt)
                clear hb8 a0 a1 a2 b0 b1 b2
                have a0 := C8.out.c0
                have a1 := C8.out.c1
                have a2 := C8.out.c2
                have f0 := C8.out.fz 0
                have f1 := C8.out.fz 1
                have f2 := C8.out.fz 2
                have J := Lib.hid (J8.out.put C8.out (by omega) q)
                have C := Lib.hid (C8.out.put q)
                have HL := Lib.hid (rless_any m.1 m.2 q.n q.r)
                unfold st at HL
                have g16 := J.out.2.2.2.1.c16
                have g17 := J.out.2.2.2.1.c17
                have a0 := C.out.c0
                have a1 := C.out.c1
                cases hs : stLess m.1 m.2 q.n q.r
                · rw [hs] at HL
                  have HF := Lib.hid (HS.out false hs)
                  simp only [Bool.false_eq_true, if_false, List.append_nil] at HF
                  clear hs HS
                  go_wp2_with fail
                  refine (HL.out _).mono ?_
                  rintro e w11 ⟨rfl, hb11⟩
                  have J11 := Lib.hid (J.out.below hb11)
                  clear hb11 g16 g17 a0 a1
                  go_wp2
                  go_roundw
                  case rel => exact ⟨k + 1, v, by omega, by go_num, by rw [HF.out]; exact J11.out⟩
                  case measure => simp [intOf]; omega
                · rw [hs] at HL
                  have HF := Lib.hid (HS.out true hs)
                  simp only [if_true] at HF
                  clear hs HS
                  go_wp2_with fail
                  refine (HL.out _).mono ?_
                  rintro e w11 ⟨rfl, hb11⟩
                  have j11 := J.out.below hb11
                  have c11 := C.out.below hb11 C.out.lt
                  have a0 := c11.c0
                  have a1 := c11.c1
                  have a2 := c11.c2
                  have x18 := j11.2.2.2.1.c18
                  have J12 := Lib.hid (j11.alloc (.cells #[.int .i64 (k : Int), .int .i64 q.n, .int .i64 q.r, .string q.s] 40))
                  have VF := Lib.hid (one_fs w11 ⟨(k : Int), q⟩)
                  dsimp only at VF
                  have VO := Lib.hid J12.out.2.2.2.2.1
                  have VR := Lib.hid J12.out.2.2.2.1
                  have VN := Lib.hid (VR.out.not_row VO.out)
                  have VS := Lib.hid J12.out.2.2.2.2.2.size
                  have VL : Hid ((toF φ 0 k).length + 1 ≤ 100000) := Lib.hid (by have := HK.out; omega)
                  clear hb11 j11 c11 g16 g17
                  go_wp2_with (at_builtin; refine wpList_append_fld _ rfl _ _ 26 rfl w.heap.size 40 i0 Tryd.underlying26 hi hz0 hz1 hz2 _ (toF φ 0 k).length (toF φ 0 k) rfl VO.out (some ⟨w11.heap.size, 0, none⟩) 1 1 [⟨(k : Int), q⟩] rfl VF.out rfl VL.out VS.out ?_; intro v13 w13 ho13 hg13; obtain ⟨g13, cap13, rfl⟩ := ownsRow_succ ho13; have O13 := Lib.hid ho13; have G13 := Lib.hid hg13; have u5 := VR.out.kept hg13 VN.out; have U5 := Lib.hid u5; have y18 := u5.c18; have fy18 := u5.fz 18; clear ho13 hg13 u5)
                  have J14 := Lib.hid (rj_step J12.out hgw O13.out G13.out)
                  go_roundw
                  case rel => exact ⟨k + 1, _, by omega, by go_num, by rw [HF.out]; exact J14.out⟩
                  case measure => simp [intOf]; omega
          · obtain rfl : k = 8 := by omega
            obtain ⟨h1, h2, h3, h4, h5, h6⟩ := hJ
            obtain ⟨A, c, rfl⟩ := own_slice h5
            have h4' : XAt wr g (⟨⟨x.R.z, m.1, m.2, toF φ 0 8⟩, A, c⟩ : RcA) := h4
            have LG := Lib.hid h4'.load
            have ZZ : Hid ((RcA.R (⟨⟨x.R.z, m.1, m.2, toF φ 0 8⟩, A, c⟩ : RcA)).z.length = 16) := Lib.hid hzx
            have HO := Lib.hid h5
            have HB9 := Lib.hid h6
            have H3 := Lib.hid h3
            clear h1 h2 h3 h4 h4' h5 h6
            go_wp2_with (first | ((with_reducible refine wpList_load_by (o := ⟨some 87, .load 28 (.tmp 8), _, _, _, _⟩) ?e1 28 (.tmp 8) ?e2 ⟨g, 0, none⟩ ?e3 _ LG.out ?_); (case e1 => rfl); (case e2 => rfl); (case e3 => rfl)) | ((with_reducible refine wpList_store_oldx (o := ⟨none, .store 28 (.tmp 4) (.tmp 87), _, _, _, _⟩) ?e1 (.tmp 4) (.tmp 87) ?e2 (w.heap.size + 1 + 1) _ H3.out ?e3 (⟨⟨x.R.z, m.1, m.2, toF φ 0 8⟩, A, c⟩ : RcA) ?e4 ZZ.out ?_); (case e1 => rfl); (case e2 => rfl); (case e3 => rfl); (case e4 => rfl); intro w99 hg99 hx99; have X99 := Lib.hid hx99; have G99 := Lib.hid hg99; clear hx99 hg99))
            have htag : ∀ b, some (w.heap.size + 1 + 1) = some b → ∀ c, wr.heap[b]? ≠ some (.cells c 40) := fun b e => by
              obtain rfl := Option.some.inj e
              exact tag_ne H3.out.2 (by decide)
            have hT := FTag.own HO.out
            refine bodyPost_ret (v := .tuple #[.agg (RcA.cells (⟨⟨x.R.z, m.1, m.2, toF φ 0 8⟩, A, c⟩ : RcA)), .bool true]) ?_ rfl ?_
            · exact res_rc2 Tryd.results9 rfl X99.out.rc
            · exact HV.out A c w99 ((FsAt.own HO.out).kept_tag hT G99.out htag) (hT.kept G99.out htag) (HB9.out.grown G99.out HB9.out.size (fun k e => by have := Option.some.inj e; omega))
end Go.Proofs.YtcmknbdeafcknaaDoor

