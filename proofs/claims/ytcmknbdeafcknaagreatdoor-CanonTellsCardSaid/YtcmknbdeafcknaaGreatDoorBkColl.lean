import Derived.Test.YtcmknbdeafcknaaGreatDoorGBkVals
import Derived.Test.YtcmknbdeafcknaaGreatDoorGBkM
import Derived.RangeFuncBox
/-
  What slices.AppendSeq and slices.Collect answer of a map's records: a row of the call's own that holds each once.
-/
namespace Go.Proofs.YtcmknbdeafcknaaGreatDoor
open Go.RowKit Go.Shelf WM
set_option linter.unusedVariables false
set_option maxRecDepth 100000
attribute [local go_sem] Oper.semAt_some
/-- Block g holds a slice of records. -/
def SlAt (W : World) (g : Nat) (v : Value) : Prop := W.heap[g]? = some (.cells #[v] 22)
section
variable {W W' : World} {g B : Nat} {v u : Value} {row : Option Nat}
theorem SlAt.c0 (h : SlAt W g v) : W.cell? ⟨g, 0, none⟩ = some v := by rw [cell_of_row _ _ _ _ _ _ h]; rfl
theorem SlAt.fz (h : SlAt W g v) (j : Nat) : W.frozen? ⟨g, j, none⟩ = false := frozen_of_row _ _ _ _ _ h
theorem SlAt.lt (h : SlAt W g v) : g < W.heap.size := (Array.getElem?_eq_some_iff.1 h).1
theorem SlAt.kept (h : SlAt W g v) (hg : W.grownBy W' row) (hne : some g ≠ row) : SlAt W' g v := (hg.block g h.lt hne).trans h
theorem SlAt.below (h : SlAt W g v) (hb : Below B W W') (hB : g < B) : SlAt W' g v := (hb.block g hB).trans h
theorem SlAt.put (h : SlAt W g v) (u : Value) : SlAt (W.setCell ⟨g, 0, none⟩ u) g u := by
  unfold SlAt
  rw [heap_setCell_same _ _ _ _ _ _ h]
  rfl
end
/-- What holds between two rounds. -/
def CI (w : World) (n0 g : Nat) (pre : List XR) (W : World) : Prop :=
  ∃ v, SlAt W g v ∧ W.ownsRow n0 33 19 v pre.length ((pre.map (·.1)).flatMap RcA.cs) ∧ Below w.heap.size w W ∧ n0 ≤ W.heap.size
theorem CI_own {w : World} {n0 g B : Nat} (hB : w.heap.size ≤ B) : OwnFrom B (CI w n0 g) := by
  rintro s X Y row ⟨v, h1, h2, h4, h5⟩ hg hr
  have hr' : ∀ r, row = some r → ∃ o : Obj, X.heap[r]? = some o ∧ o.isCells = false := fun r e => (hr r e).2
  refine ⟨v, h1.kept hg (fun e => ?_), own_turned h2 hg hr', ownFrom_below (β := Unit) (Nat.le_refl _) hB () X Y row h4 hg hr, Nat.le_trans h5 hg.size⟩
  obtain ⟨o, ho, hc⟩ := hr' g e.symm
  unfold SlAt at h1
  rw [h1] at ho
  cases ho
  cases hc
theorem CI_step {w W w1 : World} {n0 g k : Nat} {xs : List Value} {v v' : Value} {pre : List XR}
    (hG : SlAt W g v) (hO : W.ownsRow n0 33 19 v k xs) (hB : Below w.heap.size w W) (hwg : w.heap.size ≤ g) (hwn : w.heap.size ≤ n0) (hgn : g < n0) (hnW : n0 ≤ W.heap.size)
    (hO' : w1.ownsRow n0 33 19 v' pre.length ((pre.map (·.1)).flatMap RcA.cs)) (hg : W.grownBy w1 v.ownBlock) :
    SlAt w1 g v ∧ KeepsOthers W (w1.setCell ⟨g, 0, none⟩ v') ∧ CI w n0 g pre (w1.setCell ⟨g, 0, none⟩ v') := by
  have hown : ∀ j, v.ownBlock = some j → n0 ≤ j := fun j hj => own_base hO hj
  have hown' : ∀ j, v'.ownBlock = some j → n0 ≤ j := fun j hj => own_base hO' hj
  have hG1 : SlAt w1 g v := hG.kept hg (fun e => by have := hown g e.symm; omega)
  have hBw := ((hB.grown hg hB.size (fun j e => Nat.le_trans hwn (hown j e))).setCell (p := ⟨g, 0, none⟩) hwg v')
  refine ⟨hG1, ?_, v', hG1.put v', ?_, hBw, Nat.le_trans hnW (Nat.le_trans hg.size (KeepsWalks.setCell w1 _ v').size)⟩
  · refine (KeepsOthers.of_grownBy hg fun j o ej hj => ?_).trans (KeepsOthers.setCell _ _ _)
    rcases hO.2 with ⟨rfl, _⟩ | ⟨g', cap, cur, rfl, _, hgb, _⟩
    · simp [Value.ownBlock] at ej
    · obtain rfl : g' = j := by simpa [Value.ownBlock] using ej
      rw [hgb] at hj; cases hj; rfl
  · exact hO'.kept (grownBy_setCell18 w1 g 0 v') (.inr (fun e => by have := hown' g e; omega))
theorem values_any (bm : Nat) (w : World) : Calls Tryz.prog 77 #[.map (some bm)] w fun e w' =>
    e = .returned (.func (.func 113) #[] #[.pointer (some ⟨w.heap.size, 0, none⟩)]) ∧ w' = w.alloc (.cells #[.map (some bm)] 66) := by
  go_enter Tryz.func77, Tryz.ntmps77
  go_wp2
  go_ret
  exact ⟨rfl, rfl⟩
theorem values_stops (n : Nat) (hn : 1 ≤ n) (Bx bm nn : Nat) (es : List RcA) (w : World) (hBx : BoxR w Bx bm) (hM : MRs w bm nn es) :
    SeqStopsK Fence.wide n Tryz.prog 113 #[.pointer (some ⟨Bx, 0, none⟩)] encX KeepsWalks (fun ys : List XR => (ys.map (·.1)).Perm es) (fun _ => True) es.length w := fun l J Jx W hW hJ _ hY h0 =>
  values1_in n hn l Bx bm nn es J Jx W hJ hY ((hW.block _ hBx.lt).trans hBx) (hM.below hW (Nat.le_refl _)) h0
def CollPost (w : World) (es : List RcA) (e : Ending) (w' : World) : Prop := ∃ (v : Value) (ys : List RcA), e = .returned v ∧ ys.Perm es ∧ (∀ y ∈ ys, y.R.Ok) ∧ w'.ownsRow w.heap.size 33 19 v ys.length (ys.flatMap RcA.cs) ∧ Below w.heap.size w w'
set_option maxHeartbeats 8000000 in
theorem appendSeq_any (Bx bm nn : Nat) (es : List RcA) (w : World) (hBx : BoxR w Bx bm) (hM : MRs w bm nn es) (hlen : es.length ≤ 900) :
    Calls Tryz.prog 132 #[.slice none 0 0, .func (.func 113) #[] #[.pointer (some ⟨Bx, 0, none⟩)]] w (CollPost w es) := by
  have hb0 := (Below.refl w.heap.size w).alloc (Nat.le_refl _) (.cells #[.slice none 0 0] 22)
  have hG0 : SlAt (w.alloc (.cells #[.slice none 0 0] 22)) w.heap.size (.slice none 0 0) := heap_alloc_new w _
  have hsz : (w.alloc (.cells #[.slice none 0 0] 22)).heap.size = w.heap.size + 1 := World.size_alloc _ _
  have hB1 : BoxR (w.alloc (.cells #[.slice none 0 0] 22)) Bx bm := (hb0.block _ hBx.lt).trans hBx
  have hM1 := hM.below hb0 (Nat.le_refl _)
  have hlt := hBx.lt
  have hz := zeroX
  have HSZ := Lib.hid hsz
  clear hBx hM hsz
  refine (callsIn_wide (n := 12)).1 ?_
  refine callsIn_of_wp_marks Tryz.func132 rfl trivial ?_ rfl
  simp only [Tryz.ntmps132, List.size_toArray, List.length_cons, List.length_nil, Nat.reduceAdd, Nat.reduceSub, Array.replicate_succ, Array.replicate_zero, List.push_toArray, List.append_toArray, List.nil_append, List.cons_append]
  refine wpIn_wide.2 ?_
  go_wp2_with fail
  generalize hw1 : w.alloc (.cells #[.slice none 0 0] 22) = w1 at *
  refine (wpIn_wide (n := 12)).1 ?_
  refine wpIn_rangeFunc_ownH (F := Fence.wide) (n := 12) rfl (by omega) (gf := 113) (lb := #[.pointer (some ⟨Bx, 0, none⟩)]) rfl trivial (enters_of Tryz.func113 (by kernel_rfl) rfl)
    (values_stops 11 (by omega) Bx bm nn es w1 hB1 hM1)
    (fun h k => h.trans k)
    (fun W l o o' hl h hc hw => ?kb)
    (Below.refl _ _) (fun _ => rfl)
    (CI w w1.heap.size w.heap.size)
    (fun _ _ _ => False)
    (CI_own (by have := HSZ.out; omega))
    (fun _ _ _ _ _ hs _ _ => hs)
    ⟨.slice none 0 0, hG0, World.ownsRow_nil _ _ _ _, hb0, Nat.le_refl _⟩
    (fun x a' W => ∃ Bc, w1.heap.size ≤ Bc ∧ XAt W Bc x.1 ∧ a' = { tmps := #[Value.slice none 0 0, .func (.func 113) #[] #[.pointer (some ⟨Bx, 0, none⟩)], .pointer (some ⟨w.heap.size, 0, none⟩), undef, .slice none 0 0, .pointer (some ⟨Bc, 0, none⟩), .func (.func 113) #[] #[.pointer (some ⟨Bx, 0, none⟩)], .agg x.1.cells, undef, undef, undef, undef, undef], defers := [] })
    (fun x a' _ X Y row hs hg hr => by
      obtain ⟨Bc, h1, h2, h3⟩ := hs
      refine ⟨Bc, h1, h2.same (hg.block Bc h2.lt (fun e => ?_)), h3⟩
      obtain ⟨o, ho, hc⟩ := (hr Bc e.symm).2
      rw [h2.2] at ho
      cases ho
      cases hc)
    ?assign ?body ?done ?stop
  case kb =>
    refine ⟨by rw [World.putObj_size]; exact Nat.le_refl _, fun k o1 hk ho => ?_⟩
    have hne : k ≠ l := by
      rintro rfl
      rw [h] at hk
      cases hk
      rw [hw] at ho
      cases ho
    exact (World.putObj_heap_other hne).trans hk
  case assign =>
    rintro l pre x W K hI hK
    have hn := XAt.new (x := x.1) W x.2.1
    have hI2 := (CI_own (w := w) (n0 := w1.heap.size) (g := w.heap.size) (B := w1.heap.size) (by have := HSZ.out; omega)).alloc (.cells x.1.cells 33) hI
    have hnW : w1.heap.size ≤ W.heap.size := by obtain ⟨v, _, _, _, h⟩ := hI; exact h
    have hK2 := hK _ _ ((KeepsOthers.alloc W (.cells x.1.cells 33)).from _) (KeepsOthers.alloc W (.cells x.1.cells 33)).walks hI2 ⟨_, hnW, hn, rfl⟩
    have ZX := Lib.hid x.2.1
    clear hK hn hI hI2
    unfold encX
    gi_wp2_with (first
        | ((with_reducible refine wpListIn_store_newx (w := W) ?e0 (.tmp 5) (.tmp 7) ?e1 W.heap.size ?e2 ?e3 x.1 ?e4 ZX.out ?_); (case e0 => rfl); (case e1 => rfl); (case e2 => rfl); (case e3 => rfl); (case e4 => rfl)))
    exact hK2
  case body =>
    rintro l pre x a' W hl hr ⟨v, hG, hO, hB, hn⟩ ⟨Bc, hBc, hX, rfl⟩ hlt2
    have g0 := hG.c0
    have LX := Lib.hid hX.load
    have ZX := Lib.hid x.2.1
    have hGA := Lib.hid (hG.below ((Below.refl W.heap.size W).alloc (Nat.le_refl _) (.cells x.1.cells 33)) hG.lt)
    have HOA := Lib.hid (hO.alloc (.cells x.1.cells 33))
    have HBA := Lib.hid (hB.alloc hB.size (.cells x.1.cells 33))
    have HKA := Lib.hid (KeepsOthers.alloc W (.cells x.1.cells 33))
    have HCELL : Hid (∀ j u, x.1.cs[j]? = some u → (W.alloc (.cells x.1.cells 33)).cell? ((⟨W.heap.size, 0, none⟩ : Addr).add j) = some u) := Lib.hid fun j u hu => by
      have hj : j < 19 := by have := (List.getElem?_eq_some_iff.1 hu).1; rwa [cs_len x.2.1] at this
      rw [Addr.add_lit, (XAt.new (x := x.1) W x.2.1).rec.2 j hj]
      exact hu
    have HONE := Lib.hid (cs_one x.1)
    have HL := Lib.hid (cs_len x.2.1)
    obtain ⟨i0, hi, hz0, hz1', hz2'⟩ := info_parts infoRec
    clear hG hO hB hX
    gi_wp2_with (first
        | ((with_reducible refine wpListIn_load_by ?e0 33 (.tmp 5) ?e1 ⟨Bc, 0, none⟩ ?e2 _ LX.out ?_); (case e0 => rfl); (case e1 => rfl); (case e2 => rfl))
        | ((with_reducible refine wpListIn_bslice ?e0 (.tmp 9) ?e1 x.1 ?e2 ZX.out ?_); (case e0 => rfl); (case e1 => rfl); (case e2 => rfl))
        | (gi_at_builtin; refine wpListIn_append_own _ rfl _ _ 22 rfl w1.heap.size 33 i0 zrc 19 56 Tryz.underlying22 hi hz0 hz1' hz2' zrc_size (by decide) _ pre.length _ rfl HOA.out ⟨W.heap.size, 0, none⟩ 1 1 x.1.cs rfl HL.out HCELL.out HONE.out (by simp only [maxLen]; omega) (by omega) (by rw [World.size_alloc]; omega) ?_; intro v' w2 hown' hgrow _; obtain ⟨q1, q2, q3⟩ := CI_step (w := w) (pre := pre ++ [x]) hGA.out HOA.out HBA.out (Nat.le_refl _) (by have := HSZ.out; omega) (by have := HSZ.out; omega) (by rw [World.size_alloc]; omega) (by rw [List.map_append, List.flatMap_append, List.length_append]; simpa using hown') hgrow; obtain ⟨g', cap', rfl⟩ := ownsRow_succ hown'; have r0 := q1.c0; have f0 := q1.fz 0; have Q2X := Lib.hid q2; have Q3X := Lib.hid q3; clear q1 q2 q3 hown' hgrow))
    exact ⟨(HKA.out.trans Q2X.out).from _, (HKA.out.trans Q2X.out).walks, Q3X.out⟩
  case done =>
    rintro D ys W hD hp ⟨v, hG, hO, hB, hn⟩ hK
    have g0 := hG.c0
    have HP : Hid (CollPost w es (.returned v) (W.putObj D (.deferred none))) := Lib.hid ⟨v, ys.map (·.1), rfl, hp, (fun y hy => by obtain ⟨x, _, rfl⟩ := List.mem_map.1 hy; exact x.2), by
      have h2 := ownsRow_putObj hO (.deferred none) hK rfl
      rw [List.length_map]
      exact ⟨h2.1, by
        rcases h2.2 with h3 | ⟨g', cap, cur, h3, h4, h5⟩
        · exact .inl h3
        · exact .inr ⟨g', cap, cur, h3, by have := HSZ.out; omega, h5⟩⟩, hB.trans (belowK_b (w := w) (Nat.le_refl _) _ D _ _ (by have := HSZ.out; omega) hK rfl rfl)⟩
    have HK := Lib.hid hK
    clear hG hO hB hK
    go_wp2
    refine ⟨by simp, .inl ⟨_, _, rfl, run_takeDeferred HK.out, ?_⟩⟩
    exact ⟨v, results_tmp (t := 4) rfl _ _ _, HP.out⟩
  case stop =>
    rintro D c pre W _ _ h _
    exact h.elim
set_option maxHeartbeats 1000000 in
theorem collect_any (Bx bm nn : Nat) (es : List RcA) (w : World) (hBx : BoxR w Bx bm) (hM : MRs w bm nn es) (hlen : es.length ≤ 900) :
    Calls Tryz.prog 111 #[.func (.func 113) #[] #[.pointer (some ⟨Bx, 0, none⟩)]] w (CollPost w es) := by
  have HA := Lib.hid (appendSeq_any Bx bm nn es w hBx hM hlen)
  clear hBx hM
  go_enter Tryz.func111, Tryz.ntmps111
  go_wp2_with fail
  refine HA.out.mono ?_
  rintro e w1 ⟨v, ys, rfl, h1, h2, h3, h4⟩
  have HH : Hid (ys.Perm es ∧ (∀ y ∈ ys, y.R.Ok) ∧ w1.ownsRow w.heap.size 33 19 v ys.length (ys.flatMap RcA.cs) ∧ Below w.heap.size w w1) := Lib.hid ⟨h1, h2, h3, h4⟩
  clear h1 h2 h3 h4
  go_wp2
  go_ret
  exact ⟨v, ys, rfl, HH.out⟩
end Go.Proofs.YtcmknbdeafcknaaGreatDoor


