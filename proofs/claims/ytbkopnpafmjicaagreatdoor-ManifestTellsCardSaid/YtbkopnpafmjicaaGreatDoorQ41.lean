import Derived.Test.YtbkopnpafmjicaaGreatDoorQ0
import Derived.Test.YtbkopnpafmjicaaGreatDoorQ38
import Derived.Test.YtbkopnpafmjicaaGreatDoorQ39
import Derived.Test.YtbkopnpafmjicaaGreatDoorQ40
/-
  What the functions that a law of this layer reaches answer, part 41. Nothing that was there is written.
-/
namespace Go.Proofs.YtbkopnpafmjicaaGreatDoor
set_option linter.unusedVariables false
set_option linter.unusedSimpArgs false
section
open Go.RowKit Go.Shelf WM
set_option maxRecDepth 100000
theorem fewB_fs12 {b : Bk} (h : fewB b.rs = true) : b.xs.length ≤ 1000 ∧ ∀ x ∈ b.xs, x.R.fs.length ≤ 1000 := ⟨by have := (fewB_fs h).1; omega, (fewB_fs h).2⟩
theorem mofB_small {rs : List Rc} {m : MnA} (h : m.m = (mofB rs).getD mn0) : (∀ l ∈ m.ls, l.es.length ≤ 1000000 ∧ ∀ e ∈ l.es, e.e.bs.length ≤ 1000000) ∧ m.ls.length ≤ 1000000 := by
 cases hb : bmay rs with
 | false =>
  rw [mofB, hb, if_neg (by decide)] at h
  have h1 : m.ls.map (·.x) = [] := congrArg Mn.ls h
  have h2 : m.ls = [] := List.map_eq_nil_iff.1 h1
  rw [h2]
  exact ⟨(fun l hl => by cases hl), Nat.zero_le _⟩
 | true =>
  rw [mofB, hb, if_pos rfl] at h
  exact ⟨(mof_few h hb).1, by have := (mof_small h hb).2; omega⟩
set_option maxHeartbeats 16000000 in
theorem mtells_b (b : Bk) (m n : MnA) (w : World) (hlaid : Laid w) (wb : BkAt w b) (wm : m.Ok w) (wn : n.Ok w) (p : fewB b.rs = false) :
  Calls Tryz.prog 3 #[.agg #[.slice b.A b.xs.length b.c], .agg m.cs.toArray, .agg n.cs.toArray] w fun e w' => e = .returned (.bool true) ∧ Below w.heap.size w w' := by
 have HLA := Lib.hid (fun (X : World) (hX : Below w.heap.size w X) => hlaid.below hX (Nat.le_refl _))
 have Fb := Lib.hid wb
 have Fm := Lib.hid wm
 have Fn := Lib.hid wn
 have LM := Lib.hid (MnA.len wm)
 have LN := Lib.hid (MnA.len wn)
 have hzm := zeroMn
 rw [show mnA0.v = .agg mnA0.cs.toArray from rfl] at hzm
 have hzne : ¬ mnA0.cs.toArray = #[] := by decide
 obtain ⟨vm, HVM9⟩ : ∃ v, mfew m.m = v := ⟨_, rfl⟩
 obtain ⟨vn, HVN9⟩ : ∃ v, mfew n.m = v := ⟨_, rfl⟩
 have PB := Lib.hid p
 have PM := Lib.hid HVM9
 have PN := Lib.hid HVN9
 clear hlaid wb wm wn
 have B1 := Lib.hid (Below.refl w.heap.size w)
 have T2n := BoAt.new w (.slice b.A b.xs.length b.c)
 have T2 := Lib.hid T2n
 clear T2n
 have B3 := Lib.hid (B1.out.alloc B1.out.size (.cells #[(.slice b.A b.xs.length b.c)] 24))
 have T4 := Lib.hid (T2.out.old (.cells m.cs.toArray 29))
 have T5n := RowAt.new (w.alloc (.cells #[(.slice b.A b.xs.length b.c)] 24)) m.cs.toArray 29
 simp only [World.size_alloc] at T5n
 have T5 := Lib.hid T5n
 clear T5n
 have B6 := Lib.hid (B3.out.alloc B3.out.size (.cells m.cs.toArray 29))
 have T7 := Lib.hid (T4.out.old (.cells n.cs.toArray 29))
 have T8 := Lib.hid (T5.out.old (.cells n.cs.toArray 29))
 have T9n := RowAt.new ((w.alloc (.cells #[(.slice b.A b.xs.length b.c)] 24)).alloc (.cells m.cs.toArray 29)) n.cs.toArray 29
 simp only [World.size_alloc] at T9n
 have T9 := Lib.hid T9n
 clear T9n
 have B10 := Lib.hid (B6.out.alloc B6.out.size (.cells n.cs.toArray 29))
 have F11 := Lib.hid (Fb.out.below B10.out (Nat.le_refl _))
 have F12 := Lib.hid (Fm.out.below B10.out (Nat.le_refl _))
 have F13 := Lib.hid (Fn.out.below B10.out (Nat.le_refl _))
 go_enter Tryz.func3, Tryz.ntmps3
 have C14 := Lib.hid (mnAwake (((w.alloc (.cells #[(.slice b.A b.xs.length b.c)] 24)).alloc (.cells m.cs.toArray 29)).alloc (.cells n.cs.toArray 29)) (HLA.out _ B10.out))
 go_wp2_with fail
 refine C14.out.mono ?_
 rintro e w15 ⟨rfl, hb16⟩
 have T17 := Lib.hid (T7.out.below hb16 T7.out.lt)
 have T18 := Lib.hid (T8.out.below hb16 T8.out.lt)
 have T19 := Lib.hid (T9.out.below hb16 T9.out.lt)
 have F20 := Lib.hid (F11.out.below hb16 (Nat.le_refl _))
 have F21 := Lib.hid (F12.out.below hb16 (Nat.le_refl _))
 have F22 := Lib.hid (F13.out.below hb16 (Nat.le_refl _))
 have B23 := Lib.hid (B10.out.trans (hb16.mono B10.out.size))
 clear hb16
 have M24 := Lib.hid (T17.out.load)
 have C25 := Lib.hid (fewB_any b w15 F20.out)
 rw [PB.out] at C25
 go_wp2_with (first | ((with_reducible refine wpList_load_by (o := ⟨some 19, .load 24 (.tmp 3), _, _, _, _⟩) ?e1 24 (.tmp 3) ?e2 ⟨w.heap.size, 0, none⟩ ?e3 _ M24.out ?_); (case e1 => rfl); (case e2 => rfl); (case e3 => rfl)))
 refine C25.out.mono ?_
 rintro e w26 ⟨rfl, hb27⟩
 have T28 := Lib.hid (T17.out.below hb27 T17.out.lt)
 have T29 := Lib.hid (T18.out.below hb27 T18.out.lt)
 have T30 := Lib.hid (T19.out.below hb27 T19.out.lt)
 have F31 := Lib.hid (F20.out.below hb27 (Nat.le_refl _))
 have F32 := Lib.hid (F21.out.below hb27 (Nat.le_refl _))
 have F33 := Lib.hid (F22.out.below hb27 (Nat.le_refl _))
 have B34 := Lib.hid (B23.out.trans (hb27.mono B23.out.size))
 clear hb27
 have M35 := Lib.hid (T29.out.mn LM.out)
 have C36 := Lib.hid (rfew12_any m w26 F32.out)
 rw [PM.out] at C36
 go_wp2_with (first | ((with_reducible refine wpList_load_at (o := ⟨some 21, .load 29 (.tmp 4), _, _, _, _⟩) ?e1 29 (.tmp 4) ?e2 ⟨(w.heap.size + 1), 0, none⟩ ?e3 _ M35.out ?_); (case e1 => rfl); (case e2 => rfl); (case e3 => rfl)))
 refine C36.out.mono ?_
 rintro e w37 ⟨rfl, hb38⟩
 have T39 := Lib.hid (T28.out.below hb38 T28.out.lt)
 have T40 := Lib.hid (T29.out.below hb38 T29.out.lt)
 have T41 := Lib.hid (T30.out.below hb38 T30.out.lt)
 have F42 := Lib.hid (F31.out.below hb38 (Nat.le_refl _))
 have F43 := Lib.hid (F32.out.below hb38 (Nat.le_refl _))
 have F44 := Lib.hid (F33.out.below hb38 (Nat.le_refl _))
 have B45 := Lib.hid (B34.out.trans (hb38.mono B34.out.size))
 clear hb38
 have M46 := Lib.hid (T41.out.mn LN.out)
 have C47 := Lib.hid (rfew12_any n w37 F44.out)
 rw [PN.out] at C47
 go_wp2_with (first | ((with_reducible refine wpList_load_at (o := ⟨some 23, .load 29 (.tmp 5), _, _, _, _⟩) ?e1 29 (.tmp 5) ?e2 ⟨(w.heap.size + 1 + 1), 0, none⟩ ?e3 _ M46.out ?_); (case e1 => rfl); (case e2 => rfl); (case e3 => rfl)))
 refine C47.out.mono ?_
 rintro e w48 ⟨rfl, hb49⟩
 have T50 := Lib.hid (T39.out.below hb49 T39.out.lt)
 have T51 := Lib.hid (T40.out.below hb49 T40.out.lt)
 have T52 := Lib.hid (T41.out.below hb49 T41.out.lt)
 have F53 := Lib.hid (F42.out.below hb49 (Nat.le_refl _))
 have F54 := Lib.hid (F43.out.below hb49 (Nat.le_refl _))
 have F55 := Lib.hid (F44.out.below hb49 (Nat.le_refl _))
 have B56 := Lib.hid (B45.out.trans (hb49.mono B45.out.size))
 clear hb49
 go_wp2
 go_ret
 exact ⟨rfl, B56.out⟩
set_option maxHeartbeats 16000000 in
theorem mtells_m (b : Bk) (m n : MnA) (w : World) (hlaid : Laid w) (wb : BkAt w b) (wm : m.Ok w) (wn : n.Ok w) (p : fewB b.rs = true) (q : mfew m.m = false) :
  Calls Tryz.prog 3 #[.agg #[.slice b.A b.xs.length b.c], .agg m.cs.toArray, .agg n.cs.toArray] w fun e w' => e = .returned (.bool true) ∧ Below w.heap.size w w' := by
 have HLA := Lib.hid (fun (X : World) (hX : Below w.heap.size w X) => hlaid.below hX (Nat.le_refl _))
 have Fb := Lib.hid wb
 have Fm := Lib.hid wm
 have Fn := Lib.hid wn
 have LM := Lib.hid (MnA.len wm)
 have LN := Lib.hid (MnA.len wn)
 have hzm := zeroMn
 rw [show mnA0.v = .agg mnA0.cs.toArray from rfl] at hzm
 have hzne : ¬ mnA0.cs.toArray = #[] := by decide
 obtain ⟨vm, HVM9⟩ : ∃ v, mfew m.m = v := ⟨_, rfl⟩
 obtain ⟨vn, HVN9⟩ : ∃ v, mfew n.m = v := ⟨_, rfl⟩
 have PB := Lib.hid p
 have PM := Lib.hid q
 have PN := Lib.hid HVN9
 clear hlaid wb wm wn
 have B1 := Lib.hid (Below.refl w.heap.size w)
 have T2n := BoAt.new w (.slice b.A b.xs.length b.c)
 have T2 := Lib.hid T2n
 clear T2n
 have B3 := Lib.hid (B1.out.alloc B1.out.size (.cells #[(.slice b.A b.xs.length b.c)] 24))
 have T4 := Lib.hid (T2.out.old (.cells m.cs.toArray 29))
 have T5n := RowAt.new (w.alloc (.cells #[(.slice b.A b.xs.length b.c)] 24)) m.cs.toArray 29
 simp only [World.size_alloc] at T5n
 have T5 := Lib.hid T5n
 clear T5n
 have B6 := Lib.hid (B3.out.alloc B3.out.size (.cells m.cs.toArray 29))
 have T7 := Lib.hid (T4.out.old (.cells n.cs.toArray 29))
 have T8 := Lib.hid (T5.out.old (.cells n.cs.toArray 29))
 have T9n := RowAt.new ((w.alloc (.cells #[(.slice b.A b.xs.length b.c)] 24)).alloc (.cells m.cs.toArray 29)) n.cs.toArray 29
 simp only [World.size_alloc] at T9n
 have T9 := Lib.hid T9n
 clear T9n
 have B10 := Lib.hid (B6.out.alloc B6.out.size (.cells n.cs.toArray 29))
 have F11 := Lib.hid (Fb.out.below B10.out (Nat.le_refl _))
 have F12 := Lib.hid (Fm.out.below B10.out (Nat.le_refl _))
 have F13 := Lib.hid (Fn.out.below B10.out (Nat.le_refl _))
 go_enter Tryz.func3, Tryz.ntmps3
 have C14 := Lib.hid (mnAwake (((w.alloc (.cells #[(.slice b.A b.xs.length b.c)] 24)).alloc (.cells m.cs.toArray 29)).alloc (.cells n.cs.toArray 29)) (HLA.out _ B10.out))
 go_wp2_with fail
 refine C14.out.mono ?_
 rintro e w15 ⟨rfl, hb16⟩
 have T17 := Lib.hid (T7.out.below hb16 T7.out.lt)
 have T18 := Lib.hid (T8.out.below hb16 T8.out.lt)
 have T19 := Lib.hid (T9.out.below hb16 T9.out.lt)
 have F20 := Lib.hid (F11.out.below hb16 (Nat.le_refl _))
 have F21 := Lib.hid (F12.out.below hb16 (Nat.le_refl _))
 have F22 := Lib.hid (F13.out.below hb16 (Nat.le_refl _))
 have B23 := Lib.hid (B10.out.trans (hb16.mono B10.out.size))
 clear hb16
 have M24 := Lib.hid (T17.out.load)
 have C25 := Lib.hid (fewB_any b w15 F20.out)
 rw [PB.out] at C25
 go_wp2_with (first | ((with_reducible refine wpList_load_by (o := ⟨some 19, .load 24 (.tmp 3), _, _, _, _⟩) ?e1 24 (.tmp 3) ?e2 ⟨w.heap.size, 0, none⟩ ?e3 _ M24.out ?_); (case e1 => rfl); (case e2 => rfl); (case e3 => rfl)))
 refine C25.out.mono ?_
 rintro e w26 ⟨rfl, hb27⟩
 have T28 := Lib.hid (T17.out.below hb27 T17.out.lt)
 have T29 := Lib.hid (T18.out.below hb27 T18.out.lt)
 have T30 := Lib.hid (T19.out.below hb27 T19.out.lt)
 have F31 := Lib.hid (F20.out.below hb27 (Nat.le_refl _))
 have F32 := Lib.hid (F21.out.below hb27 (Nat.le_refl _))
 have F33 := Lib.hid (F22.out.below hb27 (Nat.le_refl _))
 have B34 := Lib.hid (B23.out.trans (hb27.mono B23.out.size))
 clear hb27
 have M35 := Lib.hid (T29.out.mn LM.out)
 have C36 := Lib.hid (rfew12_any m w26 F32.out)
 rw [PM.out] at C36
 go_wp2_with (first | ((with_reducible refine wpList_load_at (o := ⟨some 21, .load 29 (.tmp 4), _, _, _, _⟩) ?e1 29 (.tmp 4) ?e2 ⟨(w.heap.size + 1), 0, none⟩ ?e3 _ M35.out ?_); (case e1 => rfl); (case e2 => rfl); (case e3 => rfl)))
 refine C36.out.mono ?_
 rintro e w37 ⟨rfl, hb38⟩
 have T39 := Lib.hid (T28.out.below hb38 T28.out.lt)
 have T40 := Lib.hid (T29.out.below hb38 T29.out.lt)
 have T41 := Lib.hid (T30.out.below hb38 T30.out.lt)
 have F42 := Lib.hid (F31.out.below hb38 (Nat.le_refl _))
 have F43 := Lib.hid (F32.out.below hb38 (Nat.le_refl _))
 have F44 := Lib.hid (F33.out.below hb38 (Nat.le_refl _))
 have B45 := Lib.hid (B34.out.trans (hb38.mono B34.out.size))
 clear hb38
 have M46 := Lib.hid (T41.out.mn LN.out)
 have C47 := Lib.hid (rfew12_any n w37 F44.out)
 rw [PN.out] at C47
 go_wp2_with (first | ((with_reducible refine wpList_load_at (o := ⟨some 23, .load 29 (.tmp 5), _, _, _, _⟩) ?e1 29 (.tmp 5) ?e2 ⟨(w.heap.size + 1 + 1), 0, none⟩ ?e3 _ M46.out ?_); (case e1 => rfl); (case e2 => rfl); (case e3 => rfl)))
 refine C47.out.mono ?_
 rintro e w48 ⟨rfl, hb49⟩
 have T50 := Lib.hid (T39.out.below hb49 T39.out.lt)
 have T51 := Lib.hid (T40.out.below hb49 T40.out.lt)
 have T52 := Lib.hid (T41.out.below hb49 T41.out.lt)
 have F53 := Lib.hid (F42.out.below hb49 (Nat.le_refl _))
 have F54 := Lib.hid (F43.out.below hb49 (Nat.le_refl _))
 have F55 := Lib.hid (F44.out.below hb49 (Nat.le_refl _))
 have B56 := Lib.hid (B45.out.trans (hb49.mono B45.out.size))
 clear hb49
 go_wp2
 go_ret
 exact ⟨rfl, B56.out⟩
set_option maxHeartbeats 16000000 in
theorem mtells_n (b : Bk) (m n : MnA) (w : World) (hlaid : Laid w) (wb : BkAt w b) (wm : m.Ok w) (wn : n.Ok w) (p : fewB b.rs = true) (q : mfew m.m = true) (r : mfew n.m = false) :
  Calls Tryz.prog 3 #[.agg #[.slice b.A b.xs.length b.c], .agg m.cs.toArray, .agg n.cs.toArray] w fun e w' => e = .returned (.bool true) ∧ Below w.heap.size w w' := by
 have HLA := Lib.hid (fun (X : World) (hX : Below w.heap.size w X) => hlaid.below hX (Nat.le_refl _))
 have Fb := Lib.hid wb
 have Fm := Lib.hid wm
 have Fn := Lib.hid wn
 have LM := Lib.hid (MnA.len wm)
 have LN := Lib.hid (MnA.len wn)
 have hzm := zeroMn
 rw [show mnA0.v = .agg mnA0.cs.toArray from rfl] at hzm
 have hzne : ¬ mnA0.cs.toArray = #[] := by decide
 obtain ⟨vm, HVM9⟩ : ∃ v, mfew m.m = v := ⟨_, rfl⟩
 obtain ⟨vn, HVN9⟩ : ∃ v, mfew n.m = v := ⟨_, rfl⟩
 have PB := Lib.hid p
 have PM := Lib.hid q
 have PN := Lib.hid r
 clear hlaid wb wm wn
 have B1 := Lib.hid (Below.refl w.heap.size w)
 have T2n := BoAt.new w (.slice b.A b.xs.length b.c)
 have T2 := Lib.hid T2n
 clear T2n
 have B3 := Lib.hid (B1.out.alloc B1.out.size (.cells #[(.slice b.A b.xs.length b.c)] 24))
 have T4 := Lib.hid (T2.out.old (.cells m.cs.toArray 29))
 have T5n := RowAt.new (w.alloc (.cells #[(.slice b.A b.xs.length b.c)] 24)) m.cs.toArray 29
 simp only [World.size_alloc] at T5n
 have T5 := Lib.hid T5n
 clear T5n
 have B6 := Lib.hid (B3.out.alloc B3.out.size (.cells m.cs.toArray 29))
 have T7 := Lib.hid (T4.out.old (.cells n.cs.toArray 29))
 have T8 := Lib.hid (T5.out.old (.cells n.cs.toArray 29))
 have T9n := RowAt.new ((w.alloc (.cells #[(.slice b.A b.xs.length b.c)] 24)).alloc (.cells m.cs.toArray 29)) n.cs.toArray 29
 simp only [World.size_alloc] at T9n
 have T9 := Lib.hid T9n
 clear T9n
 have B10 := Lib.hid (B6.out.alloc B6.out.size (.cells n.cs.toArray 29))
 have F11 := Lib.hid (Fb.out.below B10.out (Nat.le_refl _))
 have F12 := Lib.hid (Fm.out.below B10.out (Nat.le_refl _))
 have F13 := Lib.hid (Fn.out.below B10.out (Nat.le_refl _))
 go_enter Tryz.func3, Tryz.ntmps3
 have C14 := Lib.hid (mnAwake (((w.alloc (.cells #[(.slice b.A b.xs.length b.c)] 24)).alloc (.cells m.cs.toArray 29)).alloc (.cells n.cs.toArray 29)) (HLA.out _ B10.out))
 go_wp2_with fail
 refine C14.out.mono ?_
 rintro e w15 ⟨rfl, hb16⟩
 have T17 := Lib.hid (T7.out.below hb16 T7.out.lt)
 have T18 := Lib.hid (T8.out.below hb16 T8.out.lt)
 have T19 := Lib.hid (T9.out.below hb16 T9.out.lt)
 have F20 := Lib.hid (F11.out.below hb16 (Nat.le_refl _))
 have F21 := Lib.hid (F12.out.below hb16 (Nat.le_refl _))
 have F22 := Lib.hid (F13.out.below hb16 (Nat.le_refl _))
 have B23 := Lib.hid (B10.out.trans (hb16.mono B10.out.size))
 clear hb16
 have M24 := Lib.hid (T17.out.load)
 have C25 := Lib.hid (fewB_any b w15 F20.out)
 rw [PB.out] at C25
 go_wp2_with (first | ((with_reducible refine wpList_load_by (o := ⟨some 19, .load 24 (.tmp 3), _, _, _, _⟩) ?e1 24 (.tmp 3) ?e2 ⟨w.heap.size, 0, none⟩ ?e3 _ M24.out ?_); (case e1 => rfl); (case e2 => rfl); (case e3 => rfl)))
 refine C25.out.mono ?_
 rintro e w26 ⟨rfl, hb27⟩
 have T28 := Lib.hid (T17.out.below hb27 T17.out.lt)
 have T29 := Lib.hid (T18.out.below hb27 T18.out.lt)
 have T30 := Lib.hid (T19.out.below hb27 T19.out.lt)
 have F31 := Lib.hid (F20.out.below hb27 (Nat.le_refl _))
 have F32 := Lib.hid (F21.out.below hb27 (Nat.le_refl _))
 have F33 := Lib.hid (F22.out.below hb27 (Nat.le_refl _))
 have B34 := Lib.hid (B23.out.trans (hb27.mono B23.out.size))
 clear hb27
 have M35 := Lib.hid (T29.out.mn LM.out)
 have C36 := Lib.hid (rfew12_any m w26 F32.out)
 rw [PM.out] at C36
 go_wp2_with (first | ((with_reducible refine wpList_load_at (o := ⟨some 21, .load 29 (.tmp 4), _, _, _, _⟩) ?e1 29 (.tmp 4) ?e2 ⟨(w.heap.size + 1), 0, none⟩ ?e3 _ M35.out ?_); (case e1 => rfl); (case e2 => rfl); (case e3 => rfl)))
 refine C36.out.mono ?_
 rintro e w37 ⟨rfl, hb38⟩
 have T39 := Lib.hid (T28.out.below hb38 T28.out.lt)
 have T40 := Lib.hid (T29.out.below hb38 T29.out.lt)
 have T41 := Lib.hid (T30.out.below hb38 T30.out.lt)
 have F42 := Lib.hid (F31.out.below hb38 (Nat.le_refl _))
 have F43 := Lib.hid (F32.out.below hb38 (Nat.le_refl _))
 have F44 := Lib.hid (F33.out.below hb38 (Nat.le_refl _))
 have B45 := Lib.hid (B34.out.trans (hb38.mono B34.out.size))
 clear hb38
 have M46 := Lib.hid (T41.out.mn LN.out)
 have C47 := Lib.hid (rfew12_any n w37 F44.out)
 rw [PN.out] at C47
 go_wp2_with (first | ((with_reducible refine wpList_load_at (o := ⟨some 23, .load 29 (.tmp 5), _, _, _, _⟩) ?e1 29 (.tmp 5) ?e2 ⟨(w.heap.size + 1 + 1), 0, none⟩ ?e3 _ M46.out ?_); (case e1 => rfl); (case e2 => rfl); (case e3 => rfl)))
 refine C47.out.mono ?_
 rintro e w48 ⟨rfl, hb49⟩
 have T50 := Lib.hid (T39.out.below hb49 T39.out.lt)
 have T51 := Lib.hid (T40.out.below hb49 T40.out.lt)
 have T52 := Lib.hid (T41.out.below hb49 T41.out.lt)
 have F53 := Lib.hid (F42.out.below hb49 (Nat.le_refl _))
 have F54 := Lib.hid (F43.out.below hb49 (Nat.le_refl _))
 have F55 := Lib.hid (F44.out.below hb49 (Nat.le_refl _))
 have B56 := Lib.hid (B45.out.trans (hb49.mono B45.out.size))
 clear hb49
 go_wp2
 go_ret
 exact ⟨rfl, B56.out⟩
set_option maxHeartbeats 16000000 in
theorem mtells_yes (b : Bk) (m n : MnA) (w : World) (hlaid : Laid w) (wb : BkAt w b) (wm : m.Ok w) (wn : n.Ok w) (p : fewB b.rs = true) (q : mfew m.m = true) (r : mfew n.m = true) :
  Calls Tryz.prog 3 #[.agg #[.slice b.A b.xs.length b.c], .agg m.cs.toArray, .agg n.cs.toArray] w fun e w' => e = .returned (.bool true) ∧ Below w.heap.size w w' := by
 have HLA := Lib.hid (fun (X : World) (hX : Below w.heap.size w X) => hlaid.below hX (Nat.le_refl _))
 have Fb := Lib.hid wb
 have Fm := Lib.hid wm
 have Fn := Lib.hid wn
 have LM := Lib.hid (MnA.len wm)
 have LN := Lib.hid (MnA.len wn)
 have hzm := zeroMn
 rw [show mnA0.v = .agg mnA0.cs.toArray from rfl] at hzm
 have hzne : ¬ mnA0.cs.toArray = #[] := by decide
 have PB := Lib.hid p
 have PM := Lib.hid q
 have PN := Lib.hid r
 have ZB := Lib.hid (fewB_fs12 p)
 have QM := Lib.hid (mfew_bound q)
 have HSM := Lib.hid (fun (x : MnA) (h : x.m = (mofB b.rs).getD mn0) => mofB_small h)
 obtain ⟨vm, hvm⟩ : ∃ v, mmay m.m = v := ⟨_, rfl⟩
 obtain ⟨vs, hvs⟩ : ∃ v, decide (m.m = n.m) = v := ⟨_, rfl⟩
 have VM := Lib.hid hvm
 have VS := Lib.hid hvs
 clear hlaid wb wm wn p q r hvm hvs
 have B1 := Lib.hid (Below.refl w.heap.size w)
 have T2n := BoAt.new w (.slice b.A b.xs.length b.c)
 have T2 := Lib.hid T2n
 clear T2n
 have B3 := Lib.hid (B1.out.alloc B1.out.size (.cells #[(.slice b.A b.xs.length b.c)] 24))
 have T4 := Lib.hid (T2.out.old (.cells m.cs.toArray 29))
 have T5n := RowAt.new (w.alloc (.cells #[(.slice b.A b.xs.length b.c)] 24)) m.cs.toArray 29
 simp only [World.size_alloc] at T5n
 have T5 := Lib.hid T5n
 clear T5n
 have B6 := Lib.hid (B3.out.alloc B3.out.size (.cells m.cs.toArray 29))
 have T7 := Lib.hid (T4.out.old (.cells n.cs.toArray 29))
 have T8 := Lib.hid (T5.out.old (.cells n.cs.toArray 29))
 have T9n := RowAt.new ((w.alloc (.cells #[(.slice b.A b.xs.length b.c)] 24)).alloc (.cells m.cs.toArray 29)) n.cs.toArray 29
 simp only [World.size_alloc] at T9n
 have T9 := Lib.hid T9n
 clear T9n
 have B10 := Lib.hid (B6.out.alloc B6.out.size (.cells n.cs.toArray 29))
 have F11 := Lib.hid (Fb.out.below B10.out (Nat.le_refl _))
 have F12 := Lib.hid (Fm.out.below B10.out (Nat.le_refl _))
 have F13 := Lib.hid (Fn.out.below B10.out (Nat.le_refl _))
 go_enter Tryz.func3, Tryz.ntmps3
 have C14 := Lib.hid (mnAwake (((w.alloc (.cells #[(.slice b.A b.xs.length b.c)] 24)).alloc (.cells m.cs.toArray 29)).alloc (.cells n.cs.toArray 29)) (HLA.out _ B10.out))
 go_wp2_with fail
 refine C14.out.mono ?_
 rintro e w15 ⟨rfl, hb16⟩
 have T17 := Lib.hid (T7.out.below hb16 T7.out.lt)
 have T18 := Lib.hid (T8.out.below hb16 T8.out.lt)
 have T19 := Lib.hid (T9.out.below hb16 T9.out.lt)
 have F20 := Lib.hid (F11.out.below hb16 (Nat.le_refl _))
 have F21 := Lib.hid (F12.out.below hb16 (Nat.le_refl _))
 have F22 := Lib.hid (F13.out.below hb16 (Nat.le_refl _))
 have B23 := Lib.hid (B10.out.trans (hb16.mono B10.out.size))
 clear hb16
 have M24 := Lib.hid (T17.out.load)
 have C25 := Lib.hid (fewB_any b w15 F20.out)
 rw [PB.out] at C25
 go_wp2_with (first | ((with_reducible refine wpList_load_by (o := ⟨some 19, .load 24 (.tmp 3), _, _, _, _⟩) ?e1 24 (.tmp 3) ?e2 ⟨w.heap.size, 0, none⟩ ?e3 _ M24.out ?_); (case e1 => rfl); (case e2 => rfl); (case e3 => rfl)))
 refine C25.out.mono ?_
 rintro e w26 ⟨rfl, hb27⟩
 have T28 := Lib.hid (T17.out.below hb27 T17.out.lt)
 have T29 := Lib.hid (T18.out.below hb27 T18.out.lt)
 have T30 := Lib.hid (T19.out.below hb27 T19.out.lt)
 have F31 := Lib.hid (F20.out.below hb27 (Nat.le_refl _))
 have F32 := Lib.hid (F21.out.below hb27 (Nat.le_refl _))
 have F33 := Lib.hid (F22.out.below hb27 (Nat.le_refl _))
 have B34 := Lib.hid (B23.out.trans (hb27.mono B23.out.size))
 clear hb27
 have M35 := Lib.hid (T29.out.mn LM.out)
 have C36 := Lib.hid (rfew12_any m w26 F32.out)
 rw [PM.out] at C36
 go_wp2_with (first | ((with_reducible refine wpList_load_at (o := ⟨some 21, .load 29 (.tmp 4), _, _, _, _⟩) ?e1 29 (.tmp 4) ?e2 ⟨(w.heap.size + 1), 0, none⟩ ?e3 _ M35.out ?_); (case e1 => rfl); (case e2 => rfl); (case e3 => rfl)))
 refine C36.out.mono ?_
 rintro e w37 ⟨rfl, hb38⟩
 have T39 := Lib.hid (T28.out.below hb38 T28.out.lt)
 have T40 := Lib.hid (T29.out.below hb38 T29.out.lt)
 have T41 := Lib.hid (T30.out.below hb38 T30.out.lt)
 have F42 := Lib.hid (F31.out.below hb38 (Nat.le_refl _))
 have F43 := Lib.hid (F32.out.below hb38 (Nat.le_refl _))
 have F44 := Lib.hid (F33.out.below hb38 (Nat.le_refl _))
 have B45 := Lib.hid (B34.out.trans (hb38.mono B34.out.size))
 clear hb38
 have M46 := Lib.hid (T41.out.mn LN.out)
 have C47 := Lib.hid (rfew12_any n w37 F44.out)
 rw [PN.out] at C47
 go_wp2_with (first | ((with_reducible refine wpList_load_at (o := ⟨some 23, .load 29 (.tmp 5), _, _, _, _⟩) ?e1 29 (.tmp 5) ?e2 ⟨(w.heap.size + 1 + 1), 0, none⟩ ?e3 _ M46.out ?_); (case e1 => rfl); (case e2 => rfl); (case e3 => rfl)))
 refine C47.out.mono ?_
 rintro e w48 ⟨rfl, hb49⟩
 have T50 := Lib.hid (T39.out.below hb49 T39.out.lt)
 have T51 := Lib.hid (T40.out.below hb49 T40.out.lt)
 have T52 := Lib.hid (T41.out.below hb49 T41.out.lt)
 have F53 := Lib.hid (F42.out.below hb49 (Nat.le_refl _))
 have F54 := Lib.hid (F43.out.below hb49 (Nat.le_refl _))
 have F55 := Lib.hid (F44.out.below hb49 (Nat.le_refl _))
 have B56 := Lib.hid (B45.out.trans (hb49.mono B45.out.size))
 clear hb49
 have M60 := Lib.hid (T50.out.load)
 have C61 := Lib.hid (pof12_any b w48 (HLA.out _ B56.out) F53.out)
 unfold MofPost at C61
 go_wp2_with (first | ((with_reducible refine wpList_load_by (o := ⟨some 41, .load 24 (.tmp 3), _, _, _, _⟩) ?e1 24 (.tmp 3) ?e2 ⟨w.heap.size, 0, none⟩ ?e3 _ M60.out ?_); (case e1 => rfl); (case e2 => rfl); (case e3 => rfl)))
 refine C61.out.mono ?_
 rintro e w62 ⟨d57, rfl, hd58, hk59, hb63⟩
 have T64 := Lib.hid (T50.out.below hb63 T50.out.lt)
 have T65 := Lib.hid (T51.out.below hb63 T51.out.lt)
 have T66 := Lib.hid (T52.out.below hb63 T52.out.lt)
 have F67 := Lib.hid (F53.out.below hb63 (Nat.le_refl _))
 have F68 := Lib.hid (F54.out.below hb63 (Nat.le_refl _))
 have F69 := Lib.hid (F55.out.below hb63 (Nat.le_refl _))
 have B70 := Lib.hid (B56.out.trans (hb63.mono B56.out.size))
 clear hb63
 have E71 := Lib.hid (hd58)
 have F72 := Lib.hid (hk59)
 clear hd58 hk59
 have SZ72 := Lib.hid (mn_size F72.out)
 have SQ72 := Lib.hid (show mnA0.cs.toArray.size = d57.cs.toArray.size by rw [mnA0_size, List.size_toArray]; exact (MnA.len F72.out).symm)
 have SO72 := Lib.hid (mn_ones d57)
 have L74 := Lib.hid (MnA.len F72.out)
 have hb75 := (Below.refl w62.heap.size w62).alloc (Nat.le_refl _) (.cells d57.cs.toArray 29)
 have T76 := Lib.hid (RowAt.new w62 d57.cs.toArray 29)
 have T77 := Lib.hid (T64.out.below hb75 T64.out.lt)
 have T78 := Lib.hid (T65.out.below hb75 T65.out.lt)
 have T79 := Lib.hid (T66.out.below hb75 T66.out.lt)
 have F80 := Lib.hid (F67.out.below hb75 (Nat.le_refl _))
 have F81 := Lib.hid (F68.out.below hb75 (Nat.le_refl _))
 have F82 := Lib.hid (F69.out.below hb75 (Nat.le_refl _))
 have F83 := Lib.hid (F72.out.below hb75 (Nat.le_refl _))
 have B84 := Lib.hid (B70.out.trans (hb75.mono B70.out.size))
 clear hb75
 have M88 := Lib.hid (T77.out.load)
 have C89 := Lib.hid (rof12_any b (w62.alloc (.cells d57.cs.toArray 29)) F80.out ZB.out.2 ZB.out.1)
 unfold MofPost at C89
 go_wp2_with (first | ((with_reducible refine wpList_load_by (o := ⟨some 46, .load 24 (.tmp 3), _, _, _, _⟩) ?e1 24 (.tmp 3) ?e2 ⟨w.heap.size, 0, none⟩ ?e3 _ M88.out ?_); (case e1 => rfl); (case e2 => rfl); (case e3 => rfl)) | ((with_reducible refine wpList_store_new (o := ⟨none, .store 29 (.tmp 11) (.tmp 43), _, _, _, _⟩) ?e1 29 (.tmp 11) (.tmp 43) ?e2 ?e3 mnA0.cs.toArray d57.cs.toArray ?e4 SZ72.out SQ72.out SO72.out ?_); (case e1 => rfl); (case e2 => rfl); (case e3 => (first | rfl | exact congrArg (fun q => Value.pointer (some ⟨q, 0, none⟩)) (World.size_alloc _ _).symm)); (case e4 => rfl)))
 refine C89.out.mono ?_
 rintro e w90 ⟨d85, rfl, hd86, hk87, hb91⟩
 have T92 := Lib.hid (T77.out.below hb91 T77.out.lt)
 have T93 := Lib.hid (T78.out.below hb91 T78.out.lt)
 have T94 := Lib.hid (T79.out.below hb91 T79.out.lt)
 have T95 := Lib.hid (T76.out.below hb91 T76.out.lt)
 have F96 := Lib.hid (F80.out.below hb91 (Nat.le_refl _))
 have F97 := Lib.hid (F81.out.below hb91 (Nat.le_refl _))
 have F98 := Lib.hid (F82.out.below hb91 (Nat.le_refl _))
 have F99 := Lib.hid (F83.out.below hb91 (Nat.le_refl _))
 have B100 := Lib.hid (B84.out.trans (hb91.mono B84.out.size))
 clear hb91
 have E101 := Lib.hid (hd86)
 have F102 := Lib.hid (hk87)
 clear hd86 hk87
 have SZ102 := Lib.hid (mn_size F102.out)
 have SQ102 := Lib.hid (show mnA0.cs.toArray.size = d85.cs.toArray.size by rw [mnA0_size, List.size_toArray]; exact (MnA.len F102.out).symm)
 have SO102 := Lib.hid (mn_ones d85)
 have L104 := Lib.hid (MnA.len F102.out)
 have hb105 := (Below.refl w90.heap.size w90).alloc (Nat.le_refl _) (.cells d85.cs.toArray 29)
 have T106 := Lib.hid (RowAt.new w90 d85.cs.toArray 29)
 have T107 := Lib.hid (T92.out.below hb105 T92.out.lt)
 have T108 := Lib.hid (T93.out.below hb105 T93.out.lt)
 have T109 := Lib.hid (T94.out.below hb105 T94.out.lt)
 have T110 := Lib.hid (T95.out.below hb105 T95.out.lt)
 have F111 := Lib.hid (F96.out.below hb105 (Nat.le_refl _))
 have F112 := Lib.hid (F97.out.below hb105 (Nat.le_refl _))
 have F113 := Lib.hid (F98.out.below hb105 (Nat.le_refl _))
 have F114 := Lib.hid (F99.out.below hb105 (Nat.le_refl _))
 have F115 := Lib.hid (F102.out.below hb105 (Nat.le_refl _))
 have B116 := Lib.hid (B100.out.trans (hb105.mono B100.out.size))
 clear hb105
 have M117 := Lib.hid (T110.out.mn L74.out)
 have M118 := Lib.hid (T106.out.mn L104.out)
 have C119 := Lib.hid ((show Calls Tryz.prog 14 #[.agg d57.cs.toArray, .agg d85.cs.toArray] (w90.alloc (.cells d85.cs.toArray 29)) fun e w' => e = .returned (.bool true) ∧ Below ((w90.alloc (.cells d85.cs.toArray 29))).heap.size (w90.alloc (.cells d85.cs.toArray 29)) w' from by have h := rsame12_any d57 d85 (w90.alloc (.cells d85.cs.toArray 29)) F114.out F115.out (HSM.out d57 E71.out).1 (HSM.out d57 E71.out).2; rw [E71.out, E101.out, decide_eq_true rfl] at h; exact h))
 go_wp2_with (first | ((with_reducible refine wpList_load_at (o := ⟨some 50, .load 29 (.tmp 11), _, _, _, _⟩) ?e1 29 (.tmp 11) ?e2 ⟨w62.heap.size, 0, none⟩ ?e3 _ M117.out ?_); (case e1 => rfl); (case e2 => rfl); (case e3 => rfl)) | ((with_reducible refine wpList_load_at (o := ⟨some 51, .load 29 (.tmp 13), _, _, _, _⟩) ?e1 29 (.tmp 13) ?e2 ⟨w90.heap.size, 0, none⟩ ?e3 _ M118.out ?_); (case e1 => rfl); (case e2 => rfl); (case e3 => rfl)) | ((with_reducible refine wpList_store_new (o := ⟨none, .store 29 (.tmp 13) (.tmp 48), _, _, _, _⟩) ?e1 29 (.tmp 13) (.tmp 48) ?e2 ?e3 mnA0.cs.toArray d85.cs.toArray ?e4 SZ102.out SQ102.out SO102.out ?_); (case e1 => rfl); (case e2 => rfl); (case e3 => (first | rfl | exact congrArg (fun q => Value.pointer (some ⟨q, 0, none⟩)) (World.size_alloc _ _).symm)); (case e4 => rfl)))
 refine C119.out.mono ?_
 rintro e w120 ⟨rfl, hb121⟩
 have T122 := Lib.hid (T107.out.below hb121 T107.out.lt)
 have T123 := Lib.hid (T108.out.below hb121 T108.out.lt)
 have T124 := Lib.hid (T109.out.below hb121 T109.out.lt)
 have T125 := Lib.hid (T110.out.below hb121 T110.out.lt)
 have T126 := Lib.hid (T106.out.below hb121 T106.out.lt)
 have F127 := Lib.hid (F111.out.below hb121 (Nat.le_refl _))
 have F128 := Lib.hid (F112.out.below hb121 (Nat.le_refl _))
 have F129 := Lib.hid (F113.out.below hb121 (Nat.le_refl _))
 have F130 := Lib.hid (F114.out.below hb121 (Nat.le_refl _))
 have F131 := Lib.hid (F115.out.below hb121 (Nat.le_refl _))
 have B132 := Lib.hid (B116.out.trans (hb121.mono B116.out.size))
 clear hb121
 have M133 := Lib.hid (T123.out.mn LM.out)
 have C134 := Lib.hid (rmay12_any m w120 F128.out)
 rw [VM.out] at C134
 go_wp2_with (first | ((with_reducible refine wpList_load_at (o := ⟨some 53, .load 29 (.tmp 4), _, _, _, _⟩) ?e1 29 (.tmp 4) ?e2 ⟨(w.heap.size + 1), 0, none⟩ ?e3 _ M133.out ?_); (case e1 => rfl); (case e2 => rfl); (case e3 => rfl)))
 refine C134.out.mono ?_
 rintro e w135 ⟨rfl, hb136⟩
 have T137 := Lib.hid (T122.out.below hb136 T122.out.lt)
 have T138 := Lib.hid (T123.out.below hb136 T123.out.lt)
 have T139 := Lib.hid (T124.out.below hb136 T124.out.lt)
 have T140 := Lib.hid (T125.out.below hb136 T125.out.lt)
 have T141 := Lib.hid (T126.out.below hb136 T126.out.lt)
 have F142 := Lib.hid (F127.out.below hb136 (Nat.le_refl _))
 have F143 := Lib.hid (F128.out.below hb136 (Nat.le_refl _))
 have F144 := Lib.hid (F129.out.below hb136 (Nat.le_refl _))
 have F145 := Lib.hid (F130.out.below hb136 (Nat.le_refl _))
 have F146 := Lib.hid (F131.out.below hb136 (Nat.le_refl _))
 have B147 := Lib.hid (B132.out.trans (hb136.mono B132.out.size))
 clear hb136
 have M148 := Lib.hid (T138.out.mn LM.out)
 have M149 := Lib.hid (T139.out.mn LN.out)
 have C150 := Lib.hid (rsame12_any m n w135 F143.out F144.out QM.out.1 QM.out.2.2.2)
 rw [VS.out] at C150
 go_wp2_with (first | ((with_reducible refine wpList_load_at (o := ⟨some 55, .load 29 (.tmp 4), _, _, _, _⟩) ?e1 29 (.tmp 4) ?e2 ⟨(w.heap.size + 1), 0, none⟩ ?e3 _ M148.out ?_); (case e1 => rfl); (case e2 => rfl); (case e3 => rfl)) | ((with_reducible refine wpList_load_at (o := ⟨some 56, .load 29 (.tmp 5), _, _, _, _⟩) ?e1 29 (.tmp 5) ?e2 ⟨(w.heap.size + 1 + 1), 0, none⟩ ?e3 _ M149.out ?_); (case e1 => rfl); (case e2 => rfl); (case e3 => rfl)))
 refine C150.out.mono ?_
 rintro e w151 ⟨rfl, hb152⟩
 have T153 := Lib.hid (T137.out.below hb152 T137.out.lt)
 have T154 := Lib.hid (T138.out.below hb152 T138.out.lt)
 have T155 := Lib.hid (T139.out.below hb152 T139.out.lt)
 have T156 := Lib.hid (T140.out.below hb152 T140.out.lt)
 have T157 := Lib.hid (T141.out.below hb152 T141.out.lt)
 have F158 := Lib.hid (F142.out.below hb152 (Nat.le_refl _))
 have F159 := Lib.hid (F143.out.below hb152 (Nat.le_refl _))
 have F160 := Lib.hid (F144.out.below hb152 (Nat.le_refl _))
 have F161 := Lib.hid (F145.out.below hb152 (Nat.le_refl _))
 have F162 := Lib.hid (F146.out.below hb152 (Nat.le_refl _))
 have B163 := Lib.hid (B147.out.trans (hb152.mono B147.out.size))
 clear hb152
 have M164 := Lib.hid (T154.out.mn LM.out)
 have C165 := Lib.hid (pmay12_any m w151 F159.out)
 rw [VM.out] at C165
 go_wp2_with (first | ((with_reducible refine wpList_load_at (o := ⟨some 65, .load 29 (.tmp 4), _, _, _, _⟩) ?e1 29 (.tmp 4) ?e2 ⟨(w.heap.size + 1), 0, none⟩ ?e3 _ M164.out ?_); (case e1 => rfl); (case e2 => rfl); (case e3 => rfl)))
 refine C165.out.mono ?_
 rintro e w166 ⟨rfl, hb167⟩
 have T168 := Lib.hid (T153.out.below hb167 T153.out.lt)
 have T169 := Lib.hid (T154.out.below hb167 T154.out.lt)
 have T170 := Lib.hid (T155.out.below hb167 T155.out.lt)
 have T171 := Lib.hid (T156.out.below hb167 T156.out.lt)
 have T172 := Lib.hid (T157.out.below hb167 T157.out.lt)
 have F173 := Lib.hid (F158.out.below hb167 (Nat.le_refl _))
 have F174 := Lib.hid (F159.out.below hb167 (Nat.le_refl _))
 have F175 := Lib.hid (F160.out.below hb167 (Nat.le_refl _))
 have F176 := Lib.hid (F161.out.below hb167 (Nat.le_refl _))
 have F177 := Lib.hid (F162.out.below hb167 (Nat.le_refl _))
 have B178 := Lib.hid (B163.out.trans (hb167.mono B163.out.size))
 clear hb167
 have M179 := Lib.hid (T169.out.mn LM.out)
 have M180 := Lib.hid (T170.out.mn LN.out)
 have C181 := Lib.hid (psame12_any m n w166 F174.out F175.out QM.out.2.1)
 rw [VS.out] at C181
 go_wp2_with (first | ((with_reducible refine wpList_load_at (o := ⟨some 71, .load 29 (.tmp 4), _, _, _, _⟩) ?e1 29 (.tmp 4) ?e2 ⟨(w.heap.size + 1), 0, none⟩ ?e3 _ M179.out ?_); (case e1 => rfl); (case e2 => rfl); (case e3 => rfl)) | ((with_reducible refine wpList_load_at (o := ⟨some 72, .load 29 (.tmp 5), _, _, _, _⟩) ?e1 29 (.tmp 5) ?e2 ⟨(w.heap.size + 1 + 1), 0, none⟩ ?e3 _ M180.out ?_); (case e1 => rfl); (case e2 => rfl); (case e3 => rfl)))
 refine C181.out.mono ?_
 rintro e w182 ⟨rfl, hb183⟩
 have T184 := Lib.hid (T168.out.below hb183 T168.out.lt)
 have T185 := Lib.hid (T169.out.below hb183 T169.out.lt)
 have T186 := Lib.hid (T170.out.below hb183 T170.out.lt)
 have T187 := Lib.hid (T171.out.below hb183 T171.out.lt)
 have T188 := Lib.hid (T172.out.below hb183 T172.out.lt)
 have F189 := Lib.hid (F173.out.below hb183 (Nat.le_refl _))
 have F190 := Lib.hid (F174.out.below hb183 (Nat.le_refl _))
 have F191 := Lib.hid (F175.out.below hb183 (Nat.le_refl _))
 have F192 := Lib.hid (F176.out.below hb183 (Nat.le_refl _))
 have F193 := Lib.hid (F177.out.below hb183 (Nat.le_refl _))
 have B194 := Lib.hid (B178.out.trans (hb183.mono B178.out.size))
 clear hb183
 go_wp2
 go_ret
 exact ⟨rfl, B194.out⟩
theorem walk_manifestTells (b : Bk) (m n : MnA) (w : World) (hlaid : Laid w) (wb : BkAt w b) (wm : m.Ok w) (wn : n.Ok w) :
  Calls Tryz.prog 3 #[.agg #[.slice b.A b.xs.length b.c], m.v, n.v] w fun e w' => e = .returned (.bool true) ∧ Below w.heap.size w w' := by
 cases p : fewB b.rs
 ·exact mtells_b b m n w hlaid wb wm wn p
 ·cases q : mfew m.m
  ·exact mtells_m b m n w hlaid wb wm wn p q
  ·cases r : mfew n.m
   ·exact mtells_n b m n w hlaid wb wm wn p q r
   ·exact mtells_yes b m n w hlaid wb wm wn p q r
end
end Go.Proofs.YtbkopnpafmjicaaGreatDoor
