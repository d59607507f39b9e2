import Derived.Test.YtnlhkpmgbpfjmaaGreatDoorQa0
import Derived.Test.YtnlhkpmgbpfjmaaGreatDoorQa35
import Derived.Test.YtnlhkpmgbpfjmaaGreatDoorQa36
import Derived.Test.YtnlhkpmgbpfjmaaGreatDoorQa29
import Derived.Test.YtnlhkpmgbpfjmaaGreatDoorQa26
/-
  What the functions that a law of this layer reaches answer, part 38. Nothing that was there is written.
-/
namespace Go.Proofs.YtnlhkpmgbpfjmaaGreatDoor
set_option linter.unusedVariables false
set_option linter.unusedSimpArgs false
section
open Go.RowKit Go.Shelf WM
set_option maxRecDepth 100000
set_option maxHeartbeats 16000000 in
theorem abs_few (b : Bk) (c : Cel) (z : List Int) (no : Int) (w : World) (hlaid : Laid w) (wb : BkAt w b) (wz : z.length = 16 ∧ AllBytes z) (p : fewB b.rs = false) (v : Bool) (hv : (mofB b.rs).isSome = v) : Calls Tryz.prog 8 #[.agg #[.slice b.A b.xs.length b.c], .agg #[.int .i64 c.n, .int .i64 c.r, .string c.s], .agg (bvals z), .int .i64 no] w fun e w' => e = .returned (.bool true) ∧ Below w.heap.size w w' := by
 have HLA := Lib.hid (fun (X : World) (hX : Below w.heap.size w X) => hlaid.below hX (Nat.le_refl _))
 have Fb := Lib.hid wb
 have hzm := zeroMn
 rw [show mnA0.v = .agg mnA0.cs.toArray from rfl] at hzm
 have hzne : ¬ mnA0.cs.toArray = #[] := by decide
 have LZ := Lib.hid wz.1
 have HZ := Lib.hid wz
 have PB := Lib.hid p
 have HIS := Lib.hid hv
 clear hlaid wb wz p hv
 have B1 := Lib.hid (Below.refl w.heap.size w)
 have T2n := BoAt.new w (.slice b.A b.xs.length b.c)
 have T2 := Lib.hid T2n
 clear T2n
 have B3 := Lib.hid (B1.out.alloc B1.out.size (.cells #[(.slice b.A b.xs.length b.c)] 24))
 have T4 := Lib.hid (T2.out.old (.cells #[.int .i64 c.n, .int .i64 c.r, .string c.s] 38))
 have T5n := RowAt.new (w.alloc (.cells #[(.slice b.A b.xs.length b.c)] 24)) #[.int .i64 c.n, .int .i64 c.r, .string c.s] 38
 simp only [World.size_alloc] at T5n
 have T5 := Lib.hid T5n
 clear T5n
 have B6 := Lib.hid (B3.out.alloc B3.out.size (.cells #[.int .i64 c.n, .int .i64 c.r, .string c.s] 38))
 have T7 := Lib.hid (T4.out.old (.cells (bvals z) 31))
 have T8 := Lib.hid (T5.out.old (.cells (bvals z) 31))
 have T9n := RowAt.new ((w.alloc (.cells #[(.slice b.A b.xs.length b.c)] 24)).alloc (.cells #[.int .i64 c.n, .int .i64 c.r, .string c.s] 38)) (bvals z) 31
 simp only [World.size_alloc] at T9n
 have T9 := Lib.hid T9n
 clear T9n
 have B10 := Lib.hid (B6.out.alloc B6.out.size (.cells (bvals z) 31))
 have F11 := Lib.hid (Fb.out.below B10.out (Nat.le_refl _))
 go_enter Tryz.func8, Tryz.ntmps8
 have C12 := Lib.hid (abAwake (((w.alloc (.cells #[(.slice b.A b.xs.length b.c)] 24)).alloc (.cells #[.int .i64 c.n, .int .i64 c.r, .string c.s] 38)).alloc (.cells (bvals z) 31)) (HLA.out _ B10.out))
 go_wp2_with fail
 refine C12.out.mono ?_
 rintro e w13 ⟨rfl, hb14⟩
 have T15 := Lib.hid (T7.out.below hb14 T7.out.lt)
 have T16 := Lib.hid (T8.out.below hb14 T8.out.lt)
 have T17 := Lib.hid (T9.out.below hb14 T9.out.lt)
 have F18 := Lib.hid (F11.out.below hb14 (Nat.le_refl _))
 have B19 := Lib.hid (B10.out.trans (hb14.mono B10.out.size))
 clear hb14
 have M20 := Lib.hid (T15.out.load)
 have C21 := Lib.hid (fewB_any b w13 F18.out)
 rw [PB.out] at C21
 go_wp2_with (first | ((with_reducible refine wpList_load_by (o := ⟨some 19, .load 24 (.tmp 4), _, _, _, _⟩) ?e1 24 (.tmp 4) ?e2 ⟨w.heap.size, 0, none⟩ ?e3 _ M20.out ?_); (case e1 => rfl); (case e2 => rfl); (case e3 => rfl)))
 refine C21.out.mono ?_
 rintro e w22 ⟨rfl, hb23⟩
 have T24 := Lib.hid (T15.out.below hb23 T15.out.lt)
 have T25 := Lib.hid (T16.out.below hb23 T16.out.lt)
 have T26 := Lib.hid (T17.out.below hb23 T17.out.lt)
 have F27 := Lib.hid (F18.out.below hb23 (Nat.le_refl _))
 have B28 := Lib.hid (B19.out.trans (hb23.mono B19.out.size))
 clear hb23
 have M32 := Lib.hid (T24.out.load)
 have C33 := Lib.hid ((show Calls Tryz.prog 21 #[.agg #[.slice b.A b.xs.length b.c]] w22 (fun e w' => ∃ m : MnA, e = .returned (.tuple #[.agg m.cs.toArray, .bool v]) ∧ m.m = (mofB b.rs).getD mn0 ∧ m.Ok w' ∧ Below (w22).heap.size w22 w') from by have h := pof12_any b w22 (HLA.out _ B28.out) F27.out; unfold MofPost at h; rw [HIS.out] at h; exact h))
 go_wp2_with (first | ((with_reducible refine wpList_load_by (o := ⟨some 22, .load 24 (.tmp 4), _, _, _, _⟩) ?e1 24 (.tmp 4) ?e2 ⟨w.heap.size, 0, none⟩ ?e3 _ M32.out ?_); (case e1 => rfl); (case e2 => rfl); (case e3 => rfl)))
 refine C33.out.mono ?_
 rintro e w34 ⟨d29, rfl, hd30, hk31, hb35⟩
 have T36 := Lib.hid (T24.out.below hb35 T24.out.lt)
 have T37 := Lib.hid (T25.out.below hb35 T25.out.lt)
 have T38 := Lib.hid (T26.out.below hb35 T26.out.lt)
 have F39 := Lib.hid (F27.out.below hb35 (Nat.le_refl _))
 have B40 := Lib.hid (B28.out.trans (hb35.mono B28.out.size))
 clear hb35
 have E41 := Lib.hid (hd30)
 have F42 := Lib.hid (hk31)
 clear hd30 hk31
 have SZ42 := Lib.hid (mn_size F42.out)
 have SQ42 := Lib.hid (show mnA0.cs.toArray.size = d29.cs.toArray.size by rw [mnA0_size, List.size_toArray]; exact (MnA.len F42.out).symm)
 have SO42 := Lib.hid (mn_ones d29)
 have L44 := Lib.hid (MnA.len F42.out)
 have hb45 := (Below.refl w34.heap.size w34).alloc (Nat.le_refl _) (.cells d29.cs.toArray 29)
 have T46 := Lib.hid (RowAt.new w34 d29.cs.toArray 29)
 have T47 := Lib.hid (T36.out.below hb45 T36.out.lt)
 have T48 := Lib.hid (T37.out.below hb45 T37.out.lt)
 have T49 := Lib.hid (T38.out.below hb45 T38.out.lt)
 have F50 := Lib.hid (F39.out.below hb45 (Nat.le_refl _))
 have F51 := Lib.hid (F42.out.below hb45 (Nat.le_refl _))
 have B52 := Lib.hid (B40.out.trans (hb45.mono B40.out.size))
 clear hb45
 go_wp2_with (((with_reducible refine wpList_store_new (o := ⟨none, .store 29 (.tmp 11) (.tmp 24), _, _, _, _⟩) ?e1 29 (.tmp 11) (.tmp 24) ?e2 ?e3 mnA0.cs.toArray d29.cs.toArray ?e4 SZ42.out SQ42.out SO42.out ?_); (case e1 => rfl); (case e2 => rfl); (case e3 => (first | rfl | exact congrArg (fun q => Value.pointer (some ⟨q, 0, none⟩)) (World.size_alloc _ _).symm)); (case e4 => rfl)))
 go_ret
 exact ⟨rfl, B52.out⟩
set_option maxHeartbeats 16000000 in
theorem abs_may (b : Bk) (c : Cel) (z : List Int) (no : Int) (w : World) (hlaid : Laid w) (wb : BkAt w b) (wz : z.length = 16 ∧ AllBytes z) (p : fewB b.rs = true) (hv : (mofB b.rs).isSome = false) : Calls Tryz.prog 8 #[.agg #[.slice b.A b.xs.length b.c], .agg #[.int .i64 c.n, .int .i64 c.r, .string c.s], .agg (bvals z), .int .i64 no] w fun e w' => e = .returned (.bool true) ∧ Below w.heap.size w w' := by
 have HLA := Lib.hid (fun (X : World) (hX : Below w.heap.size w X) => hlaid.below hX (Nat.le_refl _))
 have Fb := Lib.hid wb
 have hzm := zeroMn
 rw [show mnA0.v = .agg mnA0.cs.toArray from rfl] at hzm
 have hzne : ¬ mnA0.cs.toArray = #[] := by decide
 have LZ := Lib.hid wz.1
 have HZ := Lib.hid wz
 have PB := Lib.hid p
 have HIS := Lib.hid hv
 clear hlaid wb wz p hv
 have B1 := Lib.hid (Below.refl w.heap.size w)
 have T2n := BoAt.new w (.slice b.A b.xs.length b.c)
 have T2 := Lib.hid T2n
 clear T2n
 have B3 := Lib.hid (B1.out.alloc B1.out.size (.cells #[(.slice b.A b.xs.length b.c)] 24))
 have T4 := Lib.hid (T2.out.old (.cells #[.int .i64 c.n, .int .i64 c.r, .string c.s] 38))
 have T5n := RowAt.new (w.alloc (.cells #[(.slice b.A b.xs.length b.c)] 24)) #[.int .i64 c.n, .int .i64 c.r, .string c.s] 38
 simp only [World.size_alloc] at T5n
 have T5 := Lib.hid T5n
 clear T5n
 have B6 := Lib.hid (B3.out.alloc B3.out.size (.cells #[.int .i64 c.n, .int .i64 c.r, .string c.s] 38))
 have T7 := Lib.hid (T4.out.old (.cells (bvals z) 31))
 have T8 := Lib.hid (T5.out.old (.cells (bvals z) 31))
 have T9n := RowAt.new ((w.alloc (.cells #[(.slice b.A b.xs.length b.c)] 24)).alloc (.cells #[.int .i64 c.n, .int .i64 c.r, .string c.s] 38)) (bvals z) 31
 simp only [World.size_alloc] at T9n
 have T9 := Lib.hid T9n
 clear T9n
 have B10 := Lib.hid (B6.out.alloc B6.out.size (.cells (bvals z) 31))
 have F11 := Lib.hid (Fb.out.below B10.out (Nat.le_refl _))
 go_enter Tryz.func8, Tryz.ntmps8
 have C12 := Lib.hid (abAwake (((w.alloc (.cells #[(.slice b.A b.xs.length b.c)] 24)).alloc (.cells #[.int .i64 c.n, .int .i64 c.r, .string c.s] 38)).alloc (.cells (bvals z) 31)) (HLA.out _ B10.out))
 go_wp2_with fail
 refine C12.out.mono ?_
 rintro e w13 ⟨rfl, hb14⟩
 have T15 := Lib.hid (T7.out.below hb14 T7.out.lt)
 have T16 := Lib.hid (T8.out.below hb14 T8.out.lt)
 have T17 := Lib.hid (T9.out.below hb14 T9.out.lt)
 have F18 := Lib.hid (F11.out.below hb14 (Nat.le_refl _))
 have B19 := Lib.hid (B10.out.trans (hb14.mono B10.out.size))
 clear hb14
 have M20 := Lib.hid (T15.out.load)
 have C21 := Lib.hid (fewB_any b w13 F18.out)
 rw [PB.out] at C21
 go_wp2_with (first | ((with_reducible refine wpList_load_by (o := ⟨some 19, .load 24 (.tmp 4), _, _, _, _⟩) ?e1 24 (.tmp 4) ?e2 ⟨w.heap.size, 0, none⟩ ?e3 _ M20.out ?_); (case e1 => rfl); (case e2 => rfl); (case e3 => rfl)))
 refine C21.out.mono ?_
 rintro e w22 ⟨rfl, hb23⟩
 have T24 := Lib.hid (T15.out.below hb23 T15.out.lt)
 have T25 := Lib.hid (T16.out.below hb23 T16.out.lt)
 have T26 := Lib.hid (T17.out.below hb23 T17.out.lt)
 have F27 := Lib.hid (F18.out.below hb23 (Nat.le_refl _))
 have B28 := Lib.hid (B19.out.trans (hb23.mono B19.out.size))
 clear hb23
 have M32 := Lib.hid (T24.out.load)
 have C33 := Lib.hid ((show Calls Tryz.prog 21 #[.agg #[.slice b.A b.xs.length b.c]] w22 (fun e w' => ∃ m : MnA, e = .returned (.tuple #[.agg m.cs.toArray, .bool false]) ∧ m.m = (mofB b.rs).getD mn0 ∧ m.Ok w' ∧ Below (w22).heap.size w22 w') from by have h := pof12_any b w22 (HLA.out _ B28.out) F27.out; unfold MofPost at h; rw [HIS.out] at h; exact h))
 go_wp2_with (first | ((with_reducible refine wpList_load_by (o := ⟨some 22, .load 24 (.tmp 4), _, _, _, _⟩) ?e1 24 (.tmp 4) ?e2 ⟨w.heap.size, 0, none⟩ ?e3 _ M32.out ?_); (case e1 => rfl); (case e2 => rfl); (case e3 => rfl)))
 refine C33.out.mono ?_
 rintro e w34 ⟨d29, rfl, hd30, hk31, hb35⟩
 have T36 := Lib.hid (T24.out.below hb35 T24.out.lt)
 have T37 := Lib.hid (T25.out.below hb35 T25.out.lt)
 have T38 := Lib.hid (T26.out.below hb35 T26.out.lt)
 have F39 := Lib.hid (F27.out.below hb35 (Nat.le_refl _))
 have B40 := Lib.hid (B28.out.trans (hb35.mono B28.out.size))
 clear hb35
 have E41 := Lib.hid (hd30)
 have F42 := Lib.hid (hk31)
 clear hd30 hk31
 have SZ42 := Lib.hid (mn_size F42.out)
 have SQ42 := Lib.hid (show mnA0.cs.toArray.size = d29.cs.toArray.size by rw [mnA0_size, List.size_toArray]; exact (MnA.len F42.out).symm)
 have SO42 := Lib.hid (mn_ones d29)
 have L44 := Lib.hid (MnA.len F42.out)
 have hb45 := (Below.refl w34.heap.size w34).alloc (Nat.le_refl _) (.cells d29.cs.toArray 29)
 have T46 := Lib.hid (RowAt.new w34 d29.cs.toArray 29)
 have T47 := Lib.hid (T36.out.below hb45 T36.out.lt)
 have T48 := Lib.hid (T37.out.below hb45 T37.out.lt)
 have T49 := Lib.hid (T38.out.below hb45 T38.out.lt)
 have F50 := Lib.hid (F39.out.below hb45 (Nat.le_refl _))
 have F51 := Lib.hid (F42.out.below hb45 (Nat.le_refl _))
 have B52 := Lib.hid (B40.out.trans (hb45.mono B40.out.size))
 clear hb45
 go_wp2_with (((with_reducible refine wpList_store_new (o := ⟨none, .store 29 (.tmp 11) (.tmp 24), _, _, _, _⟩) ?e1 29 (.tmp 11) (.tmp 24) ?e2 ?e3 mnA0.cs.toArray d29.cs.toArray ?e4 SZ42.out SQ42.out SO42.out ?_); (case e1 => rfl); (case e2 => rfl); (case e3 => (first | rfl | exact congrArg (fun q => Value.pointer (some ⟨q, 0, none⟩)) (World.size_alloc _ _).symm)); (case e4 => rfl)))
 go_ret
 exact ⟨rfl, B52.out⟩
set_option maxHeartbeats 16000000 in
theorem abs_long (b : Bk) (c : Cel) (z : List Int) (no : Int) (w : World) (hlaid : Laid w) (wb : BkAt w b) (wz : z.length = 16 ∧ AllBytes z) (p : fewB b.rs = true) (hv : (mofB b.rs).isSome = true) (h3 : (300 : Int) < (c.s.size : Int)) : Calls Tryz.prog 8 #[.agg #[.slice b.A b.xs.length b.c], .agg #[.int .i64 c.n, .int .i64 c.r, .string c.s], .agg (bvals z), .int .i64 no] w fun e w' => e = .returned (.bool true) ∧ Below w.heap.size w w' := by
 have HLA := Lib.hid (fun (X : World) (hX : Below w.heap.size w X) => hlaid.below hX (Nat.le_refl _))
 have Fb := Lib.hid wb
 have hzm := zeroMn
 rw [show mnA0.v = .agg mnA0.cs.toArray from rfl] at hzm
 have hzne : ¬ mnA0.cs.toArray = #[] := by decide
 have LZ := Lib.hid wz.1
 have HZ := Lib.hid wz
 have PB := Lib.hid p
 have HIS := Lib.hid hv
 clear hlaid wb wz p hv
 have B1 := Lib.hid (Below.refl w.heap.size w)
 have T2n := BoAt.new w (.slice b.A b.xs.length b.c)
 have T2 := Lib.hid T2n
 clear T2n
 have B3 := Lib.hid (B1.out.alloc B1.out.size (.cells #[(.slice b.A b.xs.length b.c)] 24))
 have T4 := Lib.hid (T2.out.old (.cells #[.int .i64 c.n, .int .i64 c.r, .string c.s] 38))
 have T5n := RowAt.new (w.alloc (.cells #[(.slice b.A b.xs.length b.c)] 24)) #[.int .i64 c.n, .int .i64 c.r, .string c.s] 38
 simp only [World.size_alloc] at T5n
 have T5 := Lib.hid T5n
 clear T5n
 have B6 := Lib.hid (B3.out.alloc B3.out.size (.cells #[.int .i64 c.n, .int .i64 c.r, .string c.s] 38))
 have T7 := Lib.hid (T4.out.old (.cells (bvals z) 31))
 have T8 := Lib.hid (T5.out.old (.cells (bvals z) 31))
 have T9n := RowAt.new ((w.alloc (.cells #[(.slice b.A b.xs.length b.c)] 24)).alloc (.cells #[.int .i64 c.n, .int .i64 c.r, .string c.s] 38)) (bvals z) 31
 simp only [World.size_alloc] at T9n
 have T9 := Lib.hid T9n
 clear T9n
 have B10 := Lib.hid (B6.out.alloc B6.out.size (.cells (bvals z) 31))
 have F11 := Lib.hid (Fb.out.below B10.out (Nat.le_refl _))
 go_enter Tryz.func8, Tryz.ntmps8
 have C12 := Lib.hid (abAwake (((w.alloc (.cells #[(.slice b.A b.xs.length b.c)] 24)).alloc (.cells #[.int .i64 c.n, .int .i64 c.r, .string c.s] 38)).alloc (.cells (bvals z) 31)) (HLA.out _ B10.out))
 go_wp2_with fail
 refine C12.out.mono ?_
 rintro e w13 ⟨rfl, hb14⟩
 have T15 := Lib.hid (T7.out.below hb14 T7.out.lt)
 have T16 := Lib.hid (T8.out.below hb14 T8.out.lt)
 have T17 := Lib.hid (T9.out.below hb14 T9.out.lt)
 have F18 := Lib.hid (F11.out.below hb14 (Nat.le_refl _))
 have B19 := Lib.hid (B10.out.trans (hb14.mono B10.out.size))
 clear hb14
 have M20 := Lib.hid (T15.out.load)
 have C21 := Lib.hid (fewB_any b w13 F18.out)
 rw [PB.out] at C21
 go_wp2_with (first | ((with_reducible refine wpList_load_by (o := ⟨some 19, .load 24 (.tmp 4), _, _, _, _⟩) ?e1 24 (.tmp 4) ?e2 ⟨w.heap.size, 0, none⟩ ?e3 _ M20.out ?_); (case e1 => rfl); (case e2 => rfl); (case e3 => rfl)))
 refine C21.out.mono ?_
 rintro e w22 ⟨rfl, hb23⟩
 have T24 := Lib.hid (T15.out.below hb23 T15.out.lt)
 have T25 := Lib.hid (T16.out.below hb23 T16.out.lt)
 have T26 := Lib.hid (T17.out.below hb23 T17.out.lt)
 have F27 := Lib.hid (F18.out.below hb23 (Nat.le_refl _))
 have B28 := Lib.hid (B19.out.trans (hb23.mono B19.out.size))
 clear hb23
 have M32 := Lib.hid (T24.out.load)
 have C33 := Lib.hid ((show Calls Tryz.prog 21 #[.agg #[.slice b.A b.xs.length b.c]] w22 (fun e w' => ∃ m : MnA, e = .returned (.tuple #[.agg m.cs.toArray, .bool true]) ∧ m.m = (mofB b.rs).getD mn0 ∧ m.Ok w' ∧ Below (w22).heap.size w22 w') from by have h := pof12_any b w22 (HLA.out _ B28.out) F27.out; unfold MofPost at h; rw [HIS.out] at h; exact h))
 go_wp2_with (first | ((with_reducible refine wpList_load_by (o := ⟨some 22, .load 24 (.tmp 4), _, _, _, _⟩) ?e1 24 (.tmp 4) ?e2 ⟨w.heap.size, 0, none⟩ ?e3 _ M32.out ?_); (case e1 => rfl); (case e2 => rfl); (case e3 => rfl)))
 refine C33.out.mono ?_
 rintro e w34 ⟨d29, rfl, hd30, hk31, hb35⟩
 have T36 := Lib.hid (T24.out.below hb35 T24.out.lt)
 have T37 := Lib.hid (T25.out.below hb35 T25.out.lt)
 have T38 := Lib.hid (T26.out.below hb35 T26.out.lt)
 have F39 := Lib.hid (F27.out.below hb35 (Nat.le_refl _))
 have B40 := Lib.hid (B28.out.trans (hb35.mono B28.out.size))
 clear hb35
 have E41 := Lib.hid (hd30)
 have F42 := Lib.hid (hk31)
 clear hd30 hk31
 have SZ42 := Lib.hid (mn_size F42.out)
 have SQ42 := Lib.hid (show mnA0.cs.toArray.size = d29.cs.toArray.size by rw [mnA0_size, List.size_toArray]; exact (MnA.len F42.out).symm)
 have SO42 := Lib.hid (mn_ones d29)
 have L44 := Lib.hid (MnA.len F42.out)
 have hb45 := (Below.refl w34.heap.size w34).alloc (Nat.le_refl _) (.cells d29.cs.toArray 29)
 have T46 := Lib.hid (RowAt.new w34 d29.cs.toArray 29)
 have T47 := Lib.hid (T36.out.below hb45 T36.out.lt)
 have T48 := Lib.hid (T37.out.below hb45 T37.out.lt)
 have T49 := Lib.hid (T38.out.below hb45 T38.out.lt)
 have F50 := Lib.hid (F39.out.below hb45 (Nat.le_refl _))
 have F51 := Lib.hid (F42.out.below hb45 (Nat.le_refl _))
 have B52 := Lib.hid (B40.out.trans (hb45.mono B40.out.size))
 clear hb45
 have cb2 := ClAt.c2 (show ClAt (w34.alloc (.cells d29.cs.toArray 29)) (w.heap.size + 1) c from T48.out)
 go_wp2_with (((with_reducible refine wpList_store_new (o := ⟨none, .store 29 (.tmp 11) (.tmp 24), _, _, _, _⟩) ?e1 29 (.tmp 11) (.tmp 24) ?e2 ?e3 mnA0.cs.toArray d29.cs.toArray ?e4 SZ42.out SQ42.out SO42.out ?_); (case e1 => rfl); (case e2 => rfl); (case e3 => (first | rfl | exact congrArg (fun q => Value.pointer (some ⟨q, 0, none⟩)) (World.size_alloc _ _).symm)); (case e4 => rfl)))
 go_ret
 exact ⟨rfl, B52.out⟩
set_option maxHeartbeats 16000000 in
theorem abs_A (b : Bk) (c : Cel) (z : List Int) (no : Int) (w : World) (hlaid : Laid w) (wb : BkAt w b) (wz : z.length = 16 ∧ AllBytes z) (p : fewB b.rs = true) (q : bmay b.rs = true) (h3 : c.s.size ≤ 300) (MB : Mn) (hMB : mof SH.sum (SH.sum (bbs b.rs)) b.rs = MB) (dn dr : Int) (hs : Bool) (ee : En) (hK : ∀ m : MnA, m.m = MB → ((lineA m.ls z).getD lnA0).x.n = dn ∧ ((lineA m.ls z).getD lnA0).x.r = dr ∧ (findA m.ls z no).isSome = hs ∧ ((findA m.ls z no).getD enA0).e = ee) (hV : exc c MB z no = false) (h1 : stLess dn dr c.n c.r = false) : Calls Tryz.prog 8 #[.agg #[.slice b.A b.xs.length b.c], .agg #[.int .i64 c.n, .int .i64 c.r, .string c.s], .agg (bvals z), .int .i64 no] w fun e w' => e = .returned (.bool true) ∧ Below w.heap.size w w' := by
 have HLA := Lib.hid (fun (X : World) (hX : Below w.heap.size w X) => hlaid.below hX (Nat.le_refl _))
 have Fb := Lib.hid wb
 have hzm := zeroMn
 rw [show mnA0.v = .agg mnA0.cs.toArray from rfl] at hzm
 have hzne : ¬ mnA0.cs.toArray = #[] := by decide
 have LZ := Lib.hid wz.1
 have HZ := Lib.hid wz
 have hze := zeroEn
 rw [show KEn.v enA0 = .agg (KEn.cs enA0).toArray from rfl] at hze
 have hzl := zeroLn
 rw [show KLn.v lnA0 = .agg (KLn.cs lnA0).toArray from rfl] at hzl
 have hzne1 : ¬ (KEn.cs enA0).toArray = #[] := by decide
 have hzne2 : ¬ (KLn.cs lnA0).toArray = #[] := by decide
 have hmofB : mofB b.rs = some MB := by rw [← hMB]; exact if_pos q
 have HIS := Lib.hid hmofB
 have HBDX := Lib.hid (fun (q9 : MnA) (h : q9.m = MB) => mmay_bd (m := q9) (by rw [h, ← hMB]; exact mof_may _ _ _ q))
 have HK := Lib.hid hK
 have HV := Lib.hid hV
 have HS3 := Lib.hid h3
 have H1 := Lib.hid h1
 have PB := Lib.hid p
 have hq3 : ¬ (300 : Int) < (c.s.size : Int) := by omega
 clear hlaid wb wz p q hMB hmofB hK hV h3 h1
 have B1 := Lib.hid (Below.refl w.heap.size w)
 have T2n := BoAt.new w (.slice b.A b.xs.length b.c)
 have T2 := Lib.hid T2n
 clear T2n
 have B3 := Lib.hid (B1.out.alloc B1.out.size (.cells #[(.slice b.A b.xs.length b.c)] 24))
 have T4 := Lib.hid (T2.out.old (.cells #[.int .i64 c.n, .int .i64 c.r, .string c.s] 38))
 have T5n := RowAt.new (w.alloc (.cells #[(.slice b.A b.xs.length b.c)] 24)) #[.int .i64 c.n, .int .i64 c.r, .string c.s] 38
 simp only [World.size_alloc] at T5n
 have T5 := Lib.hid T5n
 clear T5n
 have B6 := Lib.hid (B3.out.alloc B3.out.size (.cells #[.int .i64 c.n, .int .i64 c.r, .string c.s] 38))
 have T7 := Lib.hid (T4.out.old (.cells (bvals z) 31))
 have T8 := Lib.hid (T5.out.old (.cells (bvals z) 31))
 have T9n := RowAt.new ((w.alloc (.cells #[(.slice b.A b.xs.length b.c)] 24)).alloc (.cells #[.int .i64 c.n, .int .i64 c.r, .string c.s] 38)) (bvals z) 31
 simp only [World.size_alloc] at T9n
 have T9 := Lib.hid T9n
 clear T9n
 have B10 := Lib.hid (B6.out.alloc B6.out.size (.cells (bvals z) 31))
 have F11 := Lib.hid (Fb.out.below B10.out (Nat.le_refl _))
 go_enter Tryz.func8, Tryz.ntmps8
 have C12 := Lib.hid (abAwake (((w.alloc (.cells #[(.slice b.A b.xs.length b.c)] 24)).alloc (.cells #[.int .i64 c.n, .int .i64 c.r, .string c.s] 38)).alloc (.cells (bvals z) 31)) (HLA.out _ B10.out))
 go_wp2_with fail
 refine C12.out.mono ?_
 rintro e w13 ⟨rfl, hb14⟩
 have T15 := Lib.hid (T7.out.below hb14 T7.out.lt)
 have T16 := Lib.hid (T8.out.below hb14 T8.out.lt)
 have T17 := Lib.hid (T9.out.below hb14 T9.out.lt)
 have F18 := Lib.hid (F11.out.below hb14 (Nat.le_refl _))
 have B19 := Lib.hid (B10.out.trans (hb14.mono B10.out.size))
 clear hb14
 have M20 := Lib.hid (T15.out.load)
 have C21 := Lib.hid (fewB_any b w13 F18.out)
 rw [PB.out] at C21
 go_wp2_with (first | ((with_reducible refine wpList_load_by (o := ⟨some 19, .load 24 (.tmp 4), _, _, _, _⟩) ?e1 24 (.tmp 4) ?e2 ⟨w.heap.size, 0, none⟩ ?e3 _ M20.out ?_); (case e1 => rfl); (case e2 => rfl); (case e3 => rfl)))
 refine C21.out.mono ?_
 rintro e w22 ⟨rfl, hb23⟩
 have T24 := Lib.hid (T15.out.below hb23 T15.out.lt)
 have T25 := Lib.hid (T16.out.below hb23 T16.out.lt)
 have T26 := Lib.hid (T17.out.below hb23 T17.out.lt)
 have F27 := Lib.hid (F18.out.below hb23 (Nat.le_refl _))
 have B28 := Lib.hid (B19.out.trans (hb23.mono B19.out.size))
 clear hb23
 have M32 := Lib.hid (T24.out.load)
 have C33 := Lib.hid ((show Calls Tryz.prog 21 #[.agg #[.slice b.A b.xs.length b.c]] w22 (fun e w' => ∃ m : MnA, e = .returned (.tuple #[.agg m.cs.toArray, .bool true]) ∧ m.m = MB ∧ m.Ok w' ∧ Below (w22).heap.size w22 w') from by have h := pof12_any b w22 (HLA.out _ B28.out) F27.out; unfold MofPost at h; rw [HIS.out] at h; exact h))
 go_wp2_with (first | ((with_reducible refine wpList_load_by (o := ⟨some 22, .load 24 (.tmp 4), _, _, _, _⟩) ?e1 24 (.tmp 4) ?e2 ⟨w.heap.size, 0, none⟩ ?e3 _ M32.out ?_); (case e1 => rfl); (case e2 => rfl); (case e3 => rfl)))
 refine C33.out.mono ?_
 rintro e w34 ⟨d29, rfl, hd30, hk31, hb35⟩
 have T36 := Lib.hid (T24.out.below hb35 T24.out.lt)
 have T37 := Lib.hid (T25.out.below hb35 T25.out.lt)
 have T38 := Lib.hid (T26.out.below hb35 T26.out.lt)
 have F39 := Lib.hid (F27.out.below hb35 (Nat.le_refl _))
 have B40 := Lib.hid (B28.out.trans (hb35.mono B28.out.size))
 clear hb35
 have E41 := Lib.hid (hd30)
 have F42 := Lib.hid (hk31)
 clear hd30 hk31
 have SZ42 := Lib.hid (mn_size F42.out)
 have SQ42 := Lib.hid (show mnA0.cs.toArray.size = d29.cs.toArray.size by rw [mnA0_size, List.size_toArray]; exact (MnA.len F42.out).symm)
 have SO42 := Lib.hid (mn_ones d29)
 have L44 := Lib.hid (MnA.len F42.out)
 have hb45 := (Below.refl w34.heap.size w34).alloc (Nat.le_refl _) (.cells d29.cs.toArray 29)
 have T46 := Lib.hid (RowAt.new w34 d29.cs.toArray 29)
 have T47 := Lib.hid (T36.out.below hb45 T36.out.lt)
 have T48 := Lib.hid (T37.out.below hb45 T37.out.lt)
 have T49 := Lib.hid (T38.out.below hb45 T38.out.lt)
 have F50 := Lib.hid (F39.out.below hb45 (Nat.le_refl _))
 have F51 := Lib.hid (F42.out.below hb45 (Nat.le_refl _))
 have B52 := Lib.hid (B40.out.trans (hb45.mono B40.out.size))
 clear hb45
 have cb2 := ClAt.c2 (show ClAt (w34.alloc (.cells d29.cs.toArray 29)) (w.heap.size + 1) c from T48.out)
 have HBD := Lib.hid (HBDX.out d29 E41.out)
 obtain ⟨hk1, hk2, hk3, hk4⟩ := HK.out d29 E41.out
 have K1 := Lib.hid hk1
 have K2 := Lib.hid hk2
 have K3 := Lib.hid hk3
 have K4 := Lib.hid hk4
 clear hk1 hk2 hk3 hk4
 obtain ⟨sm, hsm⟩ : ∃ v, (lineA d29.ls z).isSome = v := ⟨_, rfl⟩
 have HSM := Lib.hid hsm
 clear hsm
 have M56 := Lib.hid (T46.out.mn L44.out)
 have M57 := Lib.hid (T49.out.id LZ.out)
 have C58 := Lib.hid ((show Calls Tryz.prog 29 #[.agg d29.cs.toArray, .agg (bvals z)] (w34.alloc (.cells d29.cs.toArray 29)) (LineN (w34.alloc (.cells d29.cs.toArray 29)) (lineA d29.ls z)) from pline12_any d29 z (w34.alloc (.cells d29.cs.toArray 29)) F51.out HZ.out HBD.out))
 unfold LineN at C58
 rw [HSM.out] at C58
 go_wp2_with (first | ((with_reducible refine wpList_load_at (o := ⟨some 44, .load 29 (.tmp 11), _, _, _, _⟩) ?e1 29 (.tmp 11) ?e2 ⟨w34.heap.size, 0, none⟩ ?e3 _ M56.out ?_); (case e1 => rfl); (case e2 => rfl); (case e3 => rfl)) | ((with_reducible refine wpList_load_at (o := ⟨some 45, .load 31 (.tmp 6), _, _, _, _⟩) ?e1 31 (.tmp 6) ?e2 ⟨(w.heap.size + 1 + 1), 0, none⟩ ?e3 _ M57.out ?_); (case e1 => rfl); (case e2 => rfl); (case e3 => rfl)) | ((with_reducible refine wpList_store_new (o := ⟨none, .store 29 (.tmp 11) (.tmp 24), _, _, _, _⟩) ?e1 29 (.tmp 11) (.tmp 24) ?e2 ?e3 mnA0.cs.toArray d29.cs.toArray ?e4 SZ42.out SQ42.out SO42.out ?_); (case e1 => rfl); (case e2 => rfl); (case e3 => (first | rfl | exact congrArg (fun q => Value.pointer (some ⟨q, 0, none⟩)) (World.size_alloc _ _).symm)); (case e4 => rfl)))
 refine C58.out.mono ?_
 rintro e w59 ⟨d53, rfl, hd54, hk55, hb60⟩
 have T61 := Lib.hid (T47.out.below hb60 T47.out.lt)
 have T62 := Lib.hid (T48.out.below hb60 T48.out.lt)
 have T63 := Lib.hid (T49.out.below hb60 T49.out.lt)
 have T64 := Lib.hid (T46.out.below hb60 T46.out.lt)
 have F65 := Lib.hid (F50.out.below hb60 (Nat.le_refl _))
 have F66 := Lib.hid (F51.out.below hb60 (Nat.le_refl _))
 have B67 := Lib.hid (B52.out.trans (hb60.mono B52.out.size))
 clear hb60
 have E68 := Lib.hid (hd54)
 have F69 := Lib.hid (hk55)
 clear hd54 hk55
 clear cb2
 have SZ69 := Lib.hid (ln_size F69.out)
 have SQ69 := Lib.hid (show (KLn.cs lnA0).toArray.size = (KLn.cs d53).toArray.size by rw [lnA0_size, List.size_toArray]; exact (LnA.len F69.out).symm)
 have SO69 := Lib.hid (ln_ones d53)
 have L71 := Lib.hid (LnA.len F69.out)
 have hb72 := (Below.refl w59.heap.size w59).alloc (Nat.le_refl _) (.cells (KLn.cs d53).toArray 63)
 have T73 := Lib.hid (RowAt.new w59 (KLn.cs d53).toArray 63)
 have T74 := Lib.hid (T61.out.below hb72 T61.out.lt)
 have T75 := Lib.hid (T62.out.below hb72 T62.out.lt)
 have T76 := Lib.hid (T63.out.below hb72 T63.out.lt)
 have T77 := Lib.hid (T64.out.below hb72 T64.out.lt)
 have F78 := Lib.hid (F65.out.below hb72 (Nat.le_refl _))
 have F79 := Lib.hid (F66.out.below hb72 (Nat.le_refl _))
 have F80 := Lib.hid (F69.out.below hb72 (Nat.le_refl _))
 have B81 := Lib.hid (B67.out.trans (hb72.mono B67.out.size))
 clear hb72
 have M85 := Lib.hid (T77.out.mn L44.out)
 have M86 := Lib.hid (T76.out.id LZ.out)
 have C87 := Lib.hid ((show Calls Tryz.prog 30 #[.agg d29.cs.toArray, .agg (bvals z), .int .i64 no] (w59.alloc (.cells (KLn.cs d53).toArray 63)) (FindN (w59.alloc (.cells (KLn.cs d53).toArray 63)) (findA d29.ls z no)) from pfind12_any d29 z no (w59.alloc (.cells (KLn.cs d53).toArray 63)) F79.out HZ.out HBD.out))
 unfold FindN at C87
 rw [K3.out] at C87
 go_wp2_with (first | ((with_reducible refine wpList_load_at (o := ⟨some 50, .load 29 (.tmp 11), _, _, _, _⟩) ?e1 29 (.tmp 11) ?e2 ⟨w34.heap.size, 0, none⟩ ?e3 _ M85.out ?_); (case e1 => rfl); (case e2 => rfl); (case e3 => rfl)) | ((with_reducible refine wpList_load_at (o := ⟨some 51, .load 31 (.tmp 6), _, _, _, _⟩) ?e1 31 (.tmp 6) ?e2 ⟨(w.heap.size + 1 + 1), 0, none⟩ ?e3 _ M86.out ?_); (case e1 => rfl); (case e2 => rfl); (case e3 => rfl)) | ((with_reducible refine wpList_store_new (o := ⟨none, .store 63 (.tmp 13) (.tmp 47), _, _, _, _⟩) ?e1 63 (.tmp 13) (.tmp 47) ?e2 ?e3 (KLn.cs lnA0).toArray (KLn.cs d53).toArray ?e4 SZ69.out SQ69.out SO69.out ?_); (case e1 => rfl); (case e2 => rfl); (case e3 => (first | rfl | exact congrArg (fun q => Value.pointer (some ⟨q, 0, none⟩)) (World.size_alloc _ _).symm)); (case e4 => rfl)))
 refine C87.out.mono ?_
 rintro e w88 ⟨d82, rfl, hd83, hk84, hb89⟩
 have T90 := Lib.hid (T74.out.below hb89 T74.out.lt)
 have T91 := Lib.hid (T75.out.below hb89 T75.out.lt)
 have T92 := Lib.hid (T76.out.below hb89 T76.out.lt)
 have T93 := Lib.hid (T77.out.below hb89 T77.out.lt)
 have T94 := Lib.hid (T73.out.below hb89 T73.out.lt)
 have F95 := Lib.hid (F78.out.below hb89 (Nat.le_refl _))
 have F96 := Lib.hid (F79.out.below hb89 (Nat.le_refl _))
 have F97 := Lib.hid (F80.out.below hb89 (Nat.le_refl _))
 have B98 := Lib.hid (B81.out.trans (hb89.mono B81.out.size))
 clear hb89
 have E99 := Lib.hid (hd83)
 have F100 := Lib.hid (hk84)
 clear hd83 hk84
 have SZ100 := Lib.hid (en_size F100.out)
 have SQ100 := Lib.hid (show (KEn.cs enA0).toArray.size = (KEn.cs d82).toArray.size by rw [enA0_size, List.size_toArray]; exact (EnA.len F100.out).symm)
 have SO100 := Lib.hid (en_ones d82)
 have L102 := Lib.hid (EnA.len F100.out)
 have hb103 := (Below.refl w88.heap.size w88).alloc (Nat.le_refl _) (.cells (KEn.cs d82).toArray 68)
 have T104 := Lib.hid (RowAt.new w88 (KEn.cs d82).toArray 68)
 have T105 := Lib.hid (T90.out.below hb103 T90.out.lt)
 have T106 := Lib.hid (T91.out.below hb103 T91.out.lt)
 have T107 := Lib.hid (T92.out.below hb103 T92.out.lt)
 have T108 := Lib.hid (T93.out.below hb103 T93.out.lt)
 have T109 := Lib.hid (T94.out.below hb103 T94.out.lt)
 have F110 := Lib.hid (F95.out.below hb103 (Nat.le_refl _))
 have F111 := Lib.hid (F96.out.below hb103 (Nat.le_refl _))
 have F112 := Lib.hid (F97.out.below hb103 (Nat.le_refl _))
 have F113 := Lib.hid (F100.out.below hb103 (Nat.le_refl _))
 have B114 := Lib.hid (B98.out.trans (hb103.mono B98.out.size))
 clear hb103
 have GN := Lib.hid (show d53.n = dn from (congrArg Ln.n E68.out).trans K1.out)
 have GR := Lib.hid (show d53.r = dr from (congrArg Ln.r E68.out).trans K2.out)
 have EE := Lib.hid (E99.out.trans K4.out)
 have MC := Lib.hid (load_cl (show ClAt (w88.alloc (.cells (KEn.cs d82).toArray 68)) (w.heap.size + 1) c from T106.out))
 unfold Cel.v at MC
 have M115 := Lib.hid (T108.out.mn L44.out)
 have M116 := Lib.hid (T107.out.id LZ.out)
 have C117 := Lib.hid ((show Calls Tryz.prog 20 #[.agg #[.int .i64 c.n, .int .i64 c.r, .string c.s], .agg d29.cs.toArray, .agg (bvals z), .int .i64 no] (w88.alloc (.cells (KEn.cs d82).toArray 68)) (fun e w' => e = .returned (.bool false) ∧ Below ((w88.alloc (.cells (KEn.cs d82).toArray 68))).heap.size (w88.alloc (.cells (KEn.cs d82).toArray 68)) w') from by have h := pexc14_any c d29 z no (w88.alloc (.cells (KEn.cs d82).toArray 68)) (HLA.out _ B114.out) F111.out HZ.out (by have := HS3.out; omega) HBD.out; rw [E41.out, HV.out] at h; exact h))
 go_wp2_with (first | ((with_reducible refine wpList_load_at (o := ⟨some 57, .load 29 (.tmp 11), _, _, _, _⟩) ?e1 29 (.tmp 11) ?e2 ⟨w34.heap.size, 0, none⟩ ?e3 _ M115.out ?_); (case e1 => rfl); (case e2 => rfl); (case e3 => rfl)) | ((with_reducible refine wpList_load_at (o := ⟨some 58, .load 31 (.tmp 6), _, _, _, _⟩) ?e1 31 (.tmp 6) ?e2 ⟨(w.heap.size + 1 + 1), 0, none⟩ ?e3 _ M116.out ?_); (case e1 => rfl); (case e2 => rfl); (case e3 => rfl)) | ((with_reducible refine wpList_store_new (o := ⟨none, .store 68 (.tmp 15) (.tmp 54), _, _, _, _⟩) ?e1 68 (.tmp 15) (.tmp 54) ?e2 ?e3 (KEn.cs enA0).toArray (KEn.cs d82).toArray ?e4 SZ100.out SQ100.out SO100.out ?_); (case e1 => rfl); (case e2 => rfl); (case e3 => (first | rfl | exact congrArg (fun q => Value.pointer (some ⟨q, 0, none⟩)) (World.size_alloc _ _).symm)); (case e4 => rfl)) | ((with_reducible refine wpList_load_at (o := ⟨some 56, .load 38 (.tmp 5), _, _, _, _⟩) ?e1 38 (.tmp 5) ?e2 ⟨(w.heap.size + 1), 0, none⟩ ?e3 _ MC.out ?_); (case e1 => rfl); (case e2 => rfl); (case e3 => rfl)))
 refine C117.out.mono ?_
 rintro e w118 ⟨rfl, hb119⟩
 have T120 := Lib.hid (T105.out.below hb119 T105.out.lt)
 have T121 := Lib.hid (T106.out.below hb119 T106.out.lt)
 have T122 := Lib.hid (T107.out.below hb119 T107.out.lt)
 have T123 := Lib.hid (T108.out.below hb119 T108.out.lt)
 have T124 := Lib.hid (T109.out.below hb119 T109.out.lt)
 have T125 := Lib.hid (T104.out.below hb119 T104.out.lt)
 have F126 := Lib.hid (F110.out.below hb119 (Nat.le_refl _))
 have F127 := Lib.hid (F111.out.below hb119 (Nat.le_refl _))
 have F128 := Lib.hid (F112.out.below hb119 (Nat.le_refl _))
 have F129 := Lib.hid (F113.out.below hb119 (Nat.le_refl _))
 have B130 := Lib.hid (B114.out.trans (hb119.mono B114.out.size))
 clear hb119
 have ca16 := ln_c16 (Kind.at_blk (K := KLn) (x := d53) T124.out) F128.out.1
 rw [Nat.zero_add, GN.out] at ca16
 have ca17 := ln_c17 (Kind.at_blk (K := KLn) (x := d53) T124.out) F128.out.1
 rw [Nat.zero_add, GR.out] at ca17
 have cb0 := ClAt.c0 (show ClAt w118 (w.heap.size + 1) c from T121.out)
 have cb1 := ClAt.c1 (show ClAt w118 (w.heap.size + 1) c from T121.out)
 have C131 := Lib.hid (stLess_any dn dr c.n c.r w118)
 unfold st at C131
 rw [H1.out] at C131
 go_wp2_with fail
 refine C131.out.mono ?_
 rintro e w132 ⟨rfl, hb133⟩
 have T134 := Lib.hid (T120.out.below hb133 T120.out.lt)
 have T135 := Lib.hid (T121.out.below hb133 T121.out.lt)
 have T136 := Lib.hid (T122.out.below hb133 T122.out.lt)
 have T137 := Lib.hid (T123.out.below hb133 T123.out.lt)
 have T138 := Lib.hid (T124.out.below hb133 T124.out.lt)
 have T139 := Lib.hid (T125.out.below hb133 T125.out.lt)
 have F140 := Lib.hid (F126.out.below hb133 (Nat.le_refl _))
 have F141 := Lib.hid (F127.out.below hb133 (Nat.le_refl _))
 have F142 := Lib.hid (F128.out.below hb133 (Nat.le_refl _))
 have F143 := Lib.hid (F129.out.below hb133 (Nat.le_refl _))
 have B144 := Lib.hid (B130.out.trans (hb133.mono B130.out.size))
 clear hb133
 clear ca16 ca17 cb0 cb1
 go_wp2
 go_ret
 exact ⟨rfl, B144.out⟩
set_option maxHeartbeats 16000000 in
theorem abs_B (b : Bk) (c : Cel) (z : List Int) (no : Int) (w : World) (hlaid : Laid w) (wb : BkAt w b) (wz : z.length = 16 ∧ AllBytes z) (p : fewB b.rs = true) (q : bmay b.rs = true) (h3 : c.s.size ≤ 300) (MB : Mn) (hMB : mof SH.sum (SH.sum (bbs b.rs)) b.rs = MB) (dn dr : Int) (ee : En) (hK : ∀ m : MnA, m.m = MB → ((lineA m.ls z).getD lnA0).x.n = dn ∧ ((lineA m.ls z).getD lnA0).x.r = dr ∧ (findA m.ls z no).isSome = false ∧ ((findA m.ls z no).getD enA0).e = ee) (hV : exc c MB z no = true) (h1 : stLess dn dr c.n c.r = true) : Calls Tryz.prog 8 #[.agg #[.slice b.A b.xs.length b.c], .agg #[.int .i64 c.n, .int .i64 c.r, .string c.s], .agg (bvals z), .int .i64 no] w fun e w' => e = .returned (.bool true) ∧ Below w.heap.size w w' := by
 have HLA := Lib.hid (fun (X : World) (hX : Below w.heap.size w X) => hlaid.below hX (Nat.le_refl _))
 have Fb := Lib.hid wb
 have hzm := zeroMn
 rw [show mnA0.v = .agg mnA0.cs.toArray from rfl] at hzm
 have hzne : ¬ mnA0.cs.toArray = #[] := by decide
 have LZ := Lib.hid wz.1
 have HZ := Lib.hid wz
 have hze := zeroEn
 rw [show KEn.v enA0 = .agg (KEn.cs enA0).toArray from rfl] at hze
 have hzl := zeroLn
 rw [show KLn.v lnA0 = .agg (KLn.cs lnA0).toArray from rfl] at hzl
 have hzne1 : ¬ (KEn.cs enA0).toArray = #[] := by decide
 have hzne2 : ¬ (KLn.cs lnA0).toArray = #[] := by decide
 have hmofB : mofB b.rs = some MB := by rw [← hMB]; exact if_pos q
 have HIS := Lib.hid hmofB
 have HBDX := Lib.hid (fun (q9 : MnA) (h : q9.m = MB) => mmay_bd (m := q9) (by rw [h, ← hMB]; exact mof_may _ _ _ q))
 have HK := Lib.hid hK
 have HV := Lib.hid hV
 have HS3 := Lib.hid h3
 have H1 := Lib.hid h1
 have PB := Lib.hid p
 have hq3 : ¬ (300 : Int) < (c.s.size : Int) := by omega
 clear hlaid wb wz p q hMB hmofB hK hV h3 h1
 have B1 := Lib.hid (Below.refl w.heap.size w)
 have T2n := BoAt.new w (.slice b.A b.xs.length b.c)
 have T2 := Lib.hid T2n
 clear T2n
 have B3 := Lib.hid (B1.out.alloc B1.out.size (.cells #[(.slice b.A b.xs.length b.c)] 24))
 have T4 := Lib.hid (T2.out.old (.cells #[.int .i64 c.n, .int .i64 c.r, .string c.s] 38))
 have T5n := RowAt.new (w.alloc (.cells #[(.slice b.A b.xs.length b.c)] 24)) #[.int .i64 c.n, .int .i64 c.r, .string c.s] 38
 simp only [World.size_alloc] at T5n
 have T5 := Lib.hid T5n
 clear T5n
 have B6 := Lib.hid (B3.out.alloc B3.out.size (.cells #[.int .i64 c.n, .int .i64 c.r, .string c.s] 38))
 have T7 := Lib.hid (T4.out.old (.cells (bvals z) 31))
 have T8 := Lib.hid (T5.out.old (.cells (bvals z) 31))
 have T9n := RowAt.new ((w.alloc (.cells #[(.slice b.A b.xs.length b.c)] 24)).alloc (.cells #[.int .i64 c.n, .int .i64 c.r, .string c.s] 38)) (bvals z) 31
 simp only [World.size_alloc] at T9n
 have T9 := Lib.hid T9n
 clear T9n
 have B10 := Lib.hid (B6.out.alloc B6.out.size (.cells (bvals z) 31))
 have F11 := Lib.hid (Fb.out.below B10.out (Nat.le_refl _))
 go_enter Tryz.func8, Tryz.ntmps8
 have C12 := Lib.hid (abAwake (((w.alloc (.cells #[(.slice b.A b.xs.length b.c)] 24)).alloc (.cells #[.int .i64 c.n, .int .i64 c.r, .string c.s] 38)).alloc (.cells (bvals z) 31)) (HLA.out _ B10.out))
 go_wp2_with fail
 refine C12.out.mono ?_
 rintro e w13 ⟨rfl, hb14⟩
 have T15 := Lib.hid (T7.out.below hb14 T7.out.lt)
 have T16 := Lib.hid (T8.out.below hb14 T8.out.lt)
 have T17 := Lib.hid (T9.out.below hb14 T9.out.lt)
 have F18 := Lib.hid (F11.out.below hb14 (Nat.le_refl _))
 have B19 := Lib.hid (B10.out.trans (hb14.mono B10.out.size))
 clear hb14
 have M20 := Lib.hid (T15.out.load)
 have C21 := Lib.hid (fewB_any b w13 F18.out)
 rw [PB.out] at C21
 go_wp2_with (first | ((with_reducible refine wpList_load_by (o := ⟨some 19, .load 24 (.tmp 4), _, _, _, _⟩) ?e1 24 (.tmp 4) ?e2 ⟨w.heap.size, 0, none⟩ ?e3 _ M20.out ?_); (case e1 => rfl); (case e2 => rfl); (case e3 => rfl)))
 refine C21.out.mono ?_
 rintro e w22 ⟨rfl, hb23⟩
 have T24 := Lib.hid (T15.out.below hb23 T15.out.lt)
 have T25 := Lib.hid (T16.out.below hb23 T16.out.lt)
 have T26 := Lib.hid (T17.out.below hb23 T17.out.lt)
 have F27 := Lib.hid (F18.out.below hb23 (Nat.le_refl _))
 have B28 := Lib.hid (B19.out.trans (hb23.mono B19.out.size))
 clear hb23
 have M32 := Lib.hid (T24.out.load)
 have C33 := Lib.hid ((show Calls Tryz.prog 21 #[.agg #[.slice b.A b.xs.length b.c]] w22 (fun e w' => ∃ m : MnA, e = .returned (.tuple #[.agg m.cs.toArray, .bool true]) ∧ m.m = MB ∧ m.Ok w' ∧ Below (w22).heap.size w22 w') from by have h := pof12_any b w22 (HLA.out _ B28.out) F27.out; unfold MofPost at h; rw [HIS.out] at h; exact h))
 go_wp2_with (first | ((with_reducible refine wpList_load_by (o := ⟨some 22, .load 24 (.tmp 4), _, _, _, _⟩) ?e1 24 (.tmp 4) ?e2 ⟨w.heap.size, 0, none⟩ ?e3 _ M32.out ?_); (case e1 => rfl); (case e2 => rfl); (case e3 => rfl)))
 refine C33.out.mono ?_
 rintro e w34 ⟨d29, rfl, hd30, hk31, hb35⟩
 have T36 := Lib.hid (T24.out.below hb35 T24.out.lt)
 have T37 := Lib.hid (T25.out.below hb35 T25.out.lt)
 have T38 := Lib.hid (T26.out.below hb35 T26.out.lt)
 have F39 := Lib.hid (F27.out.below hb35 (Nat.le_refl _))
 have B40 := Lib.hid (B28.out.trans (hb35.mono B28.out.size))
 clear hb35
 have E41 := Lib.hid (hd30)
 have F42 := Lib.hid (hk31)
 clear hd30 hk31
 have SZ42 := Lib.hid (mn_size F42.out)
 have SQ42 := Lib.hid (show mnA0.cs.toArray.size = d29.cs.toArray.size by rw [mnA0_size, List.size_toArray]; exact (MnA.len F42.out).symm)
 have SO42 := Lib.hid (mn_ones d29)
 have L44 := Lib.hid (MnA.len F42.out)
 have hb45 := (Below.refl w34.heap.size w34).alloc (Nat.le_refl _) (.cells d29.cs.toArray 29)
 have T46 := Lib.hid (RowAt.new w34 d29.cs.toArray 29)
 have T47 := Lib.hid (T36.out.below hb45 T36.out.lt)
 have T48 := Lib.hid (T37.out.below hb45 T37.out.lt)
 have T49 := Lib.hid (T38.out.below hb45 T38.out.lt)
 have F50 := Lib.hid (F39.out.below hb45 (Nat.le_refl _))
 have F51 := Lib.hid (F42.out.below hb45 (Nat.le_refl _))
 have B52 := Lib.hid (B40.out.trans (hb45.mono B40.out.size))
 clear hb45
 have cb2 := ClAt.c2 (show ClAt (w34.alloc (.cells d29.cs.toArray 29)) (w.heap.size + 1) c from T48.out)
 have HBD := Lib.hid (HBDX.out d29 E41.out)
 obtain ⟨hk1, hk2, hk3, hk4⟩ := HK.out d29 E41.out
 have K1 := Lib.hid hk1
 have K2 := Lib.hid hk2
 have K3 := Lib.hid hk3
 have K4 := Lib.hid hk4
 clear hk1 hk2 hk3 hk4
 obtain ⟨sm, hsm⟩ : ∃ v, (lineA d29.ls z).isSome = v := ⟨_, rfl⟩
 have HSM := Lib.hid hsm
 clear hsm
 have M56 := Lib.hid (T46.out.mn L44.out)
 have M57 := Lib.hid (T49.out.id LZ.out)
 have C58 := Lib.hid ((show Calls Tryz.prog 29 #[.agg d29.cs.toArray, .agg (bvals z)] (w34.alloc (.cells d29.cs.toArray 29)) (LineN (w34.alloc (.cells d29.cs.toArray 29)) (lineA d29.ls z)) from pline12_any d29 z (w34.alloc (.cells d29.cs.toArray 29)) F51.out HZ.out HBD.out))
 unfold LineN at C58
 rw [HSM.out] at C58
 go_wp2_with (first | ((with_reducible refine wpList_load_at (o := ⟨some 44, .load 29 (.tmp 11), _, _, _, _⟩) ?e1 29 (.tmp 11) ?e2 ⟨w34.heap.size, 0, none⟩ ?e3 _ M56.out ?_); (case e1 => rfl); (case e2 => rfl); (case e3 => rfl)) | ((with_reducible refine wpList_load_at (o := ⟨some 45, .load 31 (.tmp 6), _, _, _, _⟩) ?e1 31 (.tmp 6) ?e2 ⟨(w.heap.size + 1 + 1), 0, none⟩ ?e3 _ M57.out ?_); (case e1 => rfl); (case e2 => rfl); (case e3 => rfl)) | ((with_reducible refine wpList_store_new (o := ⟨none, .store 29 (.tmp 11) (.tmp 24), _, _, _, _⟩) ?e1 29 (.tmp 11) (.tmp 24) ?e2 ?e3 mnA0.cs.toArray d29.cs.toArray ?e4 SZ42.out SQ42.out SO42.out ?_); (case e1 => rfl); (case e2 => rfl); (case e3 => (first | rfl | exact congrArg (fun q => Value.pointer (some ⟨q, 0, none⟩)) (World.size_alloc _ _).symm)); (case e4 => rfl)))
 refine C58.out.mono ?_
 rintro e w59 ⟨d53, rfl, hd54, hk55, hb60⟩
 have T61 := Lib.hid (T47.out.below hb60 T47.out.lt)
 have T62 := Lib.hid (T48.out.below hb60 T48.out.lt)
 have T63 := Lib.hid (T49.out.below hb60 T49.out.lt)
 have T64 := Lib.hid (T46.out.below hb60 T46.out.lt)
 have F65 := Lib.hid (F50.out.below hb60 (Nat.le_refl _))
 have F66 := Lib.hid (F51.out.below hb60 (Nat.le_refl _))
 have B67 := Lib.hid (B52.out.trans (hb60.mono B52.out.size))
 clear hb60
 have E68 := Lib.hid (hd54)
 have F69 := Lib.hid (hk55)
 clear hd54 hk55
 clear cb2
 have SZ69 := Lib.hid (ln_size F69.out)
 have SQ69 := Lib.hid (show (KLn.cs lnA0).toArray.size = (KLn.cs d53).toArray.size by rw [lnA0_size, List.size_toArray]; exact (LnA.len F69.out).symm)
 have SO69 := Lib.hid (ln_ones d53)
 have L71 := Lib.hid (LnA.len F69.out)
 have hb72 := (Below.refl w59.heap.size w59).alloc (Nat.le_refl _) (.cells (KLn.cs d53).toArray 63)
 have T73 := Lib.hid (RowAt.new w59 (KLn.cs d53).toArray 63)
 have T74 := Lib.hid (T61.out.below hb72 T61.out.lt)
 have T75 := Lib.hid (T62.out.below hb72 T62.out.lt)
 have T76 := Lib.hid (T63.out.below hb72 T63.out.lt)
 have T77 := Lib.hid (T64.out.below hb72 T64.out.lt)
 have F78 := Lib.hid (F65.out.below hb72 (Nat.le_refl _))
 have F79 := Lib.hid (F66.out.below hb72 (Nat.le_refl _))
 have F80 := Lib.hid (F69.out.below hb72 (Nat.le_refl _))
 have B81 := Lib.hid (B67.out.trans (hb72.mono B67.out.size))
 clear hb72
 have M85 := Lib.hid (T77.out.mn L44.out)
 have M86 := Lib.hid (T76.out.id LZ.out)
 have C87 := Lib.hid ((show Calls Tryz.prog 30 #[.agg d29.cs.toArray, .agg (bvals z), .int .i64 no] (w59.alloc (.cells (KLn.cs d53).toArray 63)) (FindN (w59.alloc (.cells (KLn.cs d53).toArray 63)) (findA d29.ls z no)) from pfind12_any d29 z no (w59.alloc (.cells (KLn.cs d53).toArray 63)) F79.out HZ.out HBD.out))
 unfold FindN at C87
 rw [K3.out] at C87
 go_wp2_with (first | ((with_reducible refine wpList_load_at (o := ⟨some 50, .load 29 (.tmp 11), _, _, _, _⟩) ?e1 29 (.tmp 11) ?e2 ⟨w34.heap.size, 0, none⟩ ?e3 _ M85.out ?_); (case e1 => rfl); (case e2 => rfl); (case e3 => rfl)) | ((with_reducible refine wpList_load_at (o := ⟨some 51, .load 31 (.tmp 6), _, _, _, _⟩) ?e1 31 (.tmp 6) ?e2 ⟨(w.heap.size + 1 + 1), 0, none⟩ ?e3 _ M86.out ?_); (case e1 => rfl); (case e2 => rfl); (case e3 => rfl)) | ((with_reducible refine wpList_store_new (o := ⟨none, .store 63 (.tmp 13) (.tmp 47), _, _, _, _⟩) ?e1 63 (.tmp 13) (.tmp 47) ?e2 ?e3 (KLn.cs lnA0).toArray (KLn.cs d53).toArray ?e4 SZ69.out SQ69.out SO69.out ?_); (case e1 => rfl); (case e2 => rfl); (case e3 => (first | rfl | exact congrArg (fun q => Value.pointer (some ⟨q, 0, none⟩)) (World.size_alloc _ _).symm)); (case e4 => rfl)))
 refine C87.out.mono ?_
 rintro e w88 ⟨d82, rfl, hd83, hk84, hb89⟩
 have T90 := Lib.hid (T74.out.below hb89 T74.out.lt)
 have T91 := Lib.hid (T75.out.below hb89 T75.out.lt)
 have T92 := Lib.hid (T76.out.below hb89 T76.out.lt)
 have T93 := Lib.hid (T77.out.below hb89 T77.out.lt)
 have T94 := Lib.hid (T73.out.below hb89 T73.out.lt)
 have F95 := Lib.hid (F78.out.below hb89 (Nat.le_refl _))
 have F96 := Lib.hid (F79.out.below hb89 (Nat.le_refl _))
 have F97 := Lib.hid (F80.out.below hb89 (Nat.le_refl _))
 have B98 := Lib.hid (B81.out.trans (hb89.mono B81.out.size))
 clear hb89
 have E99 := Lib.hid (hd83)
 have F100 := Lib.hid (hk84)
 clear hd83 hk84
 have SZ100 := Lib.hid (en_size F100.out)
 have SQ100 := Lib.hid (show (KEn.cs enA0).toArray.size = (KEn.cs d82).toArray.size by rw [enA0_size, List.size_toArray]; exact (EnA.len F100.out).symm)
 have SO100 := Lib.hid (en_ones d82)
 have L102 := Lib.hid (EnA.len F100.out)
 have hb103 := (Below.refl w88.heap.size w88).alloc (Nat.le_refl _) (.cells (KEn.cs d82).toArray 68)
 have T104 := Lib.hid (RowAt.new w88 (KEn.cs d82).toArray 68)
 have T105 := Lib.hid (T90.out.below hb103 T90.out.lt)
 have T106 := Lib.hid (T91.out.below hb103 T91.out.lt)
 have T107 := Lib.hid (T92.out.below hb103 T92.out.lt)
 have T108 := Lib.hid (T93.out.below hb103 T93.out.lt)
 have T109 := Lib.hid (T94.out.below hb103 T94.out.lt)
 have F110 := Lib.hid (F95.out.below hb103 (Nat.le_refl _))
 have F111 := Lib.hid (F96.out.below hb103 (Nat.le_refl _))
 have F112 := Lib.hid (F97.out.below hb103 (Nat.le_refl _))
 have F113 := Lib.hid (F100.out.below hb103 (Nat.le_refl _))
 have B114 := Lib.hid (B98.out.trans (hb103.mono B98.out.size))
 clear hb103
 have GN := Lib.hid (show d53.n = dn from (congrArg Ln.n E68.out).trans K1.out)
 have GR := Lib.hid (show d53.r = dr from (congrArg Ln.r E68.out).trans K2.out)
 have EE := Lib.hid (E99.out.trans K4.out)
 have MC := Lib.hid (load_cl (show ClAt (w88.alloc (.cells (KEn.cs d82).toArray 68)) (w.heap.size + 1) c from T106.out))
 unfold Cel.v at MC
 have M115 := Lib.hid (T108.out.mn L44.out)
 have M116 := Lib.hid (T107.out.id LZ.out)
 have C117 := Lib.hid ((show Calls Tryz.prog 20 #[.agg #[.int .i64 c.n, .int .i64 c.r, .string c.s], .agg d29.cs.toArray, .agg (bvals z), .int .i64 no] (w88.alloc (.cells (KEn.cs d82).toArray 68)) (fun e w' => e = .returned (.bool true) ∧ Below ((w88.alloc (.cells (KEn.cs d82).toArray 68))).heap.size (w88.alloc (.cells (KEn.cs d82).toArray 68)) w') from by have h := pexc14_any c d29 z no (w88.alloc (.cells (KEn.cs d82).toArray 68)) (HLA.out _ B114.out) F111.out HZ.out (by have := HS3.out; omega) HBD.out; rw [E41.out, HV.out] at h; exact h))
 go_wp2_with (first | ((with_reducible refine wpList_load_at (o := ⟨some 57, .load 29 (.tmp 11), _, _, _, _⟩) ?e1 29 (.tmp 11) ?e2 ⟨w34.heap.size, 0, none⟩ ?e3 _ M115.out ?_); (case e1 => rfl); (case e2 => rfl); (case e3 => rfl)) | ((with_reducible refine wpList_load_at (o := ⟨some 58, .load 31 (.tmp 6), _, _, _, _⟩) ?e1 31 (.tmp 6) ?e2 ⟨(w.heap.size + 1 + 1), 0, none⟩ ?e3 _ M116.out ?_); (case e1 => rfl); (case e2 => rfl); (case e3 => rfl)) | ((with_reducible refine wpList_store_new (o := ⟨none, .store 68 (.tmp 15) (.tmp 54), _, _, _, _⟩) ?e1 68 (.tmp 15) (.tmp 54) ?e2 ?e3 (KEn.cs enA0).toArray (KEn.cs d82).toArray ?e4 SZ100.out SQ100.out SO100.out ?_); (case e1 => rfl); (case e2 => rfl); (case e3 => (first | rfl | exact congrArg (fun q => Value.pointer (some ⟨q, 0, none⟩)) (World.size_alloc _ _).symm)); (case e4 => rfl)) | ((with_reducible refine wpList_load_at (o := ⟨some 56, .load 38 (.tmp 5), _, _, _, _⟩) ?e1 38 (.tmp 5) ?e2 ⟨(w.heap.size + 1), 0, none⟩ ?e3 _ MC.out ?_); (case e1 => rfl); (case e2 => rfl); (case e3 => rfl)))
 refine C117.out.mono ?_
 rintro e w118 ⟨rfl, hb119⟩
 have T120 := Lib.hid (T105.out.below hb119 T105.out.lt)
 have T121 := Lib.hid (T106.out.below hb119 T106.out.lt)
 have T122 := Lib.hid (T107.out.below hb119 T107.out.lt)
 have T123 := Lib.hid (T108.out.below hb119 T108.out.lt)
 have T124 := Lib.hid (T109.out.below hb119 T109.out.lt)
 have T125 := Lib.hid (T104.out.below hb119 T104.out.lt)
 have F126 := Lib.hid (F110.out.below hb119 (Nat.le_refl _))
 have F127 := Lib.hid (F111.out.below hb119 (Nat.le_refl _))
 have F128 := Lib.hid (F112.out.below hb119 (Nat.le_refl _))
 have F129 := Lib.hid (F113.out.below hb119 (Nat.le_refl _))
 have B130 := Lib.hid (B114.out.trans (hb119.mono B114.out.size))
 clear hb119
 have ca16 := ln_c16 (Kind.at_blk (K := KLn) (x := d53) T124.out) F128.out.1
 rw [Nat.zero_add, GN.out] at ca16
 have ca17 := ln_c17 (Kind.at_blk (K := KLn) (x := d53) T124.out) F128.out.1
 rw [Nat.zero_add, GR.out] at ca17
 have cb0 := ClAt.c0 (show ClAt w118 (w.heap.size + 1) c from T121.out)
 have cb1 := ClAt.c1 (show ClAt w118 (w.heap.size + 1) c from T121.out)
 have C131 := Lib.hid (stLess_any dn dr c.n c.r w118)
 unfold st at C131
 rw [H1.out] at C131
 go_wp2_with fail
 refine C131.out.mono ?_
 rintro e w132 ⟨rfl, hb133⟩
 have T134 := Lib.hid (T120.out.below hb133 T120.out.lt)
 have T135 := Lib.hid (T121.out.below hb133 T121.out.lt)
 have T136 := Lib.hid (T122.out.below hb133 T122.out.lt)
 have T137 := Lib.hid (T123.out.below hb133 T123.out.lt)
 have T138 := Lib.hid (T124.out.below hb133 T124.out.lt)
 have T139 := Lib.hid (T125.out.below hb133 T125.out.lt)
 have F140 := Lib.hid (F126.out.below hb133 (Nat.le_refl _))
 have F141 := Lib.hid (F127.out.below hb133 (Nat.le_refl _))
 have F142 := Lib.hid (F128.out.below hb133 (Nat.le_refl _))
 have F143 := Lib.hid (F129.out.below hb133 (Nat.le_refl _))
 have B144 := Lib.hid (B130.out.trans (hb133.mono B130.out.size))
 clear hb133
 clear ca16 ca17 cb0 cb1
 go_wp2
 go_ret
 exact ⟨rfl, B144.out⟩
set_option maxHeartbeats 16000000 in
theorem abs_C (b : Bk) (c : Cel) (z : List Int) (no : Int) (w : World) (hlaid : Laid w) (wb : BkAt w b) (wz : z.length = 16 ∧ AllBytes z) (p : fewB b.rs = true) (q : bmay b.rs = true) (h3 : c.s.size ≤ 300) (MB : Mn) (hMB : mof SH.sum (SH.sum (bbs b.rs)) b.rs = MB) (dn dr : Int) (ee : En) (hK : ∀ m : MnA, m.m = MB → ((lineA m.ls z).getD lnA0).x.n = dn ∧ ((lineA m.ls z).getD lnA0).x.r = dr ∧ (findA m.ls z no).isSome = true ∧ ((findA m.ls z no).getD enA0).e = ee) (hV : exc c MB z no = true) (h1 : stLess dn dr c.n c.r = true) (h2 : stLess ee.n ee.r c.n c.r = true) : Calls Tryz.prog 8 #[.agg #[.slice b.A b.xs.length b.c], .agg #[.int .i64 c.n, .int .i64 c.r, .string c.s], .agg (bvals z), .int .i64 no] w fun e w' => e = .returned (.bool true) ∧ Below w.heap.size w w' := by
 have HLA := Lib.hid (fun (X : World) (hX : Below w.heap.size w X) => hlaid.below hX (Nat.le_refl _))
 have Fb := Lib.hid wb
 have hzm := zeroMn
 rw [show mnA0.v = .agg mnA0.cs.toArray from rfl] at hzm
 have hzne : ¬ mnA0.cs.toArray = #[] := by decide
 have LZ := Lib.hid wz.1
 have HZ := Lib.hid wz
 have hze := zeroEn
 rw [show KEn.v enA0 = .agg (KEn.cs enA0).toArray from rfl] at hze
 have hzl := zeroLn
 rw [show KLn.v lnA0 = .agg (KLn.cs lnA0).toArray from rfl] at hzl
 have hzne1 : ¬ (KEn.cs enA0).toArray = #[] := by decide
 have hzne2 : ¬ (KLn.cs lnA0).toArray = #[] := by decide
 have hmofB : mofB b.rs = some MB := by rw [← hMB]; exact if_pos q
 have HIS := Lib.hid hmofB
 have HBDX := Lib.hid (fun (q9 : MnA) (h : q9.m = MB) => mmay_bd (m := q9) (by rw [h, ← hMB]; exact mof_may _ _ _ q))
 have HK := Lib.hid hK
 have HV := Lib.hid hV
 have HS3 := Lib.hid h3
 have H1 := Lib.hid h1
 have PB := Lib.hid p
 have hq3 : ¬ (300 : Int) < (c.s.size : Int) := by omega
 have H2 := Lib.hid h2
 clear h2
 clear hlaid wb wz p q hMB hmofB hK hV h3 h1
 have B1 := Lib.hid (Below.refl w.heap.size w)
 have T2n := BoAt.new w (.slice b.A b.xs.length b.c)
 have T2 := Lib.hid T2n
 clear T2n
 have B3 := Lib.hid (B1.out.alloc B1.out.size (.cells #[(.slice b.A b.xs.length b.c)] 24))
 have T4 := Lib.hid (T2.out.old (.cells #[.int .i64 c.n, .int .i64 c.r, .string c.s] 38))
 have T5n := RowAt.new (w.alloc (.cells #[(.slice b.A b.xs.length b.c)] 24)) #[.int .i64 c.n, .int .i64 c.r, .string c.s] 38
 simp only [World.size_alloc] at T5n
 have T5 := Lib.hid T5n
 clear T5n
 have B6 := Lib.hid (B3.out.alloc B3.out.size (.cells #[.int .i64 c.n, .int .i64 c.r, .string c.s] 38))
 have T7 := Lib.hid (T4.out.old (.cells (bvals z) 31))
 have T8 := Lib.hid (T5.out.old (.cells (bvals z) 31))
 have T9n := RowAt.new ((w.alloc (.cells #[(.slice b.A b.xs.length b.c)] 24)).alloc (.cells #[.int .i64 c.n, .int .i64 c.r, .string c.s] 38)) (bvals z) 31
 simp only [World.size_alloc] at T9n
 have T9 := Lib.hid T9n
 clear T9n
 have B10 := Lib.hid (B6.out.alloc B6.out.size (.cells (bvals z) 31))
 have F11 := Lib.hid (Fb.out.below B10.out (Nat.le_refl _))
 go_enter Tryz.func8, Tryz.ntmps8
 have C12 := Lib.hid (abAwake (((w.alloc (.cells #[(.slice b.A b.xs.length b.c)] 24)).alloc (.cells #[.int .i64 c.n, .int .i64 c.r, .string c.s] 38)).alloc (.cells (bvals z) 31)) (HLA.out _ B10.out))
 go_wp2_with fail
 refine C12.out.mono ?_
 rintro e w13 ⟨rfl, hb14⟩
 have T15 := Lib.hid (T7.out.below hb14 T7.out.lt)
 have T16 := Lib.hid (T8.out.below hb14 T8.out.lt)
 have T17 := Lib.hid (T9.out.below hb14 T9.out.lt)
 have F18 := Lib.hid (F11.out.below hb14 (Nat.le_refl _))
 have B19 := Lib.hid (B10.out.trans (hb14.mono B10.out.size))
 clear hb14
 have M20 := Lib.hid (T15.out.load)
 have C21 := Lib.hid (fewB_any b w13 F18.out)
 rw [PB.out] at C21
 go_wp2_with (first | ((with_reducible refine wpList_load_by (o := ⟨some 19, .load 24 (.tmp 4), _, _, _, _⟩) ?e1 24 (.tmp 4) ?e2 ⟨w.heap.size, 0, none⟩ ?e3 _ M20.out ?_); (case e1 => rfl); (case e2 => rfl); (case e3 => rfl)))
 refine C21.out.mono ?_
 rintro e w22 ⟨rfl, hb23⟩
 have T24 := Lib.hid (T15.out.below hb23 T15.out.lt)
 have T25 := Lib.hid (T16.out.below hb23 T16.out.lt)
 have T26 := Lib.hid (T17.out.below hb23 T17.out.lt)
 have F27 := Lib.hid (F18.out.below hb23 (Nat.le_refl _))
 have B28 := Lib.hid (B19.out.trans (hb23.mono B19.out.size))
 clear hb23
 have M32 := Lib.hid (T24.out.load)
 have C33 := Lib.hid ((show Calls Tryz.prog 21 #[.agg #[.slice b.A b.xs.length b.c]] w22 (fun e w' => ∃ m : MnA, e = .returned (.tuple #[.agg m.cs.toArray, .bool true]) ∧ m.m = MB ∧ m.Ok w' ∧ Below (w22).heap.size w22 w') from by have h := pof12_any b w22 (HLA.out _ B28.out) F27.out; unfold MofPost at h; rw [HIS.out] at h; exact h))
 go_wp2_with (first | ((with_reducible refine wpList_load_by (o := ⟨some 22, .load 24 (.tmp 4), _, _, _, _⟩) ?e1 24 (.tmp 4) ?e2 ⟨w.heap.size, 0, none⟩ ?e3 _ M32.out ?_); (case e1 => rfl); (case e2 => rfl); (case e3 => rfl)))
 refine C33.out.mono ?_
 rintro e w34 ⟨d29, rfl, hd30, hk31, hb35⟩
 have T36 := Lib.hid (T24.out.below hb35 T24.out.lt)
 have T37 := Lib.hid (T25.out.below hb35 T25.out.lt)
 have T38 := Lib.hid (T26.out.below hb35 T26.out.lt)
 have F39 := Lib.hid (F27.out.below hb35 (Nat.le_refl _))
 have B40 := Lib.hid (B28.out.trans (hb35.mono B28.out.size))
 clear hb35
 have E41 := Lib.hid (hd30)
 have F42 := Lib.hid (hk31)
 clear hd30 hk31
 have SZ42 := Lib.hid (mn_size F42.out)
 have SQ42 := Lib.hid (show mnA0.cs.toArray.size = d29.cs.toArray.size by rw [mnA0_size, List.size_toArray]; exact (MnA.len F42.out).symm)
 have SO42 := Lib.hid (mn_ones d29)
 have L44 := Lib.hid (MnA.len F42.out)
 have hb45 := (Below.refl w34.heap.size w34).alloc (Nat.le_refl _) (.cells d29.cs.toArray 29)
 have T46 := Lib.hid (RowAt.new w34 d29.cs.toArray 29)
 have T47 := Lib.hid (T36.out.below hb45 T36.out.lt)
 have T48 := Lib.hid (T37.out.below hb45 T37.out.lt)
 have T49 := Lib.hid (T38.out.below hb45 T38.out.lt)
 have F50 := Lib.hid (F39.out.below hb45 (Nat.le_refl _))
 have F51 := Lib.hid (F42.out.below hb45 (Nat.le_refl _))
 have B52 := Lib.hid (B40.out.trans (hb45.mono B40.out.size))
 clear hb45
 have cb2 := ClAt.c2 (show ClAt (w34.alloc (.cells d29.cs.toArray 29)) (w.heap.size + 1) c from T48.out)
 have HBD := Lib.hid (HBDX.out d29 E41.out)
 obtain ⟨hk1, hk2, hk3, hk4⟩ := HK.out d29 E41.out
 have K1 := Lib.hid hk1
 have K2 := Lib.hid hk2
 have K3 := Lib.hid hk3
 have K4 := Lib.hid hk4
 clear hk1 hk2 hk3 hk4
 obtain ⟨sm, hsm⟩ : ∃ v, (lineA d29.ls z).isSome = v := ⟨_, rfl⟩
 have HSM := Lib.hid hsm
 clear hsm
 have M56 := Lib.hid (T46.out.mn L44.out)
 have M57 := Lib.hid (T49.out.id LZ.out)
 have C58 := Lib.hid ((show Calls Tryz.prog 29 #[.agg d29.cs.toArray, .agg (bvals z)] (w34.alloc (.cells d29.cs.toArray 29)) (LineN (w34.alloc (.cells d29.cs.toArray 29)) (lineA d29.ls z)) from pline12_any d29 z (w34.alloc (.cells d29.cs.toArray 29)) F51.out HZ.out HBD.out))
 unfold LineN at C58
 rw [HSM.out] at C58
 go_wp2_with (first | ((with_reducible refine wpList_load_at (o := ⟨some 44, .load 29 (.tmp 11), _, _, _, _⟩) ?e1 29 (.tmp 11) ?e2 ⟨w34.heap.size, 0, none⟩ ?e3 _ M56.out ?_); (case e1 => rfl); (case e2 => rfl); (case e3 => rfl)) | ((with_reducible refine wpList_load_at (o := ⟨some 45, .load 31 (.tmp 6), _, _, _, _⟩) ?e1 31 (.tmp 6) ?e2 ⟨(w.heap.size + 1 + 1), 0, none⟩ ?e3 _ M57.out ?_); (case e1 => rfl); (case e2 => rfl); (case e3 => rfl)) | ((with_reducible refine wpList_store_new (o := ⟨none, .store 29 (.tmp 11) (.tmp 24), _, _, _, _⟩) ?e1 29 (.tmp 11) (.tmp 24) ?e2 ?e3 mnA0.cs.toArray d29.cs.toArray ?e4 SZ42.out SQ42.out SO42.out ?_); (case e1 => rfl); (case e2 => rfl); (case e3 => (first | rfl | exact congrArg (fun q => Value.pointer (some ⟨q, 0, none⟩)) (World.size_alloc _ _).symm)); (case e4 => rfl)))
 refine C58.out.mono ?_
 rintro e w59 ⟨d53, rfl, hd54, hk55, hb60⟩
 have T61 := Lib.hid (T47.out.below hb60 T47.out.lt)
 have T62 := Lib.hid (T48.out.below hb60 T48.out.lt)
 have T63 := Lib.hid (T49.out.below hb60 T49.out.lt)
 have T64 := Lib.hid (T46.out.below hb60 T46.out.lt)
 have F65 := Lib.hid (F50.out.below hb60 (Nat.le_refl _))
 have F66 := Lib.hid (F51.out.below hb60 (Nat.le_refl _))
 have B67 := Lib.hid (B52.out.trans (hb60.mono B52.out.size))
 clear hb60
 have E68 := Lib.hid (hd54)
 have F69 := Lib.hid (hk55)
 clear hd54 hk55
 clear cb2
 have SZ69 := Lib.hid (ln_size F69.out)
 have SQ69 := Lib.hid (show (KLn.cs lnA0).toArray.size = (KLn.cs d53).toArray.size by rw [lnA0_size, List.size_toArray]; exact (LnA.len F69.out).symm)
 have SO69 := Lib.hid (ln_ones d53)
 have L71 := Lib.hid (LnA.len F69.out)
 have hb72 := (Below.refl w59.heap.size w59).alloc (Nat.le_refl _) (.cells (KLn.cs d53).toArray 63)
 have T73 := Lib.hid (RowAt.new w59 (KLn.cs d53).toArray 63)
 have T74 := Lib.hid (T61.out.below hb72 T61.out.lt)
 have T75 := Lib.hid (T62.out.below hb72 T62.out.lt)
 have T76 := Lib.hid (T63.out.below hb72 T63.out.lt)
 have T77 := Lib.hid (T64.out.below hb72 T64.out.lt)
 have F78 := Lib.hid (F65.out.below hb72 (Nat.le_refl _))
 have F79 := Lib.hid (F66.out.below hb72 (Nat.le_refl _))
 have F80 := Lib.hid (F69.out.below hb72 (Nat.le_refl _))
 have B81 := Lib.hid (B67.out.trans (hb72.mono B67.out.size))
 clear hb72
 have M85 := Lib.hid (T77.out.mn L44.out)
 have M86 := Lib.hid (T76.out.id LZ.out)
 have C87 := Lib.hid ((show Calls Tryz.prog 30 #[.agg d29.cs.toArray, .agg (bvals z), .int .i64 no] (w59.alloc (.cells (KLn.cs d53).toArray 63)) (FindN (w59.alloc (.cells (KLn.cs d53).toArray 63)) (findA d29.ls z no)) from pfind12_any d29 z no (w59.alloc (.cells (KLn.cs d53).toArray 63)) F79.out HZ.out HBD.out))
 unfold FindN at C87
 rw [K3.out] at C87
 go_wp2_with (first | ((with_reducible refine wpList_load_at (o := ⟨some 50, .load 29 (.tmp 11), _, _, _, _⟩) ?e1 29 (.tmp 11) ?e2 ⟨w34.heap.size, 0, none⟩ ?e3 _ M85.out ?_); (case e1 => rfl); (case e2 => rfl); (case e3 => rfl)) | ((with_reducible refine wpList_load_at (o := ⟨some 51, .load 31 (.tmp 6), _, _, _, _⟩) ?e1 31 (.tmp 6) ?e2 ⟨(w.heap.size + 1 + 1), 0, none⟩ ?e3 _ M86.out ?_); (case e1 => rfl); (case e2 => rfl); (case e3 => rfl)) | ((with_reducible refine wpList_store_new (o := ⟨none, .store 63 (.tmp 13) (.tmp 47), _, _, _, _⟩) ?e1 63 (.tmp 13) (.tmp 47) ?e2 ?e3 (KLn.cs lnA0).toArray (KLn.cs d53).toArray ?e4 SZ69.out SQ69.out SO69.out ?_); (case e1 => rfl); (case e2 => rfl); (case e3 => (first | rfl | exact congrArg (fun q => Value.pointer (some ⟨q, 0, none⟩)) (World.size_alloc _ _).symm)); (case e4 => rfl)))
 refine C87.out.mono ?_
 rintro e w88 ⟨d82, rfl, hd83, hk84, hb89⟩
 have T90 := Lib.hid (T74.out.below hb89 T74.out.lt)
 have T91 := Lib.hid (T75.out.below hb89 T75.out.lt)
 have T92 := Lib.hid (T76.out.below hb89 T76.out.lt)
 have T93 := Lib.hid (T77.out.below hb89 T77.out.lt)
 have T94 := Lib.hid (T73.out.below hb89 T73.out.lt)
 have F95 := Lib.hid (F78.out.below hb89 (Nat.le_refl _))
 have F96 := Lib.hid (F79.out.below hb89 (Nat.le_refl _))
 have F97 := Lib.hid (F80.out.below hb89 (Nat.le_refl _))
 have B98 := Lib.hid (B81.out.trans (hb89.mono B81.out.size))
 clear hb89
 have E99 := Lib.hid (hd83)
 have F100 := Lib.hid (hk84)
 clear hd83 hk84
 have SZ100 := Lib.hid (en_size F100.out)
 have SQ100 := Lib.hid (show (KEn.cs enA0).toArray.size = (KEn.cs d82).toArray.size by rw [enA0_size, List.size_toArray]; exact (EnA.len F100.out).symm)
 have SO100 := Lib.hid (en_ones d82)
 have L102 := Lib.hid (EnA.len F100.out)
 have hb103 := (Below.refl w88.heap.size w88).alloc (Nat.le_refl _) (.cells (KEn.cs d82).toArray 68)
 have T104 := Lib.hid (RowAt.new w88 (KEn.cs d82).toArray 68)
 have T105 := Lib.hid (T90.out.below hb103 T90.out.lt)
 have T106 := Lib.hid (T91.out.below hb103 T91.out.lt)
 have T107 := Lib.hid (T92.out.below hb103 T92.out.lt)
 have T108 := Lib.hid (T93.out.below hb103 T93.out.lt)
 have T109 := Lib.hid (T94.out.below hb103 T94.out.lt)
 have F110 := Lib.hid (F95.out.below hb103 (Nat.le_refl _))
 have F111 := Lib.hid (F96.out.below hb103 (Nat.le_refl _))
 have F112 := Lib.hid (F97.out.below hb103 (Nat.le_refl _))
 have F113 := Lib.hid (F100.out.below hb103 (Nat.le_refl _))
 have B114 := Lib.hid (B98.out.trans (hb103.mono B98.out.size))
 clear hb103
 have GN := Lib.hid (show d53.n = dn from (congrArg Ln.n E68.out).trans K1.out)
 have GR := Lib.hid (show d53.r = dr from (congrArg Ln.r E68.out).trans K2.out)
 have EE := Lib.hid (E99.out.trans K4.out)
 have MC := Lib.hid (load_cl (show ClAt (w88.alloc (.cells (KEn.cs d82).toArray 68)) (w.heap.size + 1) c from T106.out))
 unfold Cel.v at MC
 have M115 := Lib.hid (T108.out.mn L44.out)
 have M116 := Lib.hid (T107.out.id LZ.out)
 have C117 := Lib.hid ((show Calls Tryz.prog 20 #[.agg #[.int .i64 c.n, .int .i64 c.r, .string c.s], .agg d29.cs.toArray, .agg (bvals z), .int .i64 no] (w88.alloc (.cells (KEn.cs d82).toArray 68)) (fun e w' => e = .returned (.bool true) ∧ Below ((w88.alloc (.cells (KEn.cs d82).toArray 68))).heap.size (w88.alloc (.cells (KEn.cs d82).toArray 68)) w') from by have h := pexc14_any c d29 z no (w88.alloc (.cells (KEn.cs d82).toArray 68)) (HLA.out _ B114.out) F111.out HZ.out (by have := HS3.out; omega) HBD.out; rw [E41.out, HV.out] at h; exact h))
 go_wp2_with (first | ((with_reducible refine wpList_load_at (o := ⟨some 57, .load 29 (.tmp 11), _, _, _, _⟩) ?e1 29 (.tmp 11) ?e2 ⟨w34.heap.size, 0, none⟩ ?e3 _ M115.out ?_); (case e1 => rfl); (case e2 => rfl); (case e3 => rfl)) | ((with_reducible refine wpList_load_at (o := ⟨some 58, .load 31 (.tmp 6), _, _, _, _⟩) ?e1 31 (.tmp 6) ?e2 ⟨(w.heap.size + 1 + 1), 0, none⟩ ?e3 _ M116.out ?_); (case e1 => rfl); (case e2 => rfl); (case e3 => rfl)) | ((with_reducible refine wpList_store_new (o := ⟨none, .store 68 (.tmp 15) (.tmp 54), _, _, _, _⟩) ?e1 68 (.tmp 15) (.tmp 54) ?e2 ?e3 (KEn.cs enA0).toArray (KEn.cs d82).toArray ?e4 SZ100.out SQ100.out SO100.out ?_); (case e1 => rfl); (case e2 => rfl); (case e3 => (first | rfl | exact congrArg (fun q => Value.pointer (some ⟨q, 0, none⟩)) (World.size_alloc _ _).symm)); (case e4 => rfl)) | ((with_reducible refine wpList_load_at (o := ⟨some 56, .load 38 (.tmp 5), _, _, _, _⟩) ?e1 38 (.tmp 5) ?e2 ⟨(w.heap.size + 1), 0, none⟩ ?e3 _ MC.out ?_); (case e1 => rfl); (case e2 => rfl); (case e3 => rfl)))
 refine C117.out.mono ?_
 rintro e w118 ⟨rfl, hb119⟩
 have T120 := Lib.hid (T105.out.below hb119 T105.out.lt)
 have T121 := Lib.hid (T106.out.below hb119 T106.out.lt)
 have T122 := Lib.hid (T107.out.below hb119 T107.out.lt)
 have T123 := Lib.hid (T108.out.below hb119 T108.out.lt)
 have T124 := Lib.hid (T109.out.below hb119 T109.out.lt)
 have T125 := Lib.hid (T104.out.below hb119 T104.out.lt)
 have F126 := Lib.hid (F110.out.below hb119 (Nat.le_refl _))
 have F127 := Lib.hid (F111.out.below hb119 (Nat.le_refl _))
 have F128 := Lib.hid (F112.out.below hb119 (Nat.le_refl _))
 have F129 := Lib.hid (F113.out.below hb119 (Nat.le_refl _))
 have B130 := Lib.hid (B114.out.trans (hb119.mono B114.out.size))
 clear hb119
 have ca16 := ln_c16 (Kind.at_blk (K := KLn) (x := d53) T124.out) F128.out.1
 rw [Nat.zero_add, GN.out] at ca16
 have ca17 := ln_c17 (Kind.at_blk (K := KLn) (x := d53) T124.out) F128.out.1
 rw [Nat.zero_add, GR.out] at ca17
 have cb0 := ClAt.c0 (show ClAt w118 (w.heap.size + 1) c from T121.out)
 have cb1 := ClAt.c1 (show ClAt w118 (w.heap.size + 1) c from T121.out)
 have C131 := Lib.hid (stLess_any dn dr c.n c.r w118)
 unfold st at C131
 rw [H1.out] at C131
 go_wp2_with fail
 refine C131.out.mono ?_
 rintro e w132 ⟨rfl, hb133⟩
 have T134 := Lib.hid (T120.out.below hb133 T120.out.lt)
 have T135 := Lib.hid (T121.out.below hb133 T121.out.lt)
 have T136 := Lib.hid (T122.out.below hb133 T122.out.lt)
 have T137 := Lib.hid (T123.out.below hb133 T123.out.lt)
 have T138 := Lib.hid (T124.out.below hb133 T124.out.lt)
 have T139 := Lib.hid (T125.out.below hb133 T125.out.lt)
 have F140 := Lib.hid (F126.out.below hb133 (Nat.le_refl _))
 have F141 := Lib.hid (F127.out.below hb133 (Nat.le_refl _))
 have F142 := Lib.hid (F128.out.below hb133 (Nat.le_refl _))
 have F143 := Lib.hid (F129.out.below hb133 (Nat.le_refl _))
 have B144 := Lib.hid (B130.out.trans (hb133.mono B130.out.size))
 clear hb133
 clear ca16 ca17 cb0 cb1
 have cc1 := en_c1 (Kind.at_blk (K := KEn) (x := d82) T139.out)
 rw [Nat.zero_add, EE.out] at cc1
 have cc2 := en_c2 (Kind.at_blk (K := KEn) (x := d82) T139.out)
 rw [Nat.zero_add, EE.out] at cc2
 have cb0 := ClAt.c0 (show ClAt w132 (w.heap.size + 1) c from T135.out)
 have cb1 := ClAt.c1 (show ClAt w132 (w.heap.size + 1) c from T135.out)
 have C145 := Lib.hid (stLess_any ee.n ee.r c.n c.r w132)
 unfold st at C145
 rw [H2.out] at C145
 go_wp2_with fail
 refine C145.out.mono ?_
 rintro e w146 ⟨rfl, hb147⟩
 have T148 := Lib.hid (T134.out.below hb147 T134.out.lt)
 have T149 := Lib.hid (T135.out.below hb147 T135.out.lt)
 have T150 := Lib.hid (T136.out.below hb147 T136.out.lt)
 have T151 := Lib.hid (T137.out.below hb147 T137.out.lt)
 have T152 := Lib.hid (T138.out.below hb147 T138.out.lt)
 have T153 := Lib.hid (T139.out.below hb147 T139.out.lt)
 have F154 := Lib.hid (F140.out.below hb147 (Nat.le_refl _))
 have F155 := Lib.hid (F141.out.below hb147 (Nat.le_refl _))
 have F156 := Lib.hid (F142.out.below hb147 (Nat.le_refl _))
 have F157 := Lib.hid (F143.out.below hb147 (Nat.le_refl _))
 have B158 := Lib.hid (B144.out.trans (hb147.mono B144.out.size))
 clear hb147
 clear cc1 cc2 cb0 cb1
 go_wp2
 go_ret
 exact ⟨rfl, B158.out⟩
set_option maxHeartbeats 16000000 in
theorem abs_D (b : Bk) (c : Cel) (z : List Int) (no : Int) (w : World) (hlaid : Laid w) (wb : BkAt w b) (wz : z.length = 16 ∧ AllBytes z) (p : fewB b.rs = true) (q : bmay b.rs = true) (h3 : c.s.size ≤ 300) (MB : Mn) (hMB : mof SH.sum (SH.sum (bbs b.rs)) b.rs = MB) (dn dr : Int) (ee : En) (hK : ∀ m : MnA, m.m = MB → ((lineA m.ls z).getD lnA0).x.n = dn ∧ ((lineA m.ls z).getD lnA0).x.r = dr ∧ (findA m.ls z no).isSome = true ∧ ((findA m.ls z no).getD enA0).e = ee) (hV : exc c MB z no = false) (h1 : stLess dn dr c.n c.r = true) (h2 : stLess ee.n ee.r c.n c.r = false) : Calls Tryz.prog 8 #[.agg #[.slice b.A b.xs.length b.c], .agg #[.int .i64 c.n, .int .i64 c.r, .string c.s], .agg (bvals z), .int .i64 no] w fun e w' => e = .returned (.bool true) ∧ Below w.heap.size w w' := by
 have HLA := Lib.hid (fun (X : World) (hX : Below w.heap.size w X) => hlaid.below hX (Nat.le_refl _))
 have Fb := Lib.hid wb
 have hzm := zeroMn
 rw [show mnA0.v = .agg mnA0.cs.toArray from rfl] at hzm
 have hzne : ¬ mnA0.cs.toArray = #[] := by decide
 have LZ := Lib.hid wz.1
 have HZ := Lib.hid wz
 have hze := zeroEn
 rw [show KEn.v enA0 = .agg (KEn.cs enA0).toArray from rfl] at hze
 have hzl := zeroLn
 rw [show KLn.v lnA0 = .agg (KLn.cs lnA0).toArray from rfl] at hzl
 have hzne1 : ¬ (KEn.cs enA0).toArray = #[] := by decide
 have hzne2 : ¬ (KLn.cs lnA0).toArray = #[] := by decide
 have hmofB : mofB b.rs = some MB := by rw [← hMB]; exact if_pos q
 have HIS := Lib.hid hmofB
 have HBDX := Lib.hid (fun (q9 : MnA) (h : q9.m = MB) => mmay_bd (m := q9) (by rw [h, ← hMB]; exact mof_may _ _ _ q))
 have HK := Lib.hid hK
 have HV := Lib.hid hV
 have HS3 := Lib.hid h3
 have H1 := Lib.hid h1
 have PB := Lib.hid p
 have hq3 : ¬ (300 : Int) < (c.s.size : Int) := by omega
 have H2 := Lib.hid h2
 clear h2
 clear hlaid wb wz p q hMB hmofB hK hV h3 h1
 have B1 := Lib.hid (Below.refl w.heap.size w)
 have T2n := BoAt.new w (.slice b.A b.xs.length b.c)
 have T2 := Lib.hid T2n
 clear T2n
 have B3 := Lib.hid (B1.out.alloc B1.out.size (.cells #[(.slice b.A b.xs.length b.c)] 24))
 have T4 := Lib.hid (T2.out.old (.cells #[.int .i64 c.n, .int .i64 c.r, .string c.s] 38))
 have T5n := RowAt.new (w.alloc (.cells #[(.slice b.A b.xs.length b.c)] 24)) #[.int .i64 c.n, .int .i64 c.r, .string c.s] 38
 simp only [World.size_alloc] at T5n
 have T5 := Lib.hid T5n
 clear T5n
 have B6 := Lib.hid (B3.out.alloc B3.out.size (.cells #[.int .i64 c.n, .int .i64 c.r, .string c.s] 38))
 have T7 := Lib.hid (T4.out.old (.cells (bvals z) 31))
 have T8 := Lib.hid (T5.out.old (.cells (bvals z) 31))
 have T9n := RowAt.new ((w.alloc (.cells #[(.slice b.A b.xs.length b.c)] 24)).alloc (.cells #[.int .i64 c.n, .int .i64 c.r, .string c.s] 38)) (bvals z) 31
 simp only [World.size_alloc] at T9n
 have T9 := Lib.hid T9n
 clear T9n
 have B10 := Lib.hid (B6.out.alloc B6.out.size (.cells (bvals z) 31))
 have F11 := Lib.hid (Fb.out.below B10.out (Nat.le_refl _))
 go_enter Tryz.func8, Tryz.ntmps8
 have C12 := Lib.hid (abAwake (((w.alloc (.cells #[(.slice b.A b.xs.length b.c)] 24)).alloc (.cells #[.int .i64 c.n, .int .i64 c.r, .string c.s] 38)).alloc (.cells (bvals z) 31)) (HLA.out _ B10.out))
 go_wp2_with fail
 refine C12.out.mono ?_
 rintro e w13 ⟨rfl, hb14⟩
 have T15 := Lib.hid (T7.out.below hb14 T7.out.lt)
 have T16 := Lib.hid (T8.out.below hb14 T8.out.lt)
 have T17 := Lib.hid (T9.out.below hb14 T9.out.lt)
 have F18 := Lib.hid (F11.out.below hb14 (Nat.le_refl _))
 have B19 := Lib.hid (B10.out.trans (hb14.mono B10.out.size))
 clear hb14
 have M20 := Lib.hid (T15.out.load)
 have C21 := Lib.hid (fewB_any b w13 F18.out)
 rw [PB.out] at C21
 go_wp2_with (first | ((with_reducible refine wpList_load_by (o := ⟨some 19, .load 24 (.tmp 4), _, _, _, _⟩) ?e1 24 (.tmp 4) ?e2 ⟨w.heap.size, 0, none⟩ ?e3 _ M20.out ?_); (case e1 => rfl); (case e2 => rfl); (case e3 => rfl)))
 refine C21.out.mono ?_
 rintro e w22 ⟨rfl, hb23⟩
 have T24 := Lib.hid (T15.out.below hb23 T15.out.lt)
 have T25 := Lib.hid (T16.out.below hb23 T16.out.lt)
 have T26 := Lib.hid (T17.out.below hb23 T17.out.lt)
 have F27 := Lib.hid (F18.out.below hb23 (Nat.le_refl _))
 have B28 := Lib.hid (B19.out.trans (hb23.mono B19.out.size))
 clear hb23
 have M32 := Lib.hid (T24.out.load)
 have C33 := Lib.hid ((show Calls Tryz.prog 21 #[.agg #[.slice b.A b.xs.length b.c]] w22 (fun e w' => ∃ m : MnA, e = .returned (.tuple #[.agg m.cs.toArray, .bool true]) ∧ m.m = MB ∧ m.Ok w' ∧ Below (w22).heap.size w22 w') from by have h := pof12_any b w22 (HLA.out _ B28.out) F27.out; unfold MofPost at h; rw [HIS.out] at h; exact h))
 go_wp2_with (first | ((with_reducible refine wpList_load_by (o := ⟨some 22, .load 24 (.tmp 4), _, _, _, _⟩) ?e1 24 (.tmp 4) ?e2 ⟨w.heap.size, 0, none⟩ ?e3 _ M32.out ?_); (case e1 => rfl); (case e2 => rfl); (case e3 => rfl)))
 refine C33.out.mono ?_
 rintro e w34 ⟨d29, rfl, hd30, hk31, hb35⟩
 have T36 := Lib.hid (T24.out.below hb35 T24.out.lt)
 have T37 := Lib.hid (T25.out.below hb35 T25.out.lt)
 have T38 := Lib.hid (T26.out.below hb35 T26.out.lt)
 have F39 := Lib.hid (F27.out.below hb35 (Nat.le_refl _))
 have B40 := Lib.hid (B28.out.trans (hb35.mono B28.out.size))
 clear hb35
 have E41 := Lib.hid (hd30)
 have F42 := Lib.hid (hk31)
 clear hd30 hk31
 have SZ42 := Lib.hid (mn_size F42.out)
 have SQ42 := Lib.hid (show mnA0.cs.toArray.size = d29.cs.toArray.size by rw [mnA0_size, List.size_toArray]; exact (MnA.len F42.out).symm)
 have SO42 := Lib.hid (mn_ones d29)
 have L44 := Lib.hid (MnA.len F42.out)
 have hb45 := (Below.refl w34.heap.size w34).alloc (Nat.le_refl _) (.cells d29.cs.toArray 29)
 have T46 := Lib.hid (RowAt.new w34 d29.cs.toArray 29)
 have T47 := Lib.hid (T36.out.below hb45 T36.out.lt)
 have T48 := Lib.hid (T37.out.below hb45 T37.out.lt)
 have T49 := Lib.hid (T38.out.below hb45 T38.out.lt)
 have F50 := Lib.hid (F39.out.below hb45 (Nat.le_refl _))
 have F51 := Lib.hid (F42.out.below hb45 (Nat.le_refl _))
 have B52 := Lib.hid (B40.out.trans (hb45.mono B40.out.size))
 clear hb45
 have cb2 := ClAt.c2 (show ClAt (w34.alloc (.cells d29.cs.toArray 29)) (w.heap.size + 1) c from T48.out)
 have HBD := Lib.hid (HBDX.out d29 E41.out)
 obtain ⟨hk1, hk2, hk3, hk4⟩ := HK.out d29 E41.out
 have K1 := Lib.hid hk1
 have K2 := Lib.hid hk2
 have K3 := Lib.hid hk3
 have K4 := Lib.hid hk4
 clear hk1 hk2 hk3 hk4
 obtain ⟨sm, hsm⟩ : ∃ v, (lineA d29.ls z).isSome = v := ⟨_, rfl⟩
 have HSM := Lib.hid hsm
 clear hsm
 have M56 := Lib.hid (T46.out.mn L44.out)
 have M57 := Lib.hid (T49.out.id LZ.out)
 have C58 := Lib.hid ((show Calls Tryz.prog 29 #[.agg d29.cs.toArray, .agg (bvals z)] (w34.alloc (.cells d29.cs.toArray 29)) (LineN (w34.alloc (.cells d29.cs.toArray 29)) (lineA d29.ls z)) from pline12_any d29 z (w34.alloc (.cells d29.cs.toArray 29)) F51.out HZ.out HBD.out))
 unfold LineN at C58
 rw [HSM.out] at C58
 go_wp2_with (first | ((with_reducible refine wpList_load_at (o := ⟨some 44, .load 29 (.tmp 11), _, _, _, _⟩) ?e1 29 (.tmp 11) ?e2 ⟨w34.heap.size, 0, none⟩ ?e3 _ M56.out ?_); (case e1 => rfl); (case e2 => rfl); (case e3 => rfl)) | ((with_reducible refine wpList_load_at (o := ⟨some 45, .load 31 (.tmp 6), _, _, _, _⟩) ?e1 31 (.tmp 6) ?e2 ⟨(w.heap.size + 1 + 1), 0, none⟩ ?e3 _ M57.out ?_); (case e1 => rfl); (case e2 => rfl); (case e3 => rfl)) | ((with_reducible refine wpList_store_new (o := ⟨none, .store 29 (.tmp 11) (.tmp 24), _, _, _, _⟩) ?e1 29 (.tmp 11) (.tmp 24) ?e2 ?e3 mnA0.cs.toArray d29.cs.toArray ?e4 SZ42.out SQ42.out SO42.out ?_); (case e1 => rfl); (case e2 => rfl); (case e3 => (first | rfl | exact congrArg (fun q => Value.pointer (some ⟨q, 0, none⟩)) (World.size_alloc _ _).symm)); (case e4 => rfl)))
 refine C58.out.mono ?_
 rintro e w59 ⟨d53, rfl, hd54, hk55, hb60⟩
 have T61 := Lib.hid (T47.out.below hb60 T47.out.lt)
 have T62 := Lib.hid (T48.out.below hb60 T48.out.lt)
 have T63 := Lib.hid (T49.out.below hb60 T49.out.lt)
 have T64 := Lib.hid (T46.out.below hb60 T46.out.lt)
 have F65 := Lib.hid (F50.out.below hb60 (Nat.le_refl _))
 have F66 := Lib.hid (F51.out.below hb60 (Nat.le_refl _))
 have B67 := Lib.hid (B52.out.trans (hb60.mono B52.out.size))
 clear hb60
 have E68 := Lib.hid (hd54)
 have F69 := Lib.hid (hk55)
 clear hd54 hk55
 clear cb2
 have SZ69 := Lib.hid (ln_size F69.out)
 have SQ69 := Lib.hid (show (KLn.cs lnA0).toArray.size = (KLn.cs d53).toArray.size by rw [lnA0_size, List.size_toArray]; exact (LnA.len F69.out).symm)
 have SO69 := Lib.hid (ln_ones d53)
 have L71 := Lib.hid (LnA.len F69.out)
 have hb72 := (Below.refl w59.heap.size w59).alloc (Nat.le_refl _) (.cells (KLn.cs d53).toArray 63)
 have T73 := Lib.hid (RowAt.new w59 (KLn.cs d53).toArray 63)
 have T74 := Lib.hid (T61.out.below hb72 T61.out.lt)
 have T75 := Lib.hid (T62.out.below hb72 T62.out.lt)
 have T76 := Lib.hid (T63.out.below hb72 T63.out.lt)
 have T77 := Lib.hid (T64.out.below hb72 T64.out.lt)
 have F78 := Lib.hid (F65.out.below hb72 (Nat.le_refl _))
 have F79 := Lib.hid (F66.out.below hb72 (Nat.le_refl _))
 have F80 := Lib.hid (F69.out.below hb72 (Nat.le_refl _))
 have B81 := Lib.hid (B67.out.trans (hb72.mono B67.out.size))
 clear hb72
 have M85 := Lib.hid (T77.out.mn L44.out)
 have M86 := Lib.hid (T76.out.id LZ.out)
 have C87 := Lib.hid ((show Calls Tryz.prog 30 #[.agg d29.cs.toArray, .agg (bvals z), .int .i64 no] (w59.alloc (.cells (KLn.cs d53).toArray 63)) (FindN (w59.alloc (.cells (KLn.cs d53).toArray 63)) (findA d29.ls z no)) from pfind12_any d29 z no (w59.alloc (.cells (KLn.cs d53).toArray 63)) F79.out HZ.out HBD.out))
 unfold FindN at C87
 rw [K3.out] at C87
 go_wp2_with (first | ((with_reducible refine wpList_load_at (o := ⟨some 50, .load 29 (.tmp 11), _, _, _, _⟩) ?e1 29 (.tmp 11) ?e2 ⟨w34.heap.size, 0, none⟩ ?e3 _ M85.out ?_); (case e1 => rfl); (case e2 => rfl); (case e3 => rfl)) | ((with_reducible refine wpList_load_at (o := ⟨some 51, .load 31 (.tmp 6), _, _, _, _⟩) ?e1 31 (.tmp 6) ?e2 ⟨(w.heap.size + 1 + 1), 0, none⟩ ?e3 _ M86.out ?_); (case e1 => rfl); (case e2 => rfl); (case e3 => rfl)) | ((with_reducible refine wpList_store_new (o := ⟨none, .store 63 (.tmp 13) (.tmp 47), _, _, _, _⟩) ?e1 63 (.tmp 13) (.tmp 47) ?e2 ?e3 (KLn.cs lnA0).toArray (KLn.cs d53).toArray ?e4 SZ69.out SQ69.out SO69.out ?_); (case e1 => rfl); (case e2 => rfl); (case e3 => (first | rfl | exact congrArg (fun q => Value.pointer (some ⟨q, 0, none⟩)) (World.size_alloc _ _).symm)); (case e4 => rfl)))
 refine C87.out.mono ?_
 rintro e w88 ⟨d82, rfl, hd83, hk84, hb89⟩
 have T90 := Lib.hid (T74.out.below hb89 T74.out.lt)
 have T91 := Lib.hid (T75.out.below hb89 T75.out.lt)
 have T92 := Lib.hid (T76.out.below hb89 T76.out.lt)
 have T93 := Lib.hid (T77.out.below hb89 T77.out.lt)
 have T94 := Lib.hid (T73.out.below hb89 T73.out.lt)
 have F95 := Lib.hid (F78.out.below hb89 (Nat.le_refl _))
 have F96 := Lib.hid (F79.out.below hb89 (Nat.le_refl _))
 have F97 := Lib.hid (F80.out.below hb89 (Nat.le_refl _))
 have B98 := Lib.hid (B81.out.trans (hb89.mono B81.out.size))
 clear hb89
 have E99 := Lib.hid (hd83)
 have F100 := Lib.hid (hk84)
 clear hd83 hk84
 have SZ100 := Lib.hid (en_size F100.out)
 have SQ100 := Lib.hid (show (KEn.cs enA0).toArray.size = (KEn.cs d82).toArray.size by rw [enA0_size, List.size_toArray]; exact (EnA.len F100.out).symm)
 have SO100 := Lib.hid (en_ones d82)
 have L102 := Lib.hid (EnA.len F100.out)
 have hb103 := (Below.refl w88.heap.size w88).alloc (Nat.le_refl _) (.cells (KEn.cs d82).toArray 68)
 have T104 := Lib.hid (RowAt.new w88 (KEn.cs d82).toArray 68)
 have T105 := Lib.hid (T90.out.below hb103 T90.out.lt)
 have T106 := Lib.hid (T91.out.below hb103 T91.out.lt)
 have T107 := Lib.hid (T92.out.below hb103 T92.out.lt)
 have T108 := Lib.hid (T93.out.below hb103 T93.out.lt)
 have T109 := Lib.hid (T94.out.below hb103 T94.out.lt)
 have F110 := Lib.hid (F95.out.below hb103 (Nat.le_refl _))
 have F111 := Lib.hid (F96.out.below hb103 (Nat.le_refl _))
 have F112 := Lib.hid (F97.out.below hb103 (Nat.le_refl _))
 have F113 := Lib.hid (F100.out.below hb103 (Nat.le_refl _))
 have B114 := Lib.hid (B98.out.trans (hb103.mono B98.out.size))
 clear hb103
 have GN := Lib.hid (show d53.n = dn from (congrArg Ln.n E68.out).trans K1.out)
 have GR := Lib.hid (show d53.r = dr from (congrArg Ln.r E68.out).trans K2.out)
 have EE := Lib.hid (E99.out.trans K4.out)
 have MC := Lib.hid (load_cl (show ClAt (w88.alloc (.cells (KEn.cs d82).toArray 68)) (w.heap.size + 1) c from T106.out))
 unfold Cel.v at MC
 have M115 := Lib.hid (T108.out.mn L44.out)
 have M116 := Lib.hid (T107.out.id LZ.out)
 have C117 := Lib.hid ((show Calls Tryz.prog 20 #[.agg #[.int .i64 c.n, .int .i64 c.r, .string c.s], .agg d29.cs.toArray, .agg (bvals z), .int .i64 no] (w88.alloc (.cells (KEn.cs d82).toArray 68)) (fun e w' => e = .returned (.bool false) ∧ Below ((w88.alloc (.cells (KEn.cs d82).toArray 68))).heap.size (w88.alloc (.cells (KEn.cs d82).toArray 68)) w') from by have h := pexc14_any c d29 z no (w88.alloc (.cells (KEn.cs d82).toArray 68)) (HLA.out _ B114.out) F111.out HZ.out (by have := HS3.out; omega) HBD.out; rw [E41.out, HV.out] at h; exact h))
 go_wp2_with (first | ((with_reducible refine wpList_load_at (o := ⟨some 57, .load 29 (.tmp 11), _, _, _, _⟩) ?e1 29 (.tmp 11) ?e2 ⟨w34.heap.size, 0, none⟩ ?e3 _ M115.out ?_); (case e1 => rfl); (case e2 => rfl); (case e3 => rfl)) | ((with_reducible refine wpList_load_at (o := ⟨some 58, .load 31 (.tmp 6), _, _, _, _⟩) ?e1 31 (.tmp 6) ?e2 ⟨(w.heap.size + 1 + 1), 0, none⟩ ?e3 _ M116.out ?_); (case e1 => rfl); (case e2 => rfl); (case e3 => rfl)) | ((with_reducible refine wpList_store_new (o := ⟨none, .store 68 (.tmp 15) (.tmp 54), _, _, _, _⟩) ?e1 68 (.tmp 15) (.tmp 54) ?e2 ?e3 (KEn.cs enA0).toArray (KEn.cs d82).toArray ?e4 SZ100.out SQ100.out SO100.out ?_); (case e1 => rfl); (case e2 => rfl); (case e3 => (first | rfl | exact congrArg (fun q => Value.pointer (some ⟨q, 0, none⟩)) (World.size_alloc _ _).symm)); (case e4 => rfl)) | ((with_reducible refine wpList_load_at (o := ⟨some 56, .load 38 (.tmp 5), _, _, _, _⟩) ?e1 38 (.tmp 5) ?e2 ⟨(w.heap.size + 1), 0, none⟩ ?e3 _ MC.out ?_); (case e1 => rfl); (case e2 => rfl); (case e3 => rfl)))
 refine C117.out.mono ?_
 rintro e w118 ⟨rfl, hb119⟩
 have T120 := Lib.hid (T105.out.below hb119 T105.out.lt)
 have T121 := Lib.hid (T106.out.below hb119 T106.out.lt)
 have T122 := Lib.hid (T107.out.below hb119 T107.out.lt)
 have T123 := Lib.hid (T108.out.below hb119 T108.out.lt)
 have T124 := Lib.hid (T109.out.below hb119 T109.out.lt)
 have T125 := Lib.hid (T104.out.below hb119 T104.out.lt)
 have F126 := Lib.hid (F110.out.below hb119 (Nat.le_refl _))
 have F127 := Lib.hid (F111.out.below hb119 (Nat.le_refl _))
 have F128 := Lib.hid (F112.out.below hb119 (Nat.le_refl _))
 have F129 := Lib.hid (F113.out.below hb119 (Nat.le_refl _))
 have B130 := Lib.hid (B114.out.trans (hb119.mono B114.out.size))
 clear hb119
 have ca16 := ln_c16 (Kind.at_blk (K := KLn) (x := d53) T124.out) F128.out.1
 rw [Nat.zero_add, GN.out] at ca16
 have ca17 := ln_c17 (Kind.at_blk (K := KLn) (x := d53) T124.out) F128.out.1
 rw [Nat.zero_add, GR.out] at ca17
 have cb0 := ClAt.c0 (show ClAt w118 (w.heap.size + 1) c from T121.out)
 have cb1 := ClAt.c1 (show ClAt w118 (w.heap.size + 1) c from T121.out)
 have C131 := Lib.hid (stLess_any dn dr c.n c.r w118)
 unfold st at C131
 rw [H1.out] at C131
 go_wp2_with fail
 refine C131.out.mono ?_
 rintro e w132 ⟨rfl, hb133⟩
 have T134 := Lib.hid (T120.out.below hb133 T120.out.lt)
 have T135 := Lib.hid (T121.out.below hb133 T121.out.lt)
 have T136 := Lib.hid (T122.out.below hb133 T122.out.lt)
 have T137 := Lib.hid (T123.out.below hb133 T123.out.lt)
 have T138 := Lib.hid (T124.out.below hb133 T124.out.lt)
 have T139 := Lib.hid (T125.out.below hb133 T125.out.lt)
 have F140 := Lib.hid (F126.out.below hb133 (Nat.le_refl _))
 have F141 := Lib.hid (F127.out.below hb133 (Nat.le_refl _))
 have F142 := Lib.hid (F128.out.below hb133 (Nat.le_refl _))
 have F143 := Lib.hid (F129.out.below hb133 (Nat.le_refl _))
 have B144 := Lib.hid (B130.out.trans (hb133.mono B130.out.size))
 clear hb133
 clear ca16 ca17 cb0 cb1
 have cc1 := en_c1 (Kind.at_blk (K := KEn) (x := d82) T139.out)
 rw [Nat.zero_add, EE.out] at cc1
 have cc2 := en_c2 (Kind.at_blk (K := KEn) (x := d82) T139.out)
 rw [Nat.zero_add, EE.out] at cc2
 have cb0 := ClAt.c0 (show ClAt w132 (w.heap.size + 1) c from T135.out)
 have cb1 := ClAt.c1 (show ClAt w132 (w.heap.size + 1) c from T135.out)
 have C145 := Lib.hid (stLess_any ee.n ee.r c.n c.r w132)
 unfold st at C145
 rw [H2.out] at C145
 go_wp2_with fail
 refine C145.out.mono ?_
 rintro e w146 ⟨rfl, hb147⟩
 have T148 := Lib.hid (T134.out.below hb147 T134.out.lt)
 have T149 := Lib.hid (T135.out.below hb147 T135.out.lt)
 have T150 := Lib.hid (T136.out.below hb147 T136.out.lt)
 have T151 := Lib.hid (T137.out.below hb147 T137.out.lt)
 have T152 := Lib.hid (T138.out.below hb147 T138.out.lt)
 have T153 := Lib.hid (T139.out.below hb147 T139.out.lt)
 have F154 := Lib.hid (F140.out.below hb147 (Nat.le_refl _))
 have F155 := Lib.hid (F141.out.below hb147 (Nat.le_refl _))
 have F156 := Lib.hid (F142.out.below hb147 (Nat.le_refl _))
 have F157 := Lib.hid (F143.out.below hb147 (Nat.le_refl _))
 have B158 := Lib.hid (B144.out.trans (hb147.mono B144.out.size))
 clear hb147
 clear cc1 cc2 cb0 cb1
 go_wp2
 go_ret
 exact ⟨rfl, B158.out⟩
set_option maxHeartbeats 16000000 in
theorem abs_E (b : Bk) (c : Cel) (z : List Int) (no : Int) (w : World) (hlaid : Laid w) (wb : BkAt w b) (wz : z.length = 16 ∧ AllBytes z) (p : fewB b.rs = true) (q : bmay b.rs = true) (h3 : c.s.size ≤ 300) (MB : Mn) (hMB : mof SH.sum (SH.sum (bbs b.rs)) b.rs = MB) (dn dr : Int) (ee : En) (hK : ∀ m : MnA, m.m = MB → ((lineA m.ls z).getD lnA0).x.n = dn ∧ ((lineA m.ls z).getD lnA0).x.r = dr ∧ (findA m.ls z no).isSome = true ∧ ((findA m.ls z no).getD enA0).e = ee) (hV : exc c MB z no = true) (h1 : stLess dn dr c.n c.r = true) (h2 : stLess ee.n ee.r c.n c.r = false) (h4 : decide (ee.n = c.n ∧ ee.r = c.r) = true) : Calls Tryz.prog 8 #[.agg #[.slice b.A b.xs.length b.c], .agg #[.int .i64 c.n, .int .i64 c.r, .string c.s], .agg (bvals z), .int .i64 no] w fun e w' => e = .returned (.bool true) ∧ Below w.heap.size w w' := by
 have HLA := Lib.hid (fun (X : World) (hX : Below w.heap.size w X) => hlaid.below hX (Nat.le_refl _))
 have Fb := Lib.hid wb
 have hzm := zeroMn
 rw [show mnA0.v = .agg mnA0.cs.toArray from rfl] at hzm
 have hzne : ¬ mnA0.cs.toArray = #[] := by decide
 have LZ := Lib.hid wz.1
 have HZ := Lib.hid wz
 have hze := zeroEn
 rw [show KEn.v enA0 = .agg (KEn.cs enA0).toArray from rfl] at hze
 have hzl := zeroLn
 rw [show KLn.v lnA0 = .agg (KLn.cs lnA0).toArray from rfl] at hzl
 have hzne1 : ¬ (KEn.cs enA0).toArray = #[] := by decide
 have hzne2 : ¬ (KLn.cs lnA0).toArray = #[] := by decide
 have hmofB : mofB b.rs = some MB := by rw [← hMB]; exact if_pos q
 have HIS := Lib.hid hmofB
 have HBDX := Lib.hid (fun (q9 : MnA) (h : q9.m = MB) => mmay_bd (m := q9) (by rw [h, ← hMB]; exact mof_may _ _ _ q))
 have HK := Lib.hid hK
 have HV := Lib.hid hV
 have HS3 := Lib.hid h3
 have H1 := Lib.hid h1
 have PB := Lib.hid p
 have hq3 : ¬ (300 : Int) < (c.s.size : Int) := by omega
 have H2 := Lib.hid h2
 clear h2
 have H3 := Lib.hid h4
 clear h4
 clear hlaid wb wz p q hMB hmofB hK hV h3 h1
 have B1 := Lib.hid (Below.refl w.heap.size w)
 have T2n := BoAt.new w (.slice b.A b.xs.length b.c)
 have T2 := Lib.hid T2n
 clear T2n
 have B3 := Lib.hid (B1.out.alloc B1.out.size (.cells #[(.slice b.A b.xs.length b.c)] 24))
 have T4 := Lib.hid (T2.out.old (.cells #[.int .i64 c.n, .int .i64 c.r, .string c.s] 38))
 have T5n := RowAt.new (w.alloc (.cells #[(.slice b.A b.xs.length b.c)] 24)) #[.int .i64 c.n, .int .i64 c.r, .string c.s] 38
 simp only [World.size_alloc] at T5n
 have T5 := Lib.hid T5n
 clear T5n
 have B6 := Lib.hid (B3.out.alloc B3.out.size (.cells #[.int .i64 c.n, .int .i64 c.r, .string c.s] 38))
 have T7 := Lib.hid (T4.out.old (.cells (bvals z) 31))
 have T8 := Lib.hid (T5.out.old (.cells (bvals z) 31))
 have T9n := RowAt.new ((w.alloc (.cells #[(.slice b.A b.xs.length b.c)] 24)).alloc (.cells #[.int .i64 c.n, .int .i64 c.r, .string c.s] 38)) (bvals z) 31
 simp only [World.size_alloc] at T9n
 have T9 := Lib.hid T9n
 clear T9n
 have B10 := Lib.hid (B6.out.alloc B6.out.size (.cells (bvals z) 31))
 have F11 := Lib.hid (Fb.out.below B10.out (Nat.le_refl _))
 go_enter Tryz.func8, Tryz.ntmps8
 have C12 := Lib.hid (abAwake (((w.alloc (.cells #[(.slice b.A b.xs.length b.c)] 24)).alloc (.cells #[.int .i64 c.n, .int .i64 c.r, .string c.s] 38)).alloc (.cells (bvals z) 31)) (HLA.out _ B10.out))
 go_wp2_with fail
 refine C12.out.mono ?_
 rintro e w13 ⟨rfl, hb14⟩
 have T15 := Lib.hid (T7.out.below hb14 T7.out.lt)
 have T16 := Lib.hid (T8.out.below hb14 T8.out.lt)
 have T17 := Lib.hid (T9.out.below hb14 T9.out.lt)
 have F18 := Lib.hid (F11.out.below hb14 (Nat.le_refl _))
 have B19 := Lib.hid (B10.out.trans (hb14.mono B10.out.size))
 clear hb14
 have M20 := Lib.hid (T15.out.load)
 have C21 := Lib.hid (fewB_any b w13 F18.out)
 rw [PB.out] at C21
 go_wp2_with (first | ((with_reducible refine wpList_load_by (o := ⟨some 19, .load 24 (.tmp 4), _, _, _, _⟩) ?e1 24 (.tmp 4) ?e2 ⟨w.heap.size, 0, none⟩ ?e3 _ M20.out ?_); (case e1 => rfl); (case e2 => rfl); (case e3 => rfl)))
 refine C21.out.mono ?_
 rintro e w22 ⟨rfl, hb23⟩
 have T24 := Lib.hid (T15.out.below hb23 T15.out.lt)
 have T25 := Lib.hid (T16.out.below hb23 T16.out.lt)
 have T26 := Lib.hid (T17.out.below hb23 T17.out.lt)
 have F27 := Lib.hid (F18.out.below hb23 (Nat.le_refl _))
 have B28 := Lib.hid (B19.out.trans (hb23.mono B19.out.size))
 clear hb23
 have M32 := Lib.hid (T24.out.load)
 have C33 := Lib.hid ((show Calls Tryz.prog 21 #[.agg #[.slice b.A b.xs.length b.c]] w22 (fun e w' => ∃ m : MnA, e = .returned (.tuple #[.agg m.cs.toArray, .bool true]) ∧ m.m = MB ∧ m.Ok w' ∧ Below (w22).heap.size w22 w') from by have h := pof12_any b w22 (HLA.out _ B28.out) F27.out; unfold MofPost at h; rw [HIS.out] at h; exact h))
 go_wp2_with (first | ((with_reducible refine wpList_load_by (o := ⟨some 22, .load 24 (.tmp 4), _, _, _, _⟩) ?e1 24 (.tmp 4) ?e2 ⟨w.heap.size, 0, none⟩ ?e3 _ M32.out ?_); (case e1 => rfl); (case e2 => rfl); (case e3 => rfl)))
 refine C33.out.mono ?_
 rintro e w34 ⟨d29, rfl, hd30, hk31, hb35⟩
 have T36 := Lib.hid (T24.out.below hb35 T24.out.lt)
 have T37 := Lib.hid (T25.out.below hb35 T25.out.lt)
 have T38 := Lib.hid (T26.out.below hb35 T26.out.lt)
 have F39 := Lib.hid (F27.out.below hb35 (Nat.le_refl _))
 have B40 := Lib.hid (B28.out.trans (hb35.mono B28.out.size))
 clear hb35
 have E41 := Lib.hid (hd30)
 have F42 := Lib.hid (hk31)
 clear hd30 hk31
 have SZ42 := Lib.hid (mn_size F42.out)
 have SQ42 := Lib.hid (show mnA0.cs.toArray.size = d29.cs.toArray.size by rw [mnA0_size, List.size_toArray]; exact (MnA.len F42.out).symm)
 have SO42 := Lib.hid (mn_ones d29)
 have L44 := Lib.hid (MnA.len F42.out)
 have hb45 := (Below.refl w34.heap.size w34).alloc (Nat.le_refl _) (.cells d29.cs.toArray 29)
 have T46 := Lib.hid (RowAt.new w34 d29.cs.toArray 29)
 have T47 := Lib.hid (T36.out.below hb45 T36.out.lt)
 have T48 := Lib.hid (T37.out.below hb45 T37.out.lt)
 have T49 := Lib.hid (T38.out.below hb45 T38.out.lt)
 have F50 := Lib.hid (F39.out.below hb45 (Nat.le_refl _))
 have F51 := Lib.hid (F42.out.below hb45 (Nat.le_refl _))
 have B52 := Lib.hid (B40.out.trans (hb45.mono B40.out.size))
 clear hb45
 have cb2 := ClAt.c2 (show ClAt (w34.alloc (.cells d29.cs.toArray 29)) (w.heap.size + 1) c from T48.out)
 have HBD := Lib.hid (HBDX.out d29 E41.out)
 obtain ⟨hk1, hk2, hk3, hk4⟩ := HK.out d29 E41.out
 have K1 := Lib.hid hk1
 have K2 := Lib.hid hk2
 have K3 := Lib.hid hk3
 have K4 := Lib.hid hk4
 clear hk1 hk2 hk3 hk4
 obtain ⟨sm, hsm⟩ : ∃ v, (lineA d29.ls z).isSome = v := ⟨_, rfl⟩
 have HSM := Lib.hid hsm
 clear hsm
 have M56 := Lib.hid (T46.out.mn L44.out)
 have M57 := Lib.hid (T49.out.id LZ.out)
 have C58 := Lib.hid ((show Calls Tryz.prog 29 #[.agg d29.cs.toArray, .agg (bvals z)] (w34.alloc (.cells d29.cs.toArray 29)) (LineN (w34.alloc (.cells d29.cs.toArray 29)) (lineA d29.ls z)) from pline12_any d29 z (w34.alloc (.cells d29.cs.toArray 29)) F51.out HZ.out HBD.out))
 unfold LineN at C58
 rw [HSM.out] at C58
 go_wp2_with (first | ((with_reducible refine wpList_load_at (o := ⟨some 44, .load 29 (.tmp 11), _, _, _, _⟩) ?e1 29 (.tmp 11) ?e2 ⟨w34.heap.size, 0, none⟩ ?e3 _ M56.out ?_); (case e1 => rfl); (case e2 => rfl); (case e3 => rfl)) | ((with_reducible refine wpList_load_at (o := ⟨some 45, .load 31 (.tmp 6), _, _, _, _⟩) ?e1 31 (.tmp 6) ?e2 ⟨(w.heap.size + 1 + 1), 0, none⟩ ?e3 _ M57.out ?_); (case e1 => rfl); (case e2 => rfl); (case e3 => rfl)) | ((with_reducible refine wpList_store_new (o := ⟨none, .store 29 (.tmp 11) (.tmp 24), _, _, _, _⟩) ?e1 29 (.tmp 11) (.tmp 24) ?e2 ?e3 mnA0.cs.toArray d29.cs.toArray ?e4 SZ42.out SQ42.out SO42.out ?_); (case e1 => rfl); (case e2 => rfl); (case e3 => (first | rfl | exact congrArg (fun q => Value.pointer (some ⟨q, 0, none⟩)) (World.size_alloc _ _).symm)); (case e4 => rfl)))
 refine C58.out.mono ?_
 rintro e w59 ⟨d53, rfl, hd54, hk55, hb60⟩
 have T61 := Lib.hid (T47.out.below hb60 T47.out.lt)
 have T62 := Lib.hid (T48.out.below hb60 T48.out.lt)
 have T63 := Lib.hid (T49.out.below hb60 T49.out.lt)
 have T64 := Lib.hid (T46.out.below hb60 T46.out.lt)
 have F65 := Lib.hid (F50.out.below hb60 (Nat.le_refl _))
 have F66 := Lib.hid (F51.out.below hb60 (Nat.le_refl _))
 have B67 := Lib.hid (B52.out.trans (hb60.mono B52.out.size))
 clear hb60
 have E68 := Lib.hid (hd54)
 have F69 := Lib.hid (hk55)
 clear hd54 hk55
 clear cb2
 have SZ69 := Lib.hid (ln_size F69.out)
 have SQ69 := Lib.hid (show (KLn.cs lnA0).toArray.size = (KLn.cs d53).toArray.size by rw [lnA0_size, List.size_toArray]; exact (LnA.len F69.out).symm)
 have SO69 := Lib.hid (ln_ones d53)
 have L71 := Lib.hid (LnA.len F69.out)
 have hb72 := (Below.refl w59.heap.size w59).alloc (Nat.le_refl _) (.cells (KLn.cs d53).toArray 63)
 have T73 := Lib.hid (RowAt.new w59 (KLn.cs d53).toArray 63)
 have T74 := Lib.hid (T61.out.below hb72 T61.out.lt)
 have T75 := Lib.hid (T62.out.below hb72 T62.out.lt)
 have T76 := Lib.hid (T63.out.below hb72 T63.out.lt)
 have T77 := Lib.hid (T64.out.below hb72 T64.out.lt)
 have F78 := Lib.hid (F65.out.below hb72 (Nat.le_refl _))
 have F79 := Lib.hid (F66.out.below hb72 (Nat.le_refl _))
 have F80 := Lib.hid (F69.out.below hb72 (Nat.le_refl _))
 have B81 := Lib.hid (B67.out.trans (hb72.mono B67.out.size))
 clear hb72
 have M85 := Lib.hid (T77.out.mn L44.out)
 have M86 := Lib.hid (T76.out.id LZ.out)
 have C87 := Lib.hid ((show Calls Tryz.prog 30 #[.agg d29.cs.toArray, .agg (bvals z), .int .i64 no] (w59.alloc (.cells (KLn.cs d53).toArray 63)) (FindN (w59.alloc (.cells (KLn.cs d53).toArray 63)) (findA d29.ls z no)) from pfind12_any d29 z no (w59.alloc (.cells (KLn.cs d53).toArray 63)) F79.out HZ.out HBD.out))
 unfold FindN at C87
 rw [K3.out] at C87
 go_wp2_with (first | ((with_reducible refine wpList_load_at (o := ⟨some 50, .load 29 (.tmp 11), _, _, _, _⟩) ?e1 29 (.tmp 11) ?e2 ⟨w34.heap.size, 0, none⟩ ?e3 _ M85.out ?_); (case e1 => rfl); (case e2 => rfl); (case e3 => rfl)) | ((with_reducible refine wpList_load_at (o := ⟨some 51, .load 31 (.tmp 6), _, _, _, _⟩) ?e1 31 (.tmp 6) ?e2 ⟨(w.heap.size + 1 + 1), 0, none⟩ ?e3 _ M86.out ?_); (case e1 => rfl); (case e2 => rfl); (case e3 => rfl)) | ((with_reducible refine wpList_store_new (o := ⟨none, .store 63 (.tmp 13) (.tmp 47), _, _, _, _⟩) ?e1 63 (.tmp 13) (.tmp 47) ?e2 ?e3 (KLn.cs lnA0).toArray (KLn.cs d53).toArray ?e4 SZ69.out SQ69.out SO69.out ?_); (case e1 => rfl); (case e2 => rfl); (case e3 => (first | rfl | exact congrArg (fun q => Value.pointer (some ⟨q, 0, none⟩)) (World.size_alloc _ _).symm)); (case e4 => rfl)))
 refine C87.out.mono ?_
 rintro e w88 ⟨d82, rfl, hd83, hk84, hb89⟩
 have T90 := Lib.hid (T74.out.below hb89 T74.out.lt)
 have T91 := Lib.hid (T75.out.below hb89 T75.out.lt)
 have T92 := Lib.hid (T76.out.below hb89 T76.out.lt)
 have T93 := Lib.hid (T77.out.below hb89 T77.out.lt)
 have T94 := Lib.hid (T73.out.below hb89 T73.out.lt)
 have F95 := Lib.hid (F78.out.below hb89 (Nat.le_refl _))
 have F96 := Lib.hid (F79.out.below hb89 (Nat.le_refl _))
 have F97 := Lib.hid (F80.out.below hb89 (Nat.le_refl _))
 have B98 := Lib.hid (B81.out.trans (hb89.mono B81.out.size))
 clear hb89
 have E99 := Lib.hid (hd83)
 have F100 := Lib.hid (hk84)
 clear hd83 hk84
 have SZ100 := Lib.hid (en_size F100.out)
 have SQ100 := Lib.hid (show (KEn.cs enA0).toArray.size = (KEn.cs d82).toArray.size by rw [enA0_size, List.size_toArray]; exact (EnA.len F100.out).symm)
 have SO100 := Lib.hid (en_ones d82)
 have L102 := Lib.hid (EnA.len F100.out)
 have hb103 := (Below.refl w88.heap.size w88).alloc (Nat.le_refl _) (.cells (KEn.cs d82).toArray 68)
 have T104 := Lib.hid (RowAt.new w88 (KEn.cs d82).toArray 68)
 have T105 := Lib.hid (T90.out.below hb103 T90.out.lt)
 have T106 := Lib.hid (T91.out.below hb103 T91.out.lt)
 have T107 := Lib.hid (T92.out.below hb103 T92.out.lt)
 have T108 := Lib.hid (T93.out.below hb103 T93.out.lt)
 have T109 := Lib.hid (T94.out.below hb103 T94.out.lt)
 have F110 := Lib.hid (F95.out.below hb103 (Nat.le_refl _))
 have F111 := Lib.hid (F96.out.below hb103 (Nat.le_refl _))
 have F112 := Lib.hid (F97.out.below hb103 (Nat.le_refl _))
 have F113 := Lib.hid (F100.out.below hb103 (Nat.le_refl _))
 have B114 := Lib.hid (B98.out.trans (hb103.mono B98.out.size))
 clear hb103
 have GN := Lib.hid (show d53.n = dn from (congrArg Ln.n E68.out).trans K1.out)
 have GR := Lib.hid (show d53.r = dr from (congrArg Ln.r E68.out).trans K2.out)
 have EE := Lib.hid (E99.out.trans K4.out)
 have MC := Lib.hid (load_cl (show ClAt (w88.alloc (.cells (KEn.cs d82).toArray 68)) (w.heap.size + 1) c from T106.out))
 unfold Cel.v at MC
 have M115 := Lib.hid (T108.out.mn L44.out)
 have M116 := Lib.hid (T107.out.id LZ.out)
 have C117 := Lib.hid ((show Calls Tryz.prog 20 #[.agg #[.int .i64 c.n, .int .i64 c.r, .string c.s], .agg d29.cs.toArray, .agg (bvals z), .int .i64 no] (w88.alloc (.cells (KEn.cs d82).toArray 68)) (fun e w' => e = .returned (.bool true) ∧ Below ((w88.alloc (.cells (KEn.cs d82).toArray 68))).heap.size (w88.alloc (.cells (KEn.cs d82).toArray 68)) w') from by have h := pexc14_any c d29 z no (w88.alloc (.cells (KEn.cs d82).toArray 68)) (HLA.out _ B114.out) F111.out HZ.out (by have := HS3.out; omega) HBD.out; rw [E41.out, HV.out] at h; exact h))
 go_wp2_with (first | ((with_reducible refine wpList_load_at (o := ⟨some 57, .load 29 (.tmp 11), _, _, _, _⟩) ?e1 29 (.tmp 11) ?e2 ⟨w34.heap.size, 0, none⟩ ?e3 _ M115.out ?_); (case e1 => rfl); (case e2 => rfl); (case e3 => rfl)) | ((with_reducible refine wpList_load_at (o := ⟨some 58, .load 31 (.tmp 6), _, _, _, _⟩) ?e1 31 (.tmp 6) ?e2 ⟨(w.heap.size + 1 + 1), 0, none⟩ ?e3 _ M116.out ?_); (case e1 => rfl); (case e2 => rfl); (case e3 => rfl)) | ((with_reducible refine wpList_store_new (o := ⟨none, .store 68 (.tmp 15) (.tmp 54), _, _, _, _⟩) ?e1 68 (.tmp 15) (.tmp 54) ?e2 ?e3 (KEn.cs enA0).toArray (KEn.cs d82).toArray ?e4 SZ100.out SQ100.out SO100.out ?_); (case e1 => rfl); (case e2 => rfl); (case e3 => (first | rfl | exact congrArg (fun q => Value.pointer (some ⟨q, 0, none⟩)) (World.size_alloc _ _).symm)); (case e4 => rfl)) | ((with_reducible refine wpList_load_at (o := ⟨some 56, .load 38 (.tmp 5), _, _, _, _⟩) ?e1 38 (.tmp 5) ?e2 ⟨(w.heap.size + 1), 0, none⟩ ?e3 _ MC.out ?_); (case e1 => rfl); (case e2 => rfl); (case e3 => rfl)))
 refine C117.out.mono ?_
 rintro e w118 ⟨rfl, hb119⟩
 have T120 := Lib.hid (T105.out.below hb119 T105.out.lt)
 have T121 := Lib.hid (T106.out.below hb119 T106.out.lt)
 have T122 := Lib.hid (T107.out.below hb119 T107.out.lt)
 have T123 := Lib.hid (T108.out.below hb119 T108.out.lt)
 have T124 := Lib.hid (T109.out.below hb119 T109.out.lt)
 have T125 := Lib.hid (T104.out.below hb119 T104.out.lt)
 have F126 := Lib.hid (F110.out.below hb119 (Nat.le_refl _))
 have F127 := Lib.hid (F111.out.below hb119 (Nat.le_refl _))
 have F128 := Lib.hid (F112.out.below hb119 (Nat.le_refl _))
 have F129 := Lib.hid (F113.out.below hb119 (Nat.le_refl _))
 have B130 := Lib.hid (B114.out.trans (hb119.mono B114.out.size))
 clear hb119
 have ca16 := ln_c16 (Kind.at_blk (K := KLn) (x := d53) T124.out) F128.out.1
 rw [Nat.zero_add, GN.out] at ca16
 have ca17 := ln_c17 (Kind.at_blk (K := KLn) (x := d53) T124.out) F128.out.1
 rw [Nat.zero_add, GR.out] at ca17
 have cb0 := ClAt.c0 (show ClAt w118 (w.heap.size + 1) c from T121.out)
 have cb1 := ClAt.c1 (show ClAt w118 (w.heap.size + 1) c from T121.out)
 have C131 := Lib.hid (stLess_any dn dr c.n c.r w118)
 unfold st at C131
 rw [H1.out] at C131
 go_wp2_with fail
 refine C131.out.mono ?_
 rintro e w132 ⟨rfl, hb133⟩
 have T134 := Lib.hid (T120.out.below hb133 T120.out.lt)
 have T135 := Lib.hid (T121.out.below hb133 T121.out.lt)
 have T136 := Lib.hid (T122.out.below hb133 T122.out.lt)
 have T137 := Lib.hid (T123.out.below hb133 T123.out.lt)
 have T138 := Lib.hid (T124.out.below hb133 T124.out.lt)
 have T139 := Lib.hid (T125.out.below hb133 T125.out.lt)
 have F140 := Lib.hid (F126.out.below hb133 (Nat.le_refl _))
 have F141 := Lib.hid (F127.out.below hb133 (Nat.le_refl _))
 have F142 := Lib.hid (F128.out.below hb133 (Nat.le_refl _))
 have F143 := Lib.hid (F129.out.below hb133 (Nat.le_refl _))
 have B144 := Lib.hid (B130.out.trans (hb133.mono B130.out.size))
 clear hb133
 clear ca16 ca17 cb0 cb1
 have cc1 := en_c1 (Kind.at_blk (K := KEn) (x := d82) T139.out)
 rw [Nat.zero_add, EE.out] at cc1
 have cc2 := en_c2 (Kind.at_blk (K := KEn) (x := d82) T139.out)
 rw [Nat.zero_add, EE.out] at cc2
 have cb0 := ClAt.c0 (show ClAt w132 (w.heap.size + 1) c from T135.out)
 have cb1 := ClAt.c1 (show ClAt w132 (w.heap.size + 1) c from T135.out)
 have C145 := Lib.hid (stLess_any ee.n ee.r c.n c.r w132)
 unfold st at C145
 rw [H2.out] at C145
 go_wp2_with fail
 refine C145.out.mono ?_
 rintro e w146 ⟨rfl, hb147⟩
 have T148 := Lib.hid (T134.out.below hb147 T134.out.lt)
 have T149 := Lib.hid (T135.out.below hb147 T135.out.lt)
 have T150 := Lib.hid (T136.out.below hb147 T136.out.lt)
 have T151 := Lib.hid (T137.out.below hb147 T137.out.lt)
 have T152 := Lib.hid (T138.out.below hb147 T138.out.lt)
 have T153 := Lib.hid (T139.out.below hb147 T139.out.lt)
 have F154 := Lib.hid (F140.out.below hb147 (Nat.le_refl _))
 have F155 := Lib.hid (F141.out.below hb147 (Nat.le_refl _))
 have F156 := Lib.hid (F142.out.below hb147 (Nat.le_refl _))
 have F157 := Lib.hid (F143.out.below hb147 (Nat.le_refl _))
 have B158 := Lib.hid (B144.out.trans (hb147.mono B144.out.size))
 clear hb147
 clear cc1 cc2 cb0 cb1
 have cc1 := en_c1 (Kind.at_blk (K := KEn) (x := d82) T153.out)
 rw [Nat.zero_add, EE.out] at cc1
 have cc2 := en_c2 (Kind.at_blk (K := KEn) (x := d82) T153.out)
 rw [Nat.zero_add, EE.out] at cc2
 have cb0 := ClAt.c0 (show ClAt w146 (w.heap.size + 1) c from T149.out)
 have cb1 := ClAt.c1 (show ClAt w146 (w.heap.size + 1) c from T149.out)
 have QE := Lib.hid (show (Op.equalIn 10000 33 (.agg #[.int .i64 ee.n, .int .i64 ee.r]) (.agg #[.int .i64 c.n, .int .i64 c.r])).run Tryz.prog w146 = .ok true w146 from by rw [eq_st, H3.out])
 go_wp2_with (first | ((with_reducible refine wpList_eqlM (o := ⟨some 86, .binOp .eql 33 (.tmp 83) (.tmp 85) 33, _, _, _, _⟩) ?e1 33 (.tmp 83) (.tmp 85) 33 ?e2 (xs := #[.int .i64 ee.n, .int .i64 ee.r]) (ys := #[.int .i64 c.n, .int .i64 c.r]) ?e3 ?e4 guardStM QE.out ?_); (case e1 => rfl); (case e2 => rfl); (case e3 => rfl); (case e4 => rfl)))
 go_ret
 exact ⟨rfl, B158.out⟩
theorem walk_aboveStamp (b : Bk) (c : Cel) (z : List Int) (no : Int) (w : World) (hlaid : Laid w) (wb : BkAt w b) (wc : IsCel c) (wz : z.length = 16 ∧ AllBytes z) (wno : (Lit.int .i64 no).wf = true) : Calls Tryz.prog 8 #[.agg #[.slice b.A b.xs.length b.c], .agg #[.int .i64 c.n, .int .i64 c.r, .string c.s], .agg (bvals z), .int .i64 no] w fun e w' => e = .returned (.bool true) ∧ Below w.heap.size w w' := by
 cases p : fewB b.rs with
 | false => exact abs_few b c z no w hlaid wb wz p _ rfl
 | true =>
  cases q : bmay b.rs with
  | false => exact abs_may b c z no w hlaid wb wz p (by rw [show mofB b.rs = none from if_neg (by rw [q]; decide)]; rfl)
  | true =>
   by_cases h3 : c.s.size ≤ 300
   ·obtain ⟨MB, hMB⟩ : ∃ M, mof SH.sum (SH.sum (bbs b.rs)) b.rs = M := ⟨_, rfl⟩
    have hx := fun (m : MnA) (h : m.m = MB) => exc_A c m z no
    have hl := fun (m : MnA) (h : m.m = MB) => show ((lineA m.ls z).getD lnA0).x.n = (ldead MB z).1 ∧ ((lineA m.ls z).getD lnA0).x.r = (ldead MB z).2 from by rw [← h, ldead_A]; exact ⟨rfl, rfl⟩
    have hf := fun (m : MnA) (h : m.m = MB) => show (findA m.ls z no).map (·.e) = mfind MB z no from by rw [findA_e, h]
    have hfs := fun (m : MnA) (h : m.m = MB) => show (findA m.ls z no).isSome = (mfind MB z no).isSome from by rw [← hf m h, Option.isSome_map]
    have hfe := fun (m : MnA) (h : m.m = MB) => show ((findA m.ls z no).getD enA0).e = (mfind MB z no).getD en0 from by rw [← hf m h]; cases findA m.ls z no <;> rfl
    have hE : exc c MB z no = (stLess (ldead MB z).1 (ldead MB z).2 c.n c.r && (match mfind MB z no with
     | none => true
     | some e => if e.n = c.n ∧ e.r = c.r then lessL e.ds (SH.sum (nums c.s)) else stLess e.n e.r c.n c.r)) := rfl
    clear hx
    cases h1 : stLess (ldead MB z).1 (ldead MB z).2 c.n c.r with
    | false =>
     rw [h1, Bool.false_and] at hE
     exact abs_A b c z no w hlaid wb wz p q h3 MB hMB _ _ _ _ (fun m h => ⟨(hl m h).1, (hl m h).2, hfs m h, hfe m h⟩) hE h1
    | true =>
     rw [h1, Bool.true_and] at hE
     cases hq : mfind MB z no with
     | none =>
      rw [hq] at hE hfs hfe
      exact abs_B b c z no w hlaid wb wz p q h3 MB hMB _ _ _ (fun m h => ⟨(hl m h).1, (hl m h).2, hfs m h, hfe m h⟩) hE h1
     | some e =>
      rw [hq] at hE hfs hfe
      dsimp only at hE
      have hK := fun (m : MnA) (h : m.m = MB) => And.intro (hl m h).1 (And.intro (hl m h).2 (And.intro (hfs m h) (hfe m h)))
      cases h2 : stLess e.n e.r c.n c.r with
      | true =>
       rw [if_neg (fun h9 => by rw [h9.1, h9.2] at h2; have := stLess_iff.1 h2; omega), h2] at hE
       exact abs_C b c z no w hlaid wb wz p q h3 MB hMB _ _ e hK hE h1 h2
      | false =>
       by_cases h9 : e.n = c.n ∧ e.r = c.r
       ·rw [if_pos h9] at hE
        cases hv : lessL e.ds (SH.sum (nums c.s)) with
        | false => exact abs_D b c z no w hlaid wb wz p q h3 MB hMB _ _ e hK (hE.trans hv) h1 h2
        | true => exact abs_E b c z no w hlaid wb wz p q h3 MB hMB _ _ e hK (hE.trans hv) h1 h2 (decide_eq_true h9)
       ·rw [if_neg h9, h2] at hE
        exact abs_D b c z no w hlaid wb wz p q h3 MB hMB _ _ e hK hE h1 h2
   ·exact abs_long b c z no w hlaid wb wz p (by rw [show mofB b.rs = some _ from if_pos q]; rfl) (by omega)
end
end Go.Proofs.YtnlhkpmgbpfjmaaGreatDoor
