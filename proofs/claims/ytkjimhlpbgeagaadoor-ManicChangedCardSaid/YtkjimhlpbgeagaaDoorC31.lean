import Derived.Test.YtkjimhlpbgeagaaDoorC0
import Derived.Test.YtkjimhlpbgeagaaDoorC27
/-
  What the functions that a law of this layer reaches answer, part 31. Nothing that was there is written.
-/
namespace Go.Proofs.YtkjimhlpbgeagaaDoor
set_option linter.unusedVariables false
set_option linter.unusedSimpArgs false
section
open Go.RowKit Go.Shelf WM
set_option maxRecDepth 100000
set_option maxHeartbeats 16000000 in
theorem mcc_not (m : MnA) (i c : Int) (w : World) (hlaid : Laid w) (wm : m.Ok w) (hc : 0 ≤ c ∧ c ≤ 255) (p : mfew m.m = true) (a : mmay m.m = false) :
  Calls Tryd.prog 4 #[.agg m.cs.toArray, .int .i64 i, .int .u8 c] w fun e w' => e = .returned (.bool true) ∧ Below w.heap.size w w' := by
 have HLA := Lib.hid (fun (X : World) (hX : Below w.heap.size w X) => hlaid.below hX (Nat.le_refl _))
 have Fm := Lib.hid wm
 have LM := Lib.hid (MnA.len wm)
 have GM := Lib.hid (mn_good wm)
 have hzm := zeroMn
 rw [show mnA0.v = .agg mnA0.cs.toArray from rfl] at hzm
 have hzne1 : ¬ mnA0.cs.toArray = #[] := by decide
 have PM := Lib.hid p
 have MM := Lib.hid a
 clear hlaid wm hc p a
 have B1 := Lib.hid (Below.refl w.heap.size w)
 have T2n := RowAt.new w m.cs.toArray 26
 have T2 := Lib.hid T2n
 clear T2n
 have B3 := Lib.hid (B1.out.alloc B1.out.size (.cells m.cs.toArray 26))
 have F4 := Lib.hid (Fm.out.below B3.out (Nat.le_refl _))
 go_enter Tryd.func4, Tryd.ntmps4
 have C5 := Lib.hid (mcAwake (w.alloc (.cells m.cs.toArray 26)) (HLA.out _ B3.out))
 go_wp2_with fail
 refine C5.out.mono ?_
 rintro e w6 ⟨rfl, hb7⟩
 have T8 := Lib.hid (T2.out.below hb7 T2.out.lt)
 have F9 := Lib.hid (F4.out.below hb7 (Nat.le_refl _))
 have B10 := Lib.hid (B3.out.trans (hb7.mono B3.out.size))
 clear hb7
 have M11 := Lib.hid (T8.out.mn LM.out)
 have C12 := Lib.hid (rfew12_any m w6 F9.out)
 rw [PM.out] at C12
 go_wp2_with (first | ((with_reducible refine wpList_load_at (o := ⟨some 19, .load 26 (.tmp 3), _, _, _, _⟩) ?e1 26 (.tmp 3) ?e2 ⟨w.heap.size, 0, none⟩ ?e3 _ M11.out ?_); (case e1 => rfl); (case e2 => rfl); (case e3 => rfl)))
 refine C12.out.mono ?_
 rintro e w13 ⟨rfl, hb14⟩
 have T15 := Lib.hid (T8.out.below hb14 T8.out.lt)
 have F16 := Lib.hid (F9.out.below hb14 (Nat.le_refl _))
 have B17 := Lib.hid (B10.out.trans (hb14.mono B10.out.size))
 clear hb14
 have M18 := Lib.hid (T15.out.mn LM.out)
 have C19 := Lib.hid (put13_any m w13 F16.out GM.out)
 unfold MPutPost at C19
 simp only [MM.out, Bool.false_eq_true, if_false] at C19
 go_wp2_with (first | ((with_reducible refine wpList_load_at (o := ⟨some 22, .load 26 (.tmp 3), _, _, _, _⟩) ?e1 26 (.tmp 3) ?e2 ⟨w.heap.size, 0, none⟩ ?e3 _ M18.out ?_); (case e1 => rfl); (case e2 => rfl); (case e3 => rfl)))
 refine C19.out.mono ?_
 rintro e w20 ⟨rfl, hb21⟩
 have T22 := Lib.hid (T15.out.below hb21 T15.out.lt)
 have F23 := Lib.hid (F16.out.below hb21 (Nat.le_refl _))
 have B24 := Lib.hid (B17.out.trans (hb21.mono B17.out.size))
 clear hb21
 go_wp2
 go_ret
 exact ⟨rfl, B24.out⟩
set_option maxHeartbeats 16000000 in
theorem mcc_nof (m : MnA) (i c : Int) (w : World) (hlaid : Laid w) (wm : m.Ok w) (hc : 0 ≤ c ∧ c ≤ 255) (p : mfew m.m = false) (a : mmay m.m = false) :
  Calls Tryd.prog 4 #[.agg m.cs.toArray, .int .i64 i, .int .u8 c] w fun e w' => e = .returned (.bool true) ∧ Below w.heap.size w w' := by
 have HLA := Lib.hid (fun (X : World) (hX : Below w.heap.size w X) => hlaid.below hX (Nat.le_refl _))
 have Fm := Lib.hid wm
 have LM := Lib.hid (MnA.len wm)
 have GM := Lib.hid (mn_good wm)
 have hzm := zeroMn
 rw [show mnA0.v = .agg mnA0.cs.toArray from rfl] at hzm
 have hzne1 : ¬ mnA0.cs.toArray = #[] := by decide
 have PM := Lib.hid p
 have MM := Lib.hid a
 clear hlaid wm hc p a
 have B1 := Lib.hid (Below.refl w.heap.size w)
 have T2n := RowAt.new w m.cs.toArray 26
 have T2 := Lib.hid T2n
 clear T2n
 have B3 := Lib.hid (B1.out.alloc B1.out.size (.cells m.cs.toArray 26))
 have F4 := Lib.hid (Fm.out.below B3.out (Nat.le_refl _))
 go_enter Tryd.func4, Tryd.ntmps4
 have C5 := Lib.hid (mcAwake (w.alloc (.cells m.cs.toArray 26)) (HLA.out _ B3.out))
 go_wp2_with fail
 refine C5.out.mono ?_
 rintro e w6 ⟨rfl, hb7⟩
 have T8 := Lib.hid (T2.out.below hb7 T2.out.lt)
 have F9 := Lib.hid (F4.out.below hb7 (Nat.le_refl _))
 have B10 := Lib.hid (B3.out.trans (hb7.mono B3.out.size))
 clear hb7
 have M11 := Lib.hid (T8.out.mn LM.out)
 have C12 := Lib.hid (rfew12_any m w6 F9.out)
 rw [PM.out] at C12
 go_wp2_with (first | ((with_reducible refine wpList_load_at (o := ⟨some 19, .load 26 (.tmp 3), _, _, _, _⟩) ?e1 26 (.tmp 3) ?e2 ⟨w.heap.size, 0, none⟩ ?e3 _ M11.out ?_); (case e1 => rfl); (case e2 => rfl); (case e3 => rfl)))
 refine C12.out.mono ?_
 rintro e w13 ⟨rfl, hb14⟩
 have T15 := Lib.hid (T8.out.below hb14 T8.out.lt)
 have F16 := Lib.hid (F9.out.below hb14 (Nat.le_refl _))
 have B17 := Lib.hid (B10.out.trans (hb14.mono B10.out.size))
 clear hb14
 have M18 := Lib.hid (T15.out.mn LM.out)
 have C19 := Lib.hid (put13_any m w13 F16.out GM.out)
 unfold MPutPost at C19
 simp only [MM.out, Bool.false_eq_true, if_false] at C19
 go_wp2_with (first | ((with_reducible refine wpList_load_at (o := ⟨some 22, .load 26 (.tmp 3), _, _, _, _⟩) ?e1 26 (.tmp 3) ?e2 ⟨w.heap.size, 0, none⟩ ?e3 _ M18.out ?_); (case e1 => rfl); (case e2 => rfl); (case e3 => rfl)))
 refine C19.out.mono ?_
 rintro e w20 ⟨rfl, hb21⟩
 have T22 := Lib.hid (T15.out.below hb21 T15.out.lt)
 have F23 := Lib.hid (F16.out.below hb21 (Nat.le_refl _))
 have B24 := Lib.hid (B17.out.trans (hb21.mono B17.out.size))
 clear hb21
 go_wp2
 go_ret
 exact ⟨rfl, B24.out⟩
set_option maxHeartbeats 16000000 in
theorem mcc_few (m : MnA) (i c : Int) (w : World) (hlaid : Laid w) (wm : m.Ok w) (hc : 0 ≤ c ∧ c ≤ 255) (p : mfew m.m = false) (a : mmay m.m = true) :
  Calls Tryd.prog 4 #[.agg m.cs.toArray, .int .i64 i, .int .u8 c] w fun e w' => e = .returned (.bool true) ∧ Below w.heap.size w w' := by
 have HLA := Lib.hid (fun (X : World) (hX : Below w.heap.size w X) => hlaid.below hX (Nat.le_refl _))
 have Fm := Lib.hid wm
 have LM := Lib.hid (MnA.len wm)
 have GM := Lib.hid (mn_good wm)
 have hzm := zeroMn
 rw [show mnA0.v = .agg mnA0.cs.toArray from rfl] at hzm
 have hzne1 : ¬ mnA0.cs.toArray = #[] := by decide
 have PM := Lib.hid p
 have MM := Lib.hid a
 have hw1 := mmay_wf a (mn_good wm)
 have HZB := Lib.hid (pack_bytes (k := 1) (by decide) (by decide) (mnB_ok hw1).1)
 have HZ9 := Lib.hid (show (packL 1 (mnB m.m)).length ≤ 200000 by have h1 := pack_len 1 (mnB m.m); have h2 := (mnB_ok hw1).2; have h3 := enc_len (mnB m.m).length; omega)
 have HZ39 := Lib.hid (mput_least hw1)
 obtain ⟨Z, hZ⟩ : ∃ Z, packL 1 (mnB m.m) = Z := ⟨_, rfl⟩
 have HZ := Lib.hid hZ
 rw [hZ] at HZB HZ9 HZ39
 clear hlaid wm hc p a hw1 hZ
 have B1 := Lib.hid (Below.refl w.heap.size w)
 have T2n := RowAt.new w m.cs.toArray 26
 have T2 := Lib.hid T2n
 clear T2n
 have B3 := Lib.hid (B1.out.alloc B1.out.size (.cells m.cs.toArray 26))
 have F4 := Lib.hid (Fm.out.below B3.out (Nat.le_refl _))
 go_enter Tryd.func4, Tryd.ntmps4
 have C5 := Lib.hid (mcAwake (w.alloc (.cells m.cs.toArray 26)) (HLA.out _ B3.out))
 go_wp2_with fail
 refine C5.out.mono ?_
 rintro e w6 ⟨rfl, hb7⟩
 have T8 := Lib.hid (T2.out.below hb7 T2.out.lt)
 have F9 := Lib.hid (F4.out.below hb7 (Nat.le_refl _))
 have B10 := Lib.hid (B3.out.trans (hb7.mono B3.out.size))
 clear hb7
 have M11 := Lib.hid (T8.out.mn LM.out)
 have C12 := Lib.hid (rfew12_any m w6 F9.out)
 rw [PM.out] at C12
 go_wp2_with (first | ((with_reducible refine wpList_load_at (o := ⟨some 19, .load 26 (.tmp 3), _, _, _, _⟩) ?e1 26 (.tmp 3) ?e2 ⟨w.heap.size, 0, none⟩ ?e3 _ M11.out ?_); (case e1 => rfl); (case e2 => rfl); (case e3 => rfl)))
 refine C12.out.mono ?_
 rintro e w13 ⟨rfl, hb14⟩
 have T15 := Lib.hid (T8.out.below hb14 T8.out.lt)
 have F16 := Lib.hid (F9.out.below hb14 (Nat.le_refl _))
 have B17 := Lib.hid (B10.out.trans (hb14.mono B10.out.size))
 clear hb14
 have M22 := Lib.hid (T15.out.mn LM.out)
 have C23 := Lib.hid (put13_any m w13 F16.out GM.out)
 unfold MPutPost at C23
 simp only [MM.out, if_true] at C23
 unfold GivesT at C23
 rw [HZ.out] at C23
 go_wp2_with (first | ((with_reducible refine wpList_load_at (o := ⟨some 22, .load 26 (.tmp 3), _, _, _, _⟩) ?e1 26 (.tmp 3) ?e2 ⟨w.heap.size, 0, none⟩ ?e3 _ M22.out ?_); (case e1 => rfl); (case e2 => rfl); (case e3 => rfl)))
 refine C23.out.mono ?_
 rintro e w24 ⟨A1, n1, c1, rfl, hn18, h19, h20, ho21, hb25⟩
 have T26 := Lib.hid (T15.out.below hb25 T15.out.lt)
 have F27 := Lib.hid (F16.out.below hb25 (Nat.le_refl _))
 have B28 := Lib.hid (B17.out.trans (hb25.mono B17.out.size))
 clear hb25
 have Y29 := Lib.hid (BsAt.own ho21)
 have N30 := Lib.hid (hn18)
 have N31 := Lib.hid (And.intro h19 h20)
 clear hn18 h19 h20 ho21
 have t39 : (39 : Int) ≤ (n1 : Int) := by have h1 := N30.out; have h2 := HZ39.out; omega
 go_wp2
 go_ret
 exact ⟨rfl, B28.out⟩
set_option maxHeartbeats 16000000 in
theorem mcc_neg (m : MnA) (i c : Int) (w : World) (hlaid : Laid w) (wm : m.Ok w) (hc : 0 ≤ c ∧ c ≤ 255) (p : mfew m.m = true) (a : mmay m.m = true) (hneg : i < 0) :
  Calls Tryd.prog 4 #[.agg m.cs.toArray, .int .i64 i, .int .u8 c] w fun e w' => e = .returned (.bool true) ∧ Below w.heap.size w w' := by
 have HLA := Lib.hid (fun (X : World) (hX : Below w.heap.size w X) => hlaid.below hX (Nat.le_refl _))
 have Fm := Lib.hid wm
 have LM := Lib.hid (MnA.len wm)
 have GM := Lib.hid (mn_good wm)
 have hzm := zeroMn
 rw [show mnA0.v = .agg mnA0.cs.toArray from rfl] at hzm
 have hzne1 : ¬ mnA0.cs.toArray = #[] := by decide
 have PM := Lib.hid p
 have MM := Lib.hid a
 have hw1 := mmay_wf a (mn_good wm)
 have HZB := Lib.hid (pack_bytes (k := 1) (by decide) (by decide) (mnB_ok hw1).1)
 have HZ9 := Lib.hid (show (packL 1 (mnB m.m)).length ≤ 200000 by have h1 := pack_len 1 (mnB m.m); have h2 := (mnB_ok hw1).2; have h3 := enc_len (mnB m.m).length; omega)
 have HZ39 := Lib.hid (mput_least hw1)
 obtain ⟨Z, hZ⟩ : ∃ Z, packL 1 (mnB m.m) = Z := ⟨_, rfl⟩
 have HZ := Lib.hid hZ
 rw [hZ] at HZB HZ9 HZ39
 clear hlaid wm hc p a hw1 hZ
 have B1 := Lib.hid (Below.refl w.heap.size w)
 have T2n := RowAt.new w m.cs.toArray 26
 have T2 := Lib.hid T2n
 clear T2n
 have B3 := Lib.hid (B1.out.alloc B1.out.size (.cells m.cs.toArray 26))
 have F4 := Lib.hid (Fm.out.below B3.out (Nat.le_refl _))
 go_enter Tryd.func4, Tryd.ntmps4
 have C5 := Lib.hid (mcAwake (w.alloc (.cells m.cs.toArray 26)) (HLA.out _ B3.out))
 go_wp2_with fail
 refine C5.out.mono ?_
 rintro e w6 ⟨rfl, hb7⟩
 have T8 := Lib.hid (T2.out.below hb7 T2.out.lt)
 have F9 := Lib.hid (F4.out.below hb7 (Nat.le_refl _))
 have B10 := Lib.hid (B3.out.trans (hb7.mono B3.out.size))
 clear hb7
 have M11 := Lib.hid (T8.out.mn LM.out)
 have C12 := Lib.hid (rfew12_any m w6 F9.out)
 rw [PM.out] at C12
 go_wp2_with (first | ((with_reducible refine wpList_load_at (o := ⟨some 19, .load 26 (.tmp 3), _, _, _, _⟩) ?e1 26 (.tmp 3) ?e2 ⟨w.heap.size, 0, none⟩ ?e3 _ M11.out ?_); (case e1 => rfl); (case e2 => rfl); (case e3 => rfl)))
 refine C12.out.mono ?_
 rintro e w13 ⟨rfl, hb14⟩
 have T15 := Lib.hid (T8.out.below hb14 T8.out.lt)
 have F16 := Lib.hid (F9.out.below hb14 (Nat.le_refl _))
 have B17 := Lib.hid (B10.out.trans (hb14.mono B10.out.size))
 clear hb14
 have M22 := Lib.hid (T15.out.mn LM.out)
 have C23 := Lib.hid (put13_any m w13 F16.out GM.out)
 unfold MPutPost at C23
 simp only [MM.out, if_true] at C23
 unfold GivesT at C23
 rw [HZ.out] at C23
 go_wp2_with (first | ((with_reducible refine wpList_load_at (o := ⟨some 22, .load 26 (.tmp 3), _, _, _, _⟩) ?e1 26 (.tmp 3) ?e2 ⟨w.heap.size, 0, none⟩ ?e3 _ M22.out ?_); (case e1 => rfl); (case e2 => rfl); (case e3 => rfl)))
 refine C23.out.mono ?_
 rintro e w24 ⟨A1, n1, c1, rfl, hn18, h19, h20, ho21, hb25⟩
 have T26 := Lib.hid (T15.out.below hb25 T15.out.lt)
 have F27 := Lib.hid (F16.out.below hb25 (Nat.le_refl _))
 have B28 := Lib.hid (B17.out.trans (hb25.mono B17.out.size))
 clear hb25
 have Y29 := Lib.hid (BsAt.own ho21)
 have N30 := Lib.hid (hn18)
 have N31 := Lib.hid (And.intro h19 h20)
 clear hn18 h19 h20 ho21
 have t39 : (39 : Int) ≤ (n1 : Int) := by have h1 := N30.out; have h2 := HZ39.out; omega
 go_wp2
 go_ret
 exact ⟨rfl, B28.out⟩
set_option maxHeartbeats 16000000 in
theorem mcc_far (m : MnA) (i c : Int) (w : World) (hlaid : Laid w) (wm : m.Ok w) (hc : 0 ≤ c ∧ c ≤ 255) (p : mfew m.m = true) (a : mmay m.m = true) (hfar : ((packL 1 (mnB m.m)).length : Int) ≤ i) (hnn : 0 ≤ i) :
  Calls Tryd.prog 4 #[.agg m.cs.toArray, .int .i64 i, .int .u8 c] w fun e w' => e = .returned (.bool true) ∧ Below w.heap.size w w' := by
 have HLA := Lib.hid (fun (X : World) (hX : Below w.heap.size w X) => hlaid.below hX (Nat.le_refl _))
 have Fm := Lib.hid wm
 have LM := Lib.hid (MnA.len wm)
 have GM := Lib.hid (mn_good wm)
 have hzm := zeroMn
 rw [show mnA0.v = .agg mnA0.cs.toArray from rfl] at hzm
 have hzne1 : ¬ mnA0.cs.toArray = #[] := by decide
 have PM := Lib.hid p
 have MM := Lib.hid a
 have hw1 := mmay_wf a (mn_good wm)
 have HZB := Lib.hid (pack_bytes (k := 1) (by decide) (by decide) (mnB_ok hw1).1)
 have HZ9 := Lib.hid (show (packL 1 (mnB m.m)).length ≤ 200000 by have h1 := pack_len 1 (mnB m.m); have h2 := (mnB_ok hw1).2; have h3 := enc_len (mnB m.m).length; omega)
 have HZ39 := Lib.hid (mput_least hw1)
 have HFAR := Lib.hid hfar
 obtain ⟨Z, hZ⟩ : ∃ Z, packL 1 (mnB m.m) = Z := ⟨_, rfl⟩
 have HZ := Lib.hid hZ
 rw [hZ] at HZB HZ9 HZ39 HFAR
 clear hlaid wm hc p a hw1 hZ hfar
 have B1 := Lib.hid (Below.refl w.heap.size w)
 have T2n := RowAt.new w m.cs.toArray 26
 have T2 := Lib.hid T2n
 clear T2n
 have B3 := Lib.hid (B1.out.alloc B1.out.size (.cells m.cs.toArray 26))
 have F4 := Lib.hid (Fm.out.below B3.out (Nat.le_refl _))
 go_enter Tryd.func4, Tryd.ntmps4
 have C5 := Lib.hid (mcAwake (w.alloc (.cells m.cs.toArray 26)) (HLA.out _ B3.out))
 go_wp2_with fail
 refine C5.out.mono ?_
 rintro e w6 ⟨rfl, hb7⟩
 have T8 := Lib.hid (T2.out.below hb7 T2.out.lt)
 have F9 := Lib.hid (F4.out.below hb7 (Nat.le_refl _))
 have B10 := Lib.hid (B3.out.trans (hb7.mono B3.out.size))
 clear hb7
 have M11 := Lib.hid (T8.out.mn LM.out)
 have C12 := Lib.hid (rfew12_any m w6 F9.out)
 rw [PM.out] at C12
 go_wp2_with (first | ((with_reducible refine wpList_load_at (o := ⟨some 19, .load 26 (.tmp 3), _, _, _, _⟩) ?e1 26 (.tmp 3) ?e2 ⟨w.heap.size, 0, none⟩ ?e3 _ M11.out ?_); (case e1 => rfl); (case e2 => rfl); (case e3 => rfl)))
 refine C12.out.mono ?_
 rintro e w13 ⟨rfl, hb14⟩
 have T15 := Lib.hid (T8.out.below hb14 T8.out.lt)
 have F16 := Lib.hid (F9.out.below hb14 (Nat.le_refl _))
 have B17 := Lib.hid (B10.out.trans (hb14.mono B10.out.size))
 clear hb14
 have M22 := Lib.hid (T15.out.mn LM.out)
 have C23 := Lib.hid (put13_any m w13 F16.out GM.out)
 unfold MPutPost at C23
 simp only [MM.out, if_true] at C23
 unfold GivesT at C23
 rw [HZ.out] at C23
 go_wp2_with (first | ((with_reducible refine wpList_load_at (o := ⟨some 22, .load 26 (.tmp 3), _, _, _, _⟩) ?e1 26 (.tmp 3) ?e2 ⟨w.heap.size, 0, none⟩ ?e3 _ M22.out ?_); (case e1 => rfl); (case e2 => rfl); (case e3 => rfl)))
 refine C23.out.mono ?_
 rintro e w24 ⟨A1, n1, c1, rfl, hn18, h19, h20, ho21, hb25⟩
 have T26 := Lib.hid (T15.out.below hb25 T15.out.lt)
 have F27 := Lib.hid (F16.out.below hb25 (Nat.le_refl _))
 have B28 := Lib.hid (B17.out.trans (hb25.mono B17.out.size))
 clear hb25
 have Y29 := Lib.hid (BsAt.own ho21)
 have N30 := Lib.hid (hn18)
 have N31 := Lib.hid (And.intro h19 h20)
 clear hn18 h19 h20 ho21
 have t39 : (39 : Int) ≤ (n1 : Int) := by have h1 := N30.out; have h2 := HZ39.out; omega
 have t40 : (n1 : Int) ≤ i := by have h1 := N30.out; have h2 := HFAR.out; omega
 have t41 : ¬ i < 0 := by omega
 go_wp2
 go_ret
 exact ⟨rfl, B28.out⟩
set_option maxHeartbeats 16000000 in
theorem mcc_same (m : MnA) (j : Nat) (c : Int) (w : World) (hlaid : Laid w) (wm : m.Ok w) (hc : 0 ≤ c ∧ c ≤ 255) (p : mfew m.m = true) (a : mmay m.m = true) (hj : j < (packL 1 (mnB m.m)).length) (hx : (packL 1 (mnB m.m)).getD j 0 = c) :
  Calls Tryd.prog 4 #[.agg m.cs.toArray, .int .i64 j, .int .u8 c] w fun e w' => e = .returned (.bool true) ∧ Below w.heap.size w w' := by
 have HLA := Lib.hid (fun (X : World) (hX : Below w.heap.size w X) => hlaid.below hX (Nat.le_refl _))
 have Fm := Lib.hid wm
 have LM := Lib.hid (MnA.len wm)
 have GM := Lib.hid (mn_good wm)
 have hzm := zeroMn
 rw [show mnA0.v = .agg mnA0.cs.toArray from rfl] at hzm
 have hzne1 : ¬ mnA0.cs.toArray = #[] := by decide
 have PM := Lib.hid p
 have MM := Lib.hid a
 have hw1 := mmay_wf a (mn_good wm)
 have HZB := Lib.hid (pack_bytes (k := 1) (by decide) (by decide) (mnB_ok hw1).1)
 have HZ9 := Lib.hid (show (packL 1 (mnB m.m)).length ≤ 200000 by have h1 := pack_len 1 (mnB m.m); have h2 := (mnB_ok hw1).2; have h3 := enc_len (mnB m.m).length; omega)
 have HZ39 := Lib.hid (mput_least hw1)
 have HJZ := Lib.hid hj
 have HMO := Lib.hid (mget_more hw1 c)
 have HML := Lib.hid (mget_less hw1 hj)
 have HCB := Lib.hid (show AllBytes [c] from fun z hz => by rw [List.mem_singleton.1 hz]; exact hc)
 have HX := Lib.hid hx
 obtain ⟨Z, hZ⟩ : ∃ Z, packL 1 (mnB m.m) = Z := ⟨_, rfl⟩
 have HZ := Lib.hid hZ
 rw [hZ] at HZB HZ9 HZ39 HJZ HMO HML HX
 clear hlaid wm hc p a hw1 hZ hj hx
 have B1 := Lib.hid (Below.refl w.heap.size w)
 have T2n := RowAt.new w m.cs.toArray 26
 have T2 := Lib.hid T2n
 clear T2n
 have B3 := Lib.hid (B1.out.alloc B1.out.size (.cells m.cs.toArray 26))
 have F4 := Lib.hid (Fm.out.below B3.out (Nat.le_refl _))
 go_enter Tryd.func4, Tryd.ntmps4
 have C5 := Lib.hid (mcAwake (w.alloc (.cells m.cs.toArray 26)) (HLA.out _ B3.out))
 go_wp2_with fail
 refine C5.out.mono ?_
 rintro e w6 ⟨rfl, hb7⟩
 have T8 := Lib.hid (T2.out.below hb7 T2.out.lt)
 have F9 := Lib.hid (F4.out.below hb7 (Nat.le_refl _))
 have B10 := Lib.hid (B3.out.trans (hb7.mono B3.out.size))
 clear hb7
 have M11 := Lib.hid (T8.out.mn LM.out)
 have C12 := Lib.hid (rfew12_any m w6 F9.out)
 rw [PM.out] at C12
 go_wp2_with (first | ((with_reducible refine wpList_load_at (o := ⟨some 19, .load 26 (.tmp 3), _, _, _, _⟩) ?e1 26 (.tmp 3) ?e2 ⟨w.heap.size, 0, none⟩ ?e3 _ M11.out ?_); (case e1 => rfl); (case e2 => rfl); (case e3 => rfl)))
 refine C12.out.mono ?_
 rintro e w13 ⟨rfl, hb14⟩
 have T15 := Lib.hid (T8.out.below hb14 T8.out.lt)
 have F16 := Lib.hid (F9.out.below hb14 (Nat.le_refl _))
 have B17 := Lib.hid (B10.out.trans (hb14.mono B10.out.size))
 clear hb14
 have M22 := Lib.hid (T15.out.mn LM.out)
 have C23 := Lib.hid (put13_any m w13 F16.out GM.out)
 unfold MPutPost at C23
 simp only [MM.out, if_true] at C23
 unfold GivesT at C23
 rw [HZ.out] at C23
 go_wp2_with (first | ((with_reducible refine wpList_load_at (o := ⟨some 22, .load 26 (.tmp 3), _, _, _, _⟩) ?e1 26 (.tmp 3) ?e2 ⟨w.heap.size, 0, none⟩ ?e3 _ M22.out ?_); (case e1 => rfl); (case e2 => rfl); (case e3 => rfl)))
 refine C23.out.mono ?_
 rintro e w24 ⟨A1, n1, c1, rfl, hn18, h19, h20, ho21, hb25⟩
 have T26 := Lib.hid (T15.out.below hb25 T15.out.lt)
 have F27 := Lib.hid (F16.out.below hb25 (Nat.le_refl _))
 have B28 := Lib.hid (B17.out.trans (hb25.mono B17.out.size))
 clear hb25
 have Y29 := Lib.hid (BsAt.own ho21)
 have N30 := Lib.hid (hn18)
 have N31 := Lib.hid (And.intro h19 h20)
 clear hn18 h19 h20 ho21
 obtain ⟨b0, o0, hA1, _, _⟩ := Y29.out.1 (fun e => by have h2 := HZ39.out; rw [e] at h2; simp at h2)
 subst hA1
 have HN9 := Lib.hid (show n1 ≤ 200000 by rw [← N30.out]; exact HZ9.out)
 have t39 : ¬ (n1 : Int) < 39 := by have h1 := N30.out; have h2 := HZ39.out; omega
 have HJ := Lib.hid (show j < n1 by rw [← N30.out]; exact HJZ.out)
 have t40 : ¬ (n1 : Int) ≤ (j : Int) := by have := HJ.out; omega
 have t41 : ¬ (j : Int) < 0 := by omega
 obtain ⟨i0, hi, hz0, hz1, hz2⟩ := info_parts infoByte
 go_wp2_with (first | (at_builtin; refine wpList_append_byt (o := ⟨some 63, _, _, _, _, _⟩) _ rfl _ _ 27 rfl w24.heap.size 5 i0 Tryd.underlying27 hi hz0 hz1 hz2 _ 0 [] rfl (World.ownsRow_nil _ _ _ _) w24.heap.size (some ⟨b0, o0, none⟩) n1 c1 Z rfl Y29.out.1 N30.out (fun e => by cases e) (by have := HN9.out; omega) (Nat.le_refl _) ?_; intro v30 w30 ho30 hg30; rw [Nat.zero_add, List.nil_append] at ho30; have O30 := Lib.hid (ho30.alloc (.cells #[.int .u8 c] 5)); have D30 := Lib.hid (((Below.refl w24.heap.size w24).grown hg30 (Nat.le_refl _) (fun g hg => by cases hg)).alloc (by have := hg30.size; omega) (.cells #[.int .u8 c] 5)); have LB30 := Lib.hid (one_byt w30 c); clear ho30 hg30) | (at_builtin; refine wpList_append_byt (o := ⟨some 66, _, _, _, _, _⟩) _ rfl _ _ 27 rfl w24.heap.size 5 i0 Tryd.underlying27 hi hz0 hz1 hz2 _ n1 Z rfl O30.out _ (some ⟨w30.heap.size, 0, none⟩) 1 1 [c] rfl LB30.out.1 rfl (fun e => by cases e) (by have := HN9.out; omega) D30.out.size ?_; intro v40 w40 ho40 hg40; obtain ⟨g40, k40, rfl, hgb40, hnk40, hkm40⟩ := own_formM ho40 (by omega); have Y40 := Lib.hid (BsAt.own ho40); have D40 := Lib.hid (D30.out.grown hg40 D30.out.size (fun g hg => own_base O30.out hg)); have K40 := Lib.hid (And.intro hnk40 hkm40); clear ho40 hg40 hgb40 hnk40 hkm40) | fail)
 have hb40 := D40.out
 have T32 := Lib.hid (T26.out.below hb40 T26.out.lt)
 have F33 := Lib.hid (F27.out.below hb40 (Nat.le_refl _))
 have F34 := Lib.hid (Y29.out.below hb40 (Nat.le_refl _))
 have B35 := Lib.hid (B28.out.trans (hb40.mono B28.out.size))
 clear hb40
 have C36 := Lib.hid (get13_any (some ⟨g40, 0, none⟩) (n1 + 1) k40 (Z ++ [c]) w40 Y40.out.1 (Nat.le_refl _) Y40.out.2.1 (all_append HZB.out HCB.out) K40.out.1 K40.out.2)
 unfold MGetPost at C36
 rw [HMO.out] at C36
 dsimp only at C36
 refine C36.out.mono ?_
 rintro e w50 ⟨y1, rfl, hy1m, hy1o, hb50⟩
 have T37 := Lib.hid (T32.out.below hb50 T32.out.lt)
 have F38 := Lib.hid (F33.out.below hb50 (Nat.le_refl _))
 have F39 := Lib.hid (F34.out.below hb50 (Nat.le_refl _))
 have B40 := Lib.hid (B35.out.trans (hb50.mono B35.out.size))
 clear hb50
 have F41 := Lib.hid (hy1o)
 clear hy1m hy1o
 have SZ41 := Lib.hid (mn_size F41.out)
 have SQ41 := Lib.hid (show mnA0.cs.toArray.size = y1.cs.toArray.size by rw [mnA0_size, List.size_toArray]; exact (MnA.len F41.out).symm)
 have SO41 := Lib.hid (mn_ones y1)
 have L43 := Lib.hid (MnA.len F41.out)
 have hb44 := (Below.refl w50.heap.size w50).alloc (Nat.le_refl _) (.cells y1.cs.toArray 26)
 have T45 := Lib.hid (RowAt.new w50 y1.cs.toArray 26)
 have T46 := Lib.hid (T37.out.below hb44 T37.out.lt)
 have F47 := Lib.hid (F38.out.below hb44 (Nat.le_refl _))
 have F48 := Lib.hid (F39.out.below hb44 (Nat.le_refl _))
 have F49 := Lib.hid (F41.out.below hb44 (Nat.le_refl _))
 have B50 := Lib.hid (B40.out.trans (hb44.mono B40.out.size))
 clear hb44
 have TK := F48
 have hsl := sl_h (some ⟨b0, o0, none⟩) n1 c1 j (by have := HJ.out; have := N31.out.1; omega) (j : Int) rfl
 have Y51 := Lib.hid (show BsAt _ (some ⟨b0, o0, none⟩) j c1 (Z.take j) from ⟨TK.out.1.take j, by rw [List.length_take, N30.out]; have := HJ.out; omega, fun e => by cases e⟩)
 have HTL := Lib.hid Y51.out.2.1
 have HTB := Lib.hid (all_take HZB.out j)
 have HTK := Lib.hid (show j ≤ c1 ∧ c1 ≤ maxLen from ⟨by have := HJ.out; have := N31.out.1; omega, N31.out.2⟩)
 have C55 := Lib.hid (get13_any (some ⟨b0, o0, none⟩) j c1 (Z.take j) (w50.alloc (.cells y1.cs.toArray 26)) Y51.out.1 (Nat.le_refl _) HTL.out HTB.out HTK.out.1 HTK.out.2)
 unfold MGetPost at C55
 rw [HML.out] at C55
 dsimp only at C55
 go_wp2_with (first | ((with_reducible refine wpList_store_new (o := ⟨none, .store 26 (.tmp 11) (.tmp 68), _, _, _, _⟩) ?e1 26 (.tmp 11) (.tmp 68) ?e2 ?e3 mnA0.cs.toArray y1.cs.toArray ?e4 SZ41.out SQ41.out SO41.out ?_); (case e1 => rfl); (case e2 => rfl); (case e3 => (first | rfl | exact congrArg (fun q => Value.pointer (some ⟨q, 0, none⟩)) (World.size_alloc _ _).symm)); (case e4 => rfl)))
 refine C55.out.mono ?_
 rintro e w56 ⟨d52, rfl, hd53, hk54, hb57⟩
 have T58 := Lib.hid (T46.out.below hb57 T46.out.lt)
 have T59 := Lib.hid (T45.out.below hb57 T45.out.lt)
 have F60 := Lib.hid (F47.out.below hb57 (Nat.le_refl _))
 have F61 := Lib.hid (F48.out.below hb57 (Nat.le_refl _))
 have F62 := Lib.hid (F49.out.below hb57 (Nat.le_refl _))
 have F63 := Lib.hid (Y51.out.below hb57 (Nat.le_refl _))
 have B64 := Lib.hid (B50.out.trans (hb57.mono B50.out.size))
 clear hb57
 have E65 := Lib.hid (hd53)
 have F66 := Lib.hid (hk54)
 clear hd53 hk54
 have SZ66 := Lib.hid (mn_size F66.out)
 have SQ66 := Lib.hid (show mnA0.cs.toArray.size = d52.cs.toArray.size by rw [mnA0_size, List.size_toArray]; exact (MnA.len F66.out).symm)
 have SO66 := Lib.hid (mn_ones d52)
 have L68 := Lib.hid (MnA.len F66.out)
 have hb69 := (Below.refl w56.heap.size w56).alloc (Nat.le_refl _) (.cells d52.cs.toArray 26)
 have T70 := Lib.hid (RowAt.new w56 d52.cs.toArray 26)
 have T71 := Lib.hid (T58.out.below hb69 T58.out.lt)
 have T72 := Lib.hid (T59.out.below hb69 T59.out.lt)
 have F73 := Lib.hid (F60.out.below hb69 (Nat.le_refl _))
 have F74 := Lib.hid (F61.out.below hb69 (Nat.le_refl _))
 have F75 := Lib.hid (F62.out.below hb69 (Nat.le_refl _))
 have F76 := Lib.hid (F63.out.below hb69 (Nat.le_refl _))
 have F77 := Lib.hid (F66.out.below hb69 (Nat.le_refl _))
 have B78 := Lib.hid (B64.out.trans (hb69.mono B64.out.size))
 clear hb69
 have hix := ix_at b0 o0 n1 c1 j HJ.out (j : Int) rfl
 have hcl := bs_cell F74.out HJZ.out
 clear hsl
 rw [HX.out] at hcl
 go_wp2_with (first | ((with_reducible refine wpList_store_new (o := ⟨none, .store 26 (.tmp 13) (.tmp 75), _, _, _, _⟩) ?e1 26 (.tmp 13) (.tmp 75) ?e2 ?e3 mnA0.cs.toArray d52.cs.toArray ?e4 SZ66.out SQ66.out SO66.out ?_); (case e1 => rfl); (case e2 => rfl); (case e3 => (first | rfl | exact congrArg (fun q => Value.pointer (some ⟨q, 0, none⟩)) (World.size_alloc _ _).symm)); (case e4 => rfl)) | fail)
 go_ret
 exact ⟨rfl, B78.out⟩
set_option maxHeartbeats 16000000 in
theorem mcc_mid (m : MnA) (j : Nat) (c : Int) (w : World) (hlaid : Laid w) (wm : m.Ok w) (hc : 0 ≤ c ∧ c ≤ 255) (p : mfew m.m = true) (a : mmay m.m = true) (hj : j < (packL 1 (mnB m.m)).length) (hx : ¬ (packL 1 (mnB m.m)).getD j 0 = c) (hmid : 1 ≤ j ∧ j ≤ 3) :
  Calls Tryd.prog 4 #[.agg m.cs.toArray, .int .i64 j, .int .u8 c] w fun e w' => e = .returned (.bool true) ∧ Below w.heap.size w w' := by
 have HLA := Lib.hid (fun (X : World) (hX : Below w.heap.size w X) => hlaid.below hX (Nat.le_refl _))
 have Fm := Lib.hid wm
 have LM := Lib.hid (MnA.len wm)
 have GM := Lib.hid (mn_good wm)
 have hzm := zeroMn
 rw [show mnA0.v = .agg mnA0.cs.toArray from rfl] at hzm
 have hzne1 : ¬ mnA0.cs.toArray = #[] := by decide
 have PM := Lib.hid p
 have MM := Lib.hid a
 have hw1 := mmay_wf a (mn_good wm)
 have HZB := Lib.hid (pack_bytes (k := 1) (by decide) (by decide) (mnB_ok hw1).1)
 have HZ9 := Lib.hid (show (packL 1 (mnB m.m)).length ≤ 200000 by have h1 := pack_len 1 (mnB m.m); have h2 := (mnB_ok hw1).2; have h3 := enc_len (mnB m.m).length; omega)
 have HZ39 := Lib.hid (mput_least hw1)
 have HJZ := Lib.hid hj
 have HMO := Lib.hid (mget_more hw1 c)
 have HML := Lib.hid (mget_less hw1 hj)
 have HCB := Lib.hid (show AllBytes [c] from fun z hz => by rw [List.mem_singleton.1 hz]; exact hc)
 have HX := Lib.hid hx
 have HMID := Lib.hid hmid
 obtain ⟨Z, hZ⟩ : ∃ Z, packL 1 (mnB m.m) = Z := ⟨_, rfl⟩
 have HZ := Lib.hid hZ
 rw [hZ] at HZB HZ9 HZ39 HJZ HMO HML HX
 clear hlaid wm hc p a hw1 hZ hj hx hmid
 have B1 := Lib.hid (Below.refl w.heap.size w)
 have T2n := RowAt.new w m.cs.toArray 26
 have T2 := Lib.hid T2n
 clear T2n
 have B3 := Lib.hid (B1.out.alloc B1.out.size (.cells m.cs.toArray 26))
 have F4 := Lib.hid (Fm.out.below B3.out (Nat.le_refl _))
 go_enter Tryd.func4, Tryd.ntmps4
 have C5 := Lib.hid (mcAwake (w.alloc (.cells m.cs.toArray 26)) (HLA.out _ B3.out))
 go_wp2_with fail
 refine C5.out.mono ?_
 rintro e w6 ⟨rfl, hb7⟩
 have T8 := Lib.hid (T2.out.below hb7 T2.out.lt)
 have F9 := Lib.hid (F4.out.below hb7 (Nat.le_refl _))
 have B10 := Lib.hid (B3.out.trans (hb7.mono B3.out.size))
 clear hb7
 have M11 := Lib.hid (T8.out.mn LM.out)
 have C12 := Lib.hid (rfew12_any m w6 F9.out)
 rw [PM.out] at C12
 go_wp2_with (first | ((with_reducible refine wpList_load_at (o := ⟨some 19, .load 26 (.tmp 3), _, _, _, _⟩) ?e1 26 (.tmp 3) ?e2 ⟨w.heap.size, 0, none⟩ ?e3 _ M11.out ?_); (case e1 => rfl); (case e2 => rfl); (case e3 => rfl)))
 refine C12.out.mono ?_
 rintro e w13 ⟨rfl, hb14⟩
 have T15 := Lib.hid (T8.out.below hb14 T8.out.lt)
 have F16 := Lib.hid (F9.out.below hb14 (Nat.le_refl _))
 have B17 := Lib.hid (B10.out.trans (hb14.mono B10.out.size))
 clear hb14
 have M22 := Lib.hid (T15.out.mn LM.out)
 have C23 := Lib.hid (put13_any m w13 F16.out GM.out)
 unfold MPutPost at C23
 simp only [MM.out, if_true] at C23
 unfold GivesT at C23
 rw [HZ.out] at C23
 go_wp2_with (first | ((with_reducible refine wpList_load_at (o := ⟨some 22, .load 26 (.tmp 3), _, _, _, _⟩) ?e1 26 (.tmp 3) ?e2 ⟨w.heap.size, 0, none⟩ ?e3 _ M22.out ?_); (case e1 => rfl); (case e2 => rfl); (case e3 => rfl)))
 refine C23.out.mono ?_
 rintro e w24 ⟨A1, n1, c1, rfl, hn18, h19, h20, ho21, hb25⟩
 have T26 := Lib.hid (T15.out.below hb25 T15.out.lt)
 have F27 := Lib.hid (F16.out.below hb25 (Nat.le_refl _))
 have B28 := Lib.hid (B17.out.trans (hb25.mono B17.out.size))
 clear hb25
 have Y29 := Lib.hid (BsAt.own ho21)
 have N30 := Lib.hid (hn18)
 have N31 := Lib.hid (And.intro h19 h20)
 clear hn18 h19 h20 ho21
 obtain ⟨b0, o0, hA1, _, _⟩ := Y29.out.1 (fun e => by have h2 := HZ39.out; rw [e] at h2; simp at h2)
 subst hA1
 have HN9 := Lib.hid (show n1 ≤ 200000 by rw [← N30.out]; exact HZ9.out)
 have t39 : ¬ (n1 : Int) < 39 := by have h1 := N30.out; have h2 := HZ39.out; omega
 have HJ := Lib.hid (show j < n1 by rw [← N30.out]; exact HJZ.out)
 have t40 : ¬ (n1 : Int) ≤ (j : Int) := by have := HJ.out; omega
 have t41 : ¬ (j : Int) < 0 := by omega
 obtain ⟨i0, hi, hz0, hz1, hz2⟩ := info_parts infoByte
 go_wp2_with (first | (at_builtin; refine wpList_append_byt (o := ⟨some 63, _, _, _, _, _⟩) _ rfl _ _ 27 rfl w24.heap.size 5 i0 Tryd.underlying27 hi hz0 hz1 hz2 _ 0 [] rfl (World.ownsRow_nil _ _ _ _) w24.heap.size (some ⟨b0, o0, none⟩) n1 c1 Z rfl Y29.out.1 N30.out (fun e => by cases e) (by have := HN9.out; omega) (Nat.le_refl _) ?_; intro v30 w30 ho30 hg30; rw [Nat.zero_add, List.nil_append] at ho30; have O30 := Lib.hid (ho30.alloc (.cells #[.int .u8 c] 5)); have D30 := Lib.hid (((Below.refl w24.heap.size w24).grown hg30 (Nat.le_refl _) (fun g hg => by cases hg)).alloc (by have := hg30.size; omega) (.cells #[.int .u8 c] 5)); have LB30 := Lib.hid (one_byt w30 c); clear ho30 hg30) | (at_builtin; refine wpList_append_byt (o := ⟨some 66, _, _, _, _, _⟩) _ rfl _ _ 27 rfl w24.heap.size 5 i0 Tryd.underlying27 hi hz0 hz1 hz2 _ n1 Z rfl O30.out _ (some ⟨w30.heap.size, 0, none⟩) 1 1 [c] rfl LB30.out.1 rfl (fun e => by cases e) (by have := HN9.out; omega) D30.out.size ?_; intro v40 w40 ho40 hg40; obtain ⟨g40, k40, rfl, hgb40, hnk40, hkm40⟩ := own_formM ho40 (by omega); have Y40 := Lib.hid (BsAt.own ho40); have D40 := Lib.hid (D30.out.grown hg40 D30.out.size (fun g hg => own_base O30.out hg)); have K40 := Lib.hid (And.intro hnk40 hkm40); clear ho40 hg40 hgb40 hnk40 hkm40) | fail)
 have hb40 := D40.out
 have T32 := Lib.hid (T26.out.below hb40 T26.out.lt)
 have F33 := Lib.hid (F27.out.below hb40 (Nat.le_refl _))
 have F34 := Lib.hid (Y29.out.below hb40 (Nat.le_refl _))
 have B35 := Lib.hid (B28.out.trans (hb40.mono B28.out.size))
 clear hb40
 have C36 := Lib.hid (get13_any (some ⟨g40, 0, none⟩) (n1 + 1) k40 (Z ++ [c]) w40 Y40.out.1 (Nat.le_refl _) Y40.out.2.1 (all_append HZB.out HCB.out) K40.out.1 K40.out.2)
 unfold MGetPost at C36
 rw [HMO.out] at C36
 dsimp only at C36
 refine C36.out.mono ?_
 rintro e w50 ⟨y1, rfl, hy1m, hy1o, hb50⟩
 have T37 := Lib.hid (T32.out.below hb50 T32.out.lt)
 have F38 := Lib.hid (F33.out.below hb50 (Nat.le_refl _))
 have F39 := Lib.hid (F34.out.below hb50 (Nat.le_refl _))
 have B40 := Lib.hid (B35.out.trans (hb50.mono B35.out.size))
 clear hb50
 have F41 := Lib.hid (hy1o)
 clear hy1m hy1o
 have SZ41 := Lib.hid (mn_size F41.out)
 have SQ41 := Lib.hid (show mnA0.cs.toArray.size = y1.cs.toArray.size by rw [mnA0_size, List.size_toArray]; exact (MnA.len F41.out).symm)
 have SO41 := Lib.hid (mn_ones y1)
 have L43 := Lib.hid (MnA.len F41.out)
 have hb44 := (Below.refl w50.heap.size w50).alloc (Nat.le_refl _) (.cells y1.cs.toArray 26)
 have T45 := Lib.hid (RowAt.new w50 y1.cs.toArray 26)
 have T46 := Lib.hid (T37.out.below hb44 T37.out.lt)
 have F47 := Lib.hid (F38.out.below hb44 (Nat.le_refl _))
 have F48 := Lib.hid (F39.out.below hb44 (Nat.le_refl _))
 have F49 := Lib.hid (F41.out.below hb44 (Nat.le_refl _))
 have B50 := Lib.hid (B40.out.trans (hb44.mono B40.out.size))
 clear hb44
 have TK := F48
 have hsl := sl_h (some ⟨b0, o0, none⟩) n1 c1 j (by have := HJ.out; have := N31.out.1; omega) (j : Int) rfl
 have Y51 := Lib.hid (show BsAt _ (some ⟨b0, o0, none⟩) j c1 (Z.take j) from ⟨TK.out.1.take j, by rw [List.length_take, N30.out]; have := HJ.out; omega, fun e => by cases e⟩)
 have HTL := Lib.hid Y51.out.2.1
 have HTB := Lib.hid (all_take HZB.out j)
 have HTK := Lib.hid (show j ≤ c1 ∧ c1 ≤ maxLen from ⟨by have := HJ.out; have := N31.out.1; omega, N31.out.2⟩)
 have C55 := Lib.hid (get13_any (some ⟨b0, o0, none⟩) j c1 (Z.take j) (w50.alloc (.cells y1.cs.toArray 26)) Y51.out.1 (Nat.le_refl _) HTL.out HTB.out HTK.out.1 HTK.out.2)
 unfold MGetPost at C55
 rw [HML.out] at C55
 dsimp only at C55
 go_wp2_with (first | ((with_reducible refine wpList_store_new (o := ⟨none, .store 26 (.tmp 11) (.tmp 68), _, _, _, _⟩) ?e1 26 (.tmp 11) (.tmp 68) ?e2 ?e3 mnA0.cs.toArray y1.cs.toArray ?e4 SZ41.out SQ41.out SO41.out ?_); (case e1 => rfl); (case e2 => rfl); (case e3 => (first | rfl | exact congrArg (fun q => Value.pointer (some ⟨q, 0, none⟩)) (World.size_alloc _ _).symm)); (case e4 => rfl)))
 refine C55.out.mono ?_
 rintro e w56 ⟨d52, rfl, hd53, hk54, hb57⟩
 have T58 := Lib.hid (T46.out.below hb57 T46.out.lt)
 have T59 := Lib.hid (T45.out.below hb57 T45.out.lt)
 have F60 := Lib.hid (F47.out.below hb57 (Nat.le_refl _))
 have F61 := Lib.hid (F48.out.below hb57 (Nat.le_refl _))
 have F62 := Lib.hid (F49.out.below hb57 (Nat.le_refl _))
 have F63 := Lib.hid (Y51.out.below hb57 (Nat.le_refl _))
 have B64 := Lib.hid (B50.out.trans (hb57.mono B50.out.size))
 clear hb57
 have E65 := Lib.hid (hd53)
 have F66 := Lib.hid (hk54)
 clear hd53 hk54
 have SZ66 := Lib.hid (mn_size F66.out)
 have SQ66 := Lib.hid (show mnA0.cs.toArray.size = d52.cs.toArray.size by rw [mnA0_size, List.size_toArray]; exact (MnA.len F66.out).symm)
 have SO66 := Lib.hid (mn_ones d52)
 have L68 := Lib.hid (MnA.len F66.out)
 have hb69 := (Below.refl w56.heap.size w56).alloc (Nat.le_refl _) (.cells d52.cs.toArray 26)
 have T70 := Lib.hid (RowAt.new w56 d52.cs.toArray 26)
 have T71 := Lib.hid (T58.out.below hb69 T58.out.lt)
 have T72 := Lib.hid (T59.out.below hb69 T59.out.lt)
 have F73 := Lib.hid (F60.out.below hb69 (Nat.le_refl _))
 have F74 := Lib.hid (F61.out.below hb69 (Nat.le_refl _))
 have F75 := Lib.hid (F62.out.below hb69 (Nat.le_refl _))
 have F76 := Lib.hid (F63.out.below hb69 (Nat.le_refl _))
 have F77 := Lib.hid (F66.out.below hb69 (Nat.le_refl _))
 have B78 := Lib.hid (B64.out.trans (hb69.mono B64.out.size))
 clear hb69
 have hix := ix_at b0 o0 n1 c1 j HJ.out (j : Int) rfl
 have hcl := bs_cell F74.out HJZ.out
 clear hsl
 have hx := HX.out
 generalize Z.getD j 0 = z at hcl hx
 have hx2 : (z == c) = false := by simpa using hx
 have t42 : (1 : Int) ≤ (j : Int) := by have := HMID.out; omega
 have t43 : (j : Int) ≤ 3 := by have := HMID.out; omega
 go_wp2_with (first | ((with_reducible refine wpList_store_new (o := ⟨none, .store 26 (.tmp 13) (.tmp 75), _, _, _, _⟩) ?e1 26 (.tmp 13) (.tmp 75) ?e2 ?e3 mnA0.cs.toArray d52.cs.toArray ?e4 SZ66.out SQ66.out SO66.out ?_); (case e1 => rfl); (case e2 => rfl); (case e3 => (first | rfl | exact congrArg (fun q => Value.pointer (some ⟨q, 0, none⟩)) (World.size_alloc _ _).symm)); (case e4 => rfl)) | fail)
 go_ret
 exact ⟨rfl, B78.out⟩
set_option maxHeartbeats 16000000 in
theorem mcc_hi (m : MnA) (j : Nat) (c : Int) (w : World) (hlaid : Laid w) (wm : m.Ok w) (hc : 0 ≤ c ∧ c ≤ 255) (p : mfew m.m = true) (a : mmay m.m = true) (hj : j < (packL 1 (mnB m.m)).length) (hx : ¬ (packL 1 (mnB m.m)).getD j 0 = c) (hmid : 4 ≤ j) (hms : mget ((packL 1 (mnB m.m)).set j c) = (mnZ, 3)) :
  Calls Tryd.prog 4 #[.agg m.cs.toArray, .int .i64 j, .int .u8 c] w fun e w' => e = .returned (.bool true) ∧ Below w.heap.size w w' := by
 have HLA := Lib.hid (fun (X : World) (hX : Below w.heap.size w X) => hlaid.below hX (Nat.le_refl _))
 have Fm := Lib.hid wm
 have LM := Lib.hid (MnA.len wm)
 have GM := Lib.hid (mn_good wm)
 have hzm := zeroMn
 rw [show mnA0.v = .agg mnA0.cs.toArray from rfl] at hzm
 have hzne1 : ¬ mnA0.cs.toArray = #[] := by decide
 have PM := Lib.hid p
 have MM := Lib.hid a
 have hw1 := mmay_wf a (mn_good wm)
 have HZB := Lib.hid (pack_bytes (k := 1) (by decide) (by decide) (mnB_ok hw1).1)
 have HZ9 := Lib.hid (show (packL 1 (mnB m.m)).length ≤ 200000 by have h1 := pack_len 1 (mnB m.m); have h2 := (mnB_ok hw1).2; have h3 := enc_len (mnB m.m).length; omega)
 have HZ39 := Lib.hid (mput_least hw1)
 have HJZ := Lib.hid hj
 have HMO := Lib.hid (mget_more hw1 c)
 have HML := Lib.hid (mget_less hw1 hj)
 have HCB := Lib.hid (show AllBytes [c] from fun z hz => by rw [List.mem_singleton.1 hz]; exact hc)
 have HX := Lib.hid hx
 have HMID := Lib.hid hmid
 have HSB := Lib.hid (show AllBytes ((packL 1 (mnB m.m)).set j c) from fun z hz => by
  rcases List.mem_or_eq_of_mem_set hz with h1 | h1
  ·exact HZB.out z h1
  ·rw [h1]; exact hc)
 have HMS := Lib.hid hms
 obtain ⟨Z, hZ⟩ : ∃ Z, packL 1 (mnB m.m) = Z := ⟨_, rfl⟩
 have HZ := Lib.hid hZ
 rw [hZ] at HZB HZ9 HZ39 HJZ HMO HML HX HSB HMS
 clear hlaid wm hc p a hw1 hZ hj hx hmid hms
 have B1 := Lib.hid (Below.refl w.heap.size w)
 have T2n := RowAt.new w m.cs.toArray 26
 have T2 := Lib.hid T2n
 clear T2n
 have B3 := Lib.hid (B1.out.alloc B1.out.size (.cells m.cs.toArray 26))
 have F4 := Lib.hid (Fm.out.below B3.out (Nat.le_refl _))
 go_enter Tryd.func4, Tryd.ntmps4
 have C5 := Lib.hid (mcAwake (w.alloc (.cells m.cs.toArray 26)) (HLA.out _ B3.out))
 go_wp2_with fail
 refine C5.out.mono ?_
 rintro e w6 ⟨rfl, hb7⟩
 have T8 := Lib.hid (T2.out.below hb7 T2.out.lt)
 have F9 := Lib.hid (F4.out.below hb7 (Nat.le_refl _))
 have B10 := Lib.hid (B3.out.trans (hb7.mono B3.out.size))
 clear hb7
 have M11 := Lib.hid (T8.out.mn LM.out)
 have C12 := Lib.hid (rfew12_any m w6 F9.out)
 rw [PM.out] at C12
 go_wp2_with (first | ((with_reducible refine wpList_load_at (o := ⟨some 19, .load 26 (.tmp 3), _, _, _, _⟩) ?e1 26 (.tmp 3) ?e2 ⟨w.heap.size, 0, none⟩ ?e3 _ M11.out ?_); (case e1 => rfl); (case e2 => rfl); (case e3 => rfl)))
 refine C12.out.mono ?_
 rintro e w13 ⟨rfl, hb14⟩
 have T15 := Lib.hid (T8.out.below hb14 T8.out.lt)
 have F16 := Lib.hid (F9.out.below hb14 (Nat.le_refl _))
 have B17 := Lib.hid (B10.out.trans (hb14.mono B10.out.size))
 clear hb14
 have M22 := Lib.hid (T15.out.mn LM.out)
 have C23 := Lib.hid (put13_any m w13 F16.out GM.out)
 unfold MPutPost at C23
 simp only [MM.out, if_true] at C23
 unfold GivesT at C23
 rw [HZ.out] at C23
 go_wp2_with (first | ((with_reducible refine wpList_load_at (o := ⟨some 22, .load 26 (.tmp 3), _, _, _, _⟩) ?e1 26 (.tmp 3) ?e2 ⟨w.heap.size, 0, none⟩ ?e3 _ M22.out ?_); (case e1 => rfl); (case e2 => rfl); (case e3 => rfl)))
 refine C23.out.mono ?_
 rintro e w24 ⟨A1, n1, c1, rfl, hn18, h19, h20, ho21, hb25⟩
 have T26 := Lib.hid (T15.out.below hb25 T15.out.lt)
 have F27 := Lib.hid (F16.out.below hb25 (Nat.le_refl _))
 have B28 := Lib.hid (B17.out.trans (hb25.mono B17.out.size))
 clear hb25
 have Y29 := Lib.hid (BsAt.own ho21)
 have N30 := Lib.hid (hn18)
 have N31 := Lib.hid (And.intro h19 h20)
 clear hn18 h19 h20 ho21
 obtain ⟨b0, o0, hA1, _, _⟩ := Y29.out.1 (fun e => by have h2 := HZ39.out; rw [e] at h2; simp at h2)
 subst hA1
 have HN9 := Lib.hid (show n1 ≤ 200000 by rw [← N30.out]; exact HZ9.out)
 have t39 : ¬ (n1 : Int) < 39 := by have h1 := N30.out; have h2 := HZ39.out; omega
 have HJ := Lib.hid (show j < n1 by rw [← N30.out]; exact HJZ.out)
 have t40 : ¬ (n1 : Int) ≤ (j : Int) := by have := HJ.out; omega
 have t41 : ¬ (j : Int) < 0 := by omega
 obtain ⟨i0, hi, hz0, hz1, hz2⟩ := info_parts infoByte
 go_wp2_with (first | (at_builtin; refine wpList_append_byt (o := ⟨some 63, _, _, _, _, _⟩) _ rfl _ _ 27 rfl w24.heap.size 5 i0 Tryd.underlying27 hi hz0 hz1 hz2 _ 0 [] rfl (World.ownsRow_nil _ _ _ _) w24.heap.size (some ⟨b0, o0, none⟩) n1 c1 Z rfl Y29.out.1 N30.out (fun e => by cases e) (by have := HN9.out; omega) (Nat.le_refl _) ?_; intro v30 w30 ho30 hg30; rw [Nat.zero_add, List.nil_append] at ho30; have O30 := Lib.hid (ho30.alloc (.cells #[.int .u8 c] 5)); have D30 := Lib.hid (((Below.refl w24.heap.size w24).grown hg30 (Nat.le_refl _) (fun g hg => by cases hg)).alloc (by have := hg30.size; omega) (.cells #[.int .u8 c] 5)); have LB30 := Lib.hid (one_byt w30 c); clear ho30 hg30) | (at_builtin; refine wpList_append_byt (o := ⟨some 66, _, _, _, _, _⟩) _ rfl _ _ 27 rfl w24.heap.size 5 i0 Tryd.underlying27 hi hz0 hz1 hz2 _ n1 Z rfl O30.out _ (some ⟨w30.heap.size, 0, none⟩) 1 1 [c] rfl LB30.out.1 rfl (fun e => by cases e) (by have := HN9.out; omega) D30.out.size ?_; intro v40 w40 ho40 hg40; obtain ⟨g40, k40, rfl, hgb40, hnk40, hkm40⟩ := own_formM ho40 (by omega); have Y40 := Lib.hid (BsAt.own ho40); have D40 := Lib.hid (D30.out.grown hg40 D30.out.size (fun g hg => own_base O30.out hg)); have K40 := Lib.hid (And.intro hnk40 hkm40); clear ho40 hg40 hgb40 hnk40 hkm40) | fail)
 have hb40 := D40.out
 have T32 := Lib.hid (T26.out.below hb40 T26.out.lt)
 have F33 := Lib.hid (F27.out.below hb40 (Nat.le_refl _))
 have F34 := Lib.hid (Y29.out.below hb40 (Nat.le_refl _))
 have B35 := Lib.hid (B28.out.trans (hb40.mono B28.out.size))
 clear hb40
 have C36 := Lib.hid (get13_any (some ⟨g40, 0, none⟩) (n1 + 1) k40 (Z ++ [c]) w40 Y40.out.1 (Nat.le_refl _) Y40.out.2.1 (all_append HZB.out HCB.out) K40.out.1 K40.out.2)
 unfold MGetPost at C36
 rw [HMO.out] at C36
 dsimp only at C36
 refine C36.out.mono ?_
 rintro e w50 ⟨y1, rfl, hy1m, hy1o, hb50⟩
 have T37 := Lib.hid (T32.out.below hb50 T32.out.lt)
 have F38 := Lib.hid (F33.out.below hb50 (Nat.le_refl _))
 have F39 := Lib.hid (F34.out.below hb50 (Nat.le_refl _))
 have B40 := Lib.hid (B35.out.trans (hb50.mono B35.out.size))
 clear hb50
 have F41 := Lib.hid (hy1o)
 clear hy1m hy1o
 have SZ41 := Lib.hid (mn_size F41.out)
 have SQ41 := Lib.hid (show mnA0.cs.toArray.size = y1.cs.toArray.size by rw [mnA0_size, List.size_toArray]; exact (MnA.len F41.out).symm)
 have SO41 := Lib.hid (mn_ones y1)
 have L43 := Lib.hid (MnA.len F41.out)
 have hb44 := (Below.refl w50.heap.size w50).alloc (Nat.le_refl _) (.cells y1.cs.toArray 26)
 have T45 := Lib.hid (RowAt.new w50 y1.cs.toArray 26)
 have T46 := Lib.hid (T37.out.below hb44 T37.out.lt)
 have F47 := Lib.hid (F38.out.below hb44 (Nat.le_refl _))
 have F48 := Lib.hid (F39.out.below hb44 (Nat.le_refl _))
 have F49 := Lib.hid (F41.out.below hb44 (Nat.le_refl _))
 have B50 := Lib.hid (B40.out.trans (hb44.mono B40.out.size))
 clear hb44
 have TK := F48
 have hsl := sl_h (some ⟨b0, o0, none⟩) n1 c1 j (by have := HJ.out; have := N31.out.1; omega) (j : Int) rfl
 have Y51 := Lib.hid (show BsAt _ (some ⟨b0, o0, none⟩) j c1 (Z.take j) from ⟨TK.out.1.take j, by rw [List.length_take, N30.out]; have := HJ.out; omega, fun e => by cases e⟩)
 have HTL := Lib.hid Y51.out.2.1
 have HTB := Lib.hid (all_take HZB.out j)
 have HTK := Lib.hid (show j ≤ c1 ∧ c1 ≤ maxLen from ⟨by have := HJ.out; have := N31.out.1; omega, N31.out.2⟩)
 have C55 := Lib.hid (get13_any (some ⟨b0, o0, none⟩) j c1 (Z.take j) (w50.alloc (.cells y1.cs.toArray 26)) Y51.out.1 (Nat.le_refl _) HTL.out HTB.out HTK.out.1 HTK.out.2)
 unfold MGetPost at C55
 rw [HML.out] at C55
 dsimp only at C55
 go_wp2_with (first | ((with_reducible refine wpList_store_new (o := ⟨none, .store 26 (.tmp 11) (.tmp 68), _, _, _, _⟩) ?e1 26 (.tmp 11) (.tmp 68) ?e2 ?e3 mnA0.cs.toArray y1.cs.toArray ?e4 SZ41.out SQ41.out SO41.out ?_); (case e1 => rfl); (case e2 => rfl); (case e3 => (first | rfl | exact congrArg (fun q => Value.pointer (some ⟨q, 0, none⟩)) (World.size_alloc _ _).symm)); (case e4 => rfl)))
 refine C55.out.mono ?_
 rintro e w56 ⟨d52, rfl, hd53, hk54, hb57⟩
 have T58 := Lib.hid (T46.out.below hb57 T46.out.lt)
 have T59 := Lib.hid (T45.out.below hb57 T45.out.lt)
 have F60 := Lib.hid (F47.out.below hb57 (Nat.le_refl _))
 have F61 := Lib.hid (F48.out.below hb57 (Nat.le_refl _))
 have F62 := Lib.hid (F49.out.below hb57 (Nat.le_refl _))
 have F63 := Lib.hid (Y51.out.below hb57 (Nat.le_refl _))
 have B64 := Lib.hid (B50.out.trans (hb57.mono B50.out.size))
 clear hb57
 have E65 := Lib.hid (hd53)
 have F66 := Lib.hid (hk54)
 clear hd53 hk54
 have SZ66 := Lib.hid (mn_size F66.out)
 have SQ66 := Lib.hid (show mnA0.cs.toArray.size = d52.cs.toArray.size by rw [mnA0_size, List.size_toArray]; exact (MnA.len F66.out).symm)
 have SO66 := Lib.hid (mn_ones d52)
 have L68 := Lib.hid (MnA.len F66.out)
 have hb69 := (Below.refl w56.heap.size w56).alloc (Nat.le_refl _) (.cells d52.cs.toArray 26)
 have T70 := Lib.hid (RowAt.new w56 d52.cs.toArray 26)
 have T71 := Lib.hid (T58.out.below hb69 T58.out.lt)
 have T72 := Lib.hid (T59.out.below hb69 T59.out.lt)
 have F73 := Lib.hid (F60.out.below hb69 (Nat.le_refl _))
 have F74 := Lib.hid (F61.out.below hb69 (Nat.le_refl _))
 have F75 := Lib.hid (F62.out.below hb69 (Nat.le_refl _))
 have F76 := Lib.hid (F63.out.below hb69 (Nat.le_refl _))
 have F77 := Lib.hid (F66.out.below hb69 (Nat.le_refl _))
 have B78 := Lib.hid (B64.out.trans (hb69.mono B64.out.size))
 clear hb69
 have hix := ix_at b0 o0 n1 c1 j HJ.out (j : Int) rfl
 have hcl := bs_cell F74.out HJZ.out
 clear hsl
 have hx := HX.out
 generalize Z.getD j 0 = z at hcl hx
 have hx2 : (z == c) = false := by simpa using hx
 have t42 : (1 : Int) ≤ (j : Int) := by have := HMID.out; omega
 have t43 : ¬ (j : Int) ≤ 3 := by have := HMID.out; omega
 have t44 : ¬ (j : Int) = 0 := by omega
 go_wp2_with (first | ((with_reducible refine wpList_store_new (o := ⟨none, .store 26 (.tmp 13) (.tmp 75), _, _, _, _⟩) ?e1 26 (.tmp 13) (.tmp 75) ?e2 ?e3 mnA0.cs.toArray d52.cs.toArray ?e4 SZ66.out SQ66.out SO66.out ?_); (case e1 => rfl); (case e2 => rfl); (case e3 => (first | rfl | exact congrArg (fun q => Value.pointer (some ⟨q, 0, none⟩)) (World.size_alloc _ _).symm)); (case e4 => rfl)) | (at_builtin; refine wpList_append_byt (o := ⟨some 98, _, _, _, _, _⟩) _ rfl _ _ 27 rfl (w56.alloc (.cells d52.cs.toArray 26)).heap.size 5 i0 Tryd.underlying27 hi hz0 hz1 hz2 _ 0 [] rfl (World.ownsRow_nil _ _ _ _) (w56.alloc (.cells d52.cs.toArray 26)).heap.size (some ⟨b0, o0, none⟩) n1 c1 Z rfl F74.out.1 N30.out (fun e => by cases e) (by have := HN9.out; omega) (Nat.le_refl _) ?_; intro v60 w60 ho60 hg60; rw [Nat.zero_add, List.nil_append] at ho60; obtain ⟨g60, k60, rfl, hgb60, hnk60, hkm60⟩ := own_formM ho60 (by have := HJ.out; omega); have hcl6 := ho60.cellAt j (by have := HJ.out; omega); rw [List.getElem?_map, List.getElem?_eq_getElem HJZ.out, Option.map_some] at hcl6; have hfr6 := ho60.frozenAt j; have hix6 := ix_at g60 0 n1 k60 j HJ.out (j : Int) rfl; rw [Nat.zero_add] at hix6; have Y60 := Lib.hid (BsAt.own (own_setM ho60 j c)); have D60 := Lib.hid (((Below.refl (w56.alloc (.cells d52.cs.toArray 26)).heap.size (w56.alloc (.cells d52.cs.toArray 26))).grown hg60 (Nat.le_refl _) (fun g hg => by cases hg)).setCell (p := ⟨g60, j, none⟩) hgb60 (.int .u8 c)); have K60 := Lib.hid (And.intro hnk60 hkm60); clear ho60 hg60 hgb60 hnk60 hkm60) | fail)
 have hb60 := D60.out
 have T79 := Lib.hid (T71.out.below hb60 T71.out.lt)
 have T80 := Lib.hid (T72.out.below hb60 T72.out.lt)
 have T81 := Lib.hid (T70.out.below hb60 T70.out.lt)
 have F82 := Lib.hid (F73.out.below hb60 (Nat.le_refl _))
 have F83 := Lib.hid (F74.out.below hb60 (Nat.le_refl _))
 have F84 := Lib.hid (F75.out.below hb60 (Nat.le_refl _))
 have F85 := Lib.hid (F76.out.below hb60 (Nat.le_refl _))
 have F86 := Lib.hid (F77.out.below hb60 (Nat.le_refl _))
 have B87 := Lib.hid (B78.out.trans (hb60.mono B78.out.size))
 clear hb60
 have C88 := Lib.hid (get13_any (some ⟨g60, 0, none⟩) n1 k60 (Z.set j c) (w60.setCell ⟨g60, j, none⟩ (.int .u8 c)) Y60.out.1 (Nat.le_refl _) Y60.out.2.1 HSB.out K60.out.1 K60.out.2)
 unfold MGetPost at C88
 rw [HMS.out] at C88
 dsimp only at C88
 clear hcl hcl6 hfr6 hix6 hix
 refine C88.out.mono ?_
 rintro e w70 ⟨y3, rfl, hy3m, hy3o, hb70⟩
 have T89 := Lib.hid (T79.out.below hb70 T79.out.lt)
 have T90 := Lib.hid (T80.out.below hb70 T80.out.lt)
 have T91 := Lib.hid (T81.out.below hb70 T81.out.lt)
 have F92 := Lib.hid (F82.out.below hb70 (Nat.le_refl _))
 have F93 := Lib.hid (F83.out.below hb70 (Nat.le_refl _))
 have F94 := Lib.hid (F84.out.below hb70 (Nat.le_refl _))
 have F95 := Lib.hid (F85.out.below hb70 (Nat.le_refl _))
 have F96 := Lib.hid (F86.out.below hb70 (Nat.le_refl _))
 have B97 := Lib.hid (B87.out.trans (hb70.mono B87.out.size))
 clear hb70
 have F98 := Lib.hid (hy3o)
 clear hy3m hy3o
 have SZ98 := Lib.hid (mn_size F98.out)
 have SQ98 := Lib.hid (show mnA0.cs.toArray.size = y3.cs.toArray.size by rw [mnA0_size, List.size_toArray]; exact (MnA.len F98.out).symm)
 have SO98 := Lib.hid (mn_ones y3)
 have L100 := Lib.hid (MnA.len F98.out)
 have hb101 := (Below.refl w70.heap.size w70).alloc (Nat.le_refl _) (.cells y3.cs.toArray 26)
 have T102 := Lib.hid (RowAt.new w70 y3.cs.toArray 26)
 have T103 := Lib.hid (T89.out.below hb101 T89.out.lt)
 have T104 := Lib.hid (T90.out.below hb101 T90.out.lt)
 have T105 := Lib.hid (T91.out.below hb101 T91.out.lt)
 have F106 := Lib.hid (F92.out.below hb101 (Nat.le_refl _))
 have F107 := Lib.hid (F93.out.below hb101 (Nat.le_refl _))
 have F108 := Lib.hid (F94.out.below hb101 (Nat.le_refl _))
 have F109 := Lib.hid (F95.out.below hb101 (Nat.le_refl _))
 have F110 := Lib.hid (F96.out.below hb101 (Nat.le_refl _))
 have F111 := Lib.hid (F98.out.below hb101 (Nat.le_refl _))
 have B112 := Lib.hid (B97.out.trans (hb101.mono B97.out.size))
 clear hb101
 go_wp2_with (first | ((with_reducible refine wpList_store_new (o := ⟨none, .store 26 (.tmp 16) (.tmp 106), _, _, _, _⟩) ?e1 26 (.tmp 16) (.tmp 106) ?e2 ?e3 mnA0.cs.toArray y3.cs.toArray ?e4 SZ98.out SQ98.out SO98.out ?_); (case e1 => rfl); (case e2 => rfl); (case e3 => (first | rfl | exact congrArg (fun q => Value.pointer (some ⟨q, 0, none⟩)) (World.size_alloc _ _).symm)); (case e4 => rfl)) | fail)
 go_ret
 exact ⟨rfl, B112.out⟩
set_option maxHeartbeats 16000000 in
theorem mcc_lo3 (m : MnA) (j : Nat) (c : Int) (w : World) (hlaid : Laid w) (wm : m.Ok w) (hc : 0 ≤ c ∧ c ≤ 255) (p : mfew m.m = true) (a : mmay m.m = true) (hj : j < (packL 1 (mnB m.m)).length) (hx : ¬ (packL 1 (mnB m.m)).getD j 0 = c) (hmid : j = 0) (hms : mget ((packL 1 (mnB m.m)).set j c) = (mnZ, 3)) :
  Calls Tryd.prog 4 #[.agg m.cs.toArray, .int .i64 j, .int .u8 c] w fun e w' => e = .returned (.bool true) ∧ Below w.heap.size w w' := by
 have HLA := Lib.hid (fun (X : World) (hX : Below w.heap.size w X) => hlaid.below hX (Nat.le_refl _))
 have Fm := Lib.hid wm
 have LM := Lib.hid (MnA.len wm)
 have GM := Lib.hid (mn_good wm)
 have hzm := zeroMn
 rw [show mnA0.v = .agg mnA0.cs.toArray from rfl] at hzm
 have hzne1 : ¬ mnA0.cs.toArray = #[] := by decide
 have PM := Lib.hid p
 have MM := Lib.hid a
 have hw1 := mmay_wf a (mn_good wm)
 have HZB := Lib.hid (pack_bytes (k := 1) (by decide) (by decide) (mnB_ok hw1).1)
 have HZ9 := Lib.hid (show (packL 1 (mnB m.m)).length ≤ 200000 by have h1 := pack_len 1 (mnB m.m); have h2 := (mnB_ok hw1).2; have h3 := enc_len (mnB m.m).length; omega)
 have HZ39 := Lib.hid (mput_least hw1)
 have HJZ := Lib.hid hj
 have HMO := Lib.hid (mget_more hw1 c)
 have HML := Lib.hid (mget_less hw1 hj)
 have HCB := Lib.hid (show AllBytes [c] from fun z hz => by rw [List.mem_singleton.1 hz]; exact hc)
 have HX := Lib.hid hx
 have HMID := Lib.hid hmid
 have HSB := Lib.hid (show AllBytes ((packL 1 (mnB m.m)).set j c) from fun z hz => by
  rcases List.mem_or_eq_of_mem_set hz with h1 | h1
  ·exact HZB.out z h1
  ·rw [h1]; exact hc)
 have HMS := Lib.hid hms
 obtain ⟨Z, hZ⟩ : ∃ Z, packL 1 (mnB m.m) = Z := ⟨_, rfl⟩
 have HZ := Lib.hid hZ
 rw [hZ] at HZB HZ9 HZ39 HJZ HMO HML HX HSB HMS
 clear hlaid wm hc p a hw1 hZ hj hx hmid hms
 have B1 := Lib.hid (Below.refl w.heap.size w)
 have T2n := RowAt.new w m.cs.toArray 26
 have T2 := Lib.hid T2n
 clear T2n
 have B3 := Lib.hid (B1.out.alloc B1.out.size (.cells m.cs.toArray 26))
 have F4 := Lib.hid (Fm.out.below B3.out (Nat.le_refl _))
 go_enter Tryd.func4, Tryd.ntmps4
 have C5 := Lib.hid (mcAwake (w.alloc (.cells m.cs.toArray 26)) (HLA.out _ B3.out))
 go_wp2_with fail
 refine C5.out.mono ?_
 rintro e w6 ⟨rfl, hb7⟩
 have T8 := Lib.hid (T2.out.below hb7 T2.out.lt)
 have F9 := Lib.hid (F4.out.below hb7 (Nat.le_refl _))
 have B10 := Lib.hid (B3.out.trans (hb7.mono B3.out.size))
 clear hb7
 have M11 := Lib.hid (T8.out.mn LM.out)
 have C12 := Lib.hid (rfew12_any m w6 F9.out)
 rw [PM.out] at C12
 go_wp2_with (first | ((with_reducible refine wpList_load_at (o := ⟨some 19, .load 26 (.tmp 3), _, _, _, _⟩) ?e1 26 (.tmp 3) ?e2 ⟨w.heap.size, 0, none⟩ ?e3 _ M11.out ?_); (case e1 => rfl); (case e2 => rfl); (case e3 => rfl)))
 refine C12.out.mono ?_
 rintro e w13 ⟨rfl, hb14⟩
 have T15 := Lib.hid (T8.out.below hb14 T8.out.lt)
 have F16 := Lib.hid (F9.out.below hb14 (Nat.le_refl _))
 have B17 := Lib.hid (B10.out.trans (hb14.mono B10.out.size))
 clear hb14
 have M22 := Lib.hid (T15.out.mn LM.out)
 have C23 := Lib.hid (put13_any m w13 F16.out GM.out)
 unfold MPutPost at C23
 simp only [MM.out, if_true] at C23
 unfold GivesT at C23
 rw [HZ.out] at C23
 go_wp2_with (first | ((with_reducible refine wpList_load_at (o := ⟨some 22, .load 26 (.tmp 3), _, _, _, _⟩) ?e1 26 (.tmp 3) ?e2 ⟨w.heap.size, 0, none⟩ ?e3 _ M22.out ?_); (case e1 => rfl); (case e2 => rfl); (case e3 => rfl)))
 refine C23.out.mono ?_
 rintro e w24 ⟨A1, n1, c1, rfl, hn18, h19, h20, ho21, hb25⟩
 have T26 := Lib.hid (T15.out.below hb25 T15.out.lt)
 have F27 := Lib.hid (F16.out.below hb25 (Nat.le_refl _))
 have B28 := Lib.hid (B17.out.trans (hb25.mono B17.out.size))
 clear hb25
 have Y29 := Lib.hid (BsAt.own ho21)
 have N30 := Lib.hid (hn18)
 have N31 := Lib.hid (And.intro h19 h20)
 clear hn18 h19 h20 ho21
 obtain ⟨b0, o0, hA1, _, _⟩ := Y29.out.1 (fun e => by have h2 := HZ39.out; rw [e] at h2; simp at h2)
 subst hA1
 have HN9 := Lib.hid (show n1 ≤ 200000 by rw [← N30.out]; exact HZ9.out)
 have t39 : ¬ (n1 : Int) < 39 := by have h1 := N30.out; have h2 := HZ39.out; omega
 have HJ := Lib.hid (show j < n1 by rw [← N30.out]; exact HJZ.out)
 have t40 : ¬ (n1 : Int) ≤ (j : Int) := by have := HJ.out; omega
 have t41 : ¬ (j : Int) < 0 := by omega
 obtain ⟨i0, hi, hz0, hz1, hz2⟩ := info_parts infoByte
 go_wp2_with (first | (at_builtin; refine wpList_append_byt (o := ⟨some 63, _, _, _, _, _⟩) _ rfl _ _ 27 rfl w24.heap.size 5 i0 Tryd.underlying27 hi hz0 hz1 hz2 _ 0 [] rfl (World.ownsRow_nil _ _ _ _) w24.heap.size (some ⟨b0, o0, none⟩) n1 c1 Z rfl Y29.out.1 N30.out (fun e => by cases e) (by have := HN9.out; omega) (Nat.le_refl _) ?_; intro v30 w30 ho30 hg30; rw [Nat.zero_add, List.nil_append] at ho30; have O30 := Lib.hid (ho30.alloc (.cells #[.int .u8 c] 5)); have D30 := Lib.hid (((Below.refl w24.heap.size w24).grown hg30 (Nat.le_refl _) (fun g hg => by cases hg)).alloc (by have := hg30.size; omega) (.cells #[.int .u8 c] 5)); have LB30 := Lib.hid (one_byt w30 c); clear ho30 hg30) | (at_builtin; refine wpList_append_byt (o := ⟨some 66, _, _, _, _, _⟩) _ rfl _ _ 27 rfl w24.heap.size 5 i0 Tryd.underlying27 hi hz0 hz1 hz2 _ n1 Z rfl O30.out _ (some ⟨w30.heap.size, 0, none⟩) 1 1 [c] rfl LB30.out.1 rfl (fun e => by cases e) (by have := HN9.out; omega) D30.out.size ?_; intro v40 w40 ho40 hg40; obtain ⟨g40, k40, rfl, hgb40, hnk40, hkm40⟩ := own_formM ho40 (by omega); have Y40 := Lib.hid (BsAt.own ho40); have D40 := Lib.hid (D30.out.grown hg40 D30.out.size (fun g hg => own_base O30.out hg)); have K40 := Lib.hid (And.intro hnk40 hkm40); clear ho40 hg40 hgb40 hnk40 hkm40) | fail)
 have hb40 := D40.out
 have T32 := Lib.hid (T26.out.below hb40 T26.out.lt)
 have F33 := Lib.hid (F27.out.below hb40 (Nat.le_refl _))
 have F34 := Lib.hid (Y29.out.below hb40 (Nat.le_refl _))
 have B35 := Lib.hid (B28.out.trans (hb40.mono B28.out.size))
 clear hb40
 have C36 := Lib.hid (get13_any (some ⟨g40, 0, none⟩) (n1 + 1) k40 (Z ++ [c]) w40 Y40.out.1 (Nat.le_refl _) Y40.out.2.1 (all_append HZB.out HCB.out) K40.out.1 K40.out.2)
 unfold MGetPost at C36
 rw [HMO.out] at C36
 dsimp only at C36
 refine C36.out.mono ?_
 rintro e w50 ⟨y1, rfl, hy1m, hy1o, hb50⟩
 have T37 := Lib.hid (T32.out.below hb50 T32.out.lt)
 have F38 := Lib.hid (F33.out.below hb50 (Nat.le_refl _))
 have F39 := Lib.hid (F34.out.below hb50 (Nat.le_refl _))
 have B40 := Lib.hid (B35.out.trans (hb50.mono B35.out.size))
 clear hb50
 have F41 := Lib.hid (hy1o)
 clear hy1m hy1o
 have SZ41 := Lib.hid (mn_size F41.out)
 have SQ41 := Lib.hid (show mnA0.cs.toArray.size = y1.cs.toArray.size by rw [mnA0_size, List.size_toArray]; exact (MnA.len F41.out).symm)
 have SO41 := Lib.hid (mn_ones y1)
 have L43 := Lib.hid (MnA.len F41.out)
 have hb44 := (Below.refl w50.heap.size w50).alloc (Nat.le_refl _) (.cells y1.cs.toArray 26)
 have T45 := Lib.hid (RowAt.new w50 y1.cs.toArray 26)
 have T46 := Lib.hid (T37.out.below hb44 T37.out.lt)
 have F47 := Lib.hid (F38.out.below hb44 (Nat.le_refl _))
 have F48 := Lib.hid (F39.out.below hb44 (Nat.le_refl _))
 have F49 := Lib.hid (F41.out.below hb44 (Nat.le_refl _))
 have B50 := Lib.hid (B40.out.trans (hb44.mono B40.out.size))
 clear hb44
 have TK := F48
 have hsl := sl_h (some ⟨b0, o0, none⟩) n1 c1 j (by have := HJ.out; have := N31.out.1; omega) (j : Int) rfl
 have Y51 := Lib.hid (show BsAt _ (some ⟨b0, o0, none⟩) j c1 (Z.take j) from ⟨TK.out.1.take j, by rw [List.length_take, N30.out]; have := HJ.out; omega, fun e => by cases e⟩)
 have HTL := Lib.hid Y51.out.2.1
 have HTB := Lib.hid (all_take HZB.out j)
 have HTK := Lib.hid (show j ≤ c1 ∧ c1 ≤ maxLen from ⟨by have := HJ.out; have := N31.out.1; omega, N31.out.2⟩)
 have C55 := Lib.hid (get13_any (some ⟨b0, o0, none⟩) j c1 (Z.take j) (w50.alloc (.cells y1.cs.toArray 26)) Y51.out.1 (Nat.le_refl _) HTL.out HTB.out HTK.out.1 HTK.out.2)
 unfold MGetPost at C55
 rw [HML.out] at C55
 dsimp only at C55
 go_wp2_with (first | ((with_reducible refine wpList_store_new (o := ⟨none, .store 26 (.tmp 11) (.tmp 68), _, _, _, _⟩) ?e1 26 (.tmp 11) (.tmp 68) ?e2 ?e3 mnA0.cs.toArray y1.cs.toArray ?e4 SZ41.out SQ41.out SO41.out ?_); (case e1 => rfl); (case e2 => rfl); (case e3 => (first | rfl | exact congrArg (fun q => Value.pointer (some ⟨q, 0, none⟩)) (World.size_alloc _ _).symm)); (case e4 => rfl)))
 refine C55.out.mono ?_
 rintro e w56 ⟨d52, rfl, hd53, hk54, hb57⟩
 have T58 := Lib.hid (T46.out.below hb57 T46.out.lt)
 have T59 := Lib.hid (T45.out.below hb57 T45.out.lt)
 have F60 := Lib.hid (F47.out.below hb57 (Nat.le_refl _))
 have F61 := Lib.hid (F48.out.below hb57 (Nat.le_refl _))
 have F62 := Lib.hid (F49.out.below hb57 (Nat.le_refl _))
 have F63 := Lib.hid (Y51.out.below hb57 (Nat.le_refl _))
 have B64 := Lib.hid (B50.out.trans (hb57.mono B50.out.size))
 clear hb57
 have E65 := Lib.hid (hd53)
 have F66 := Lib.hid (hk54)
 clear hd53 hk54
 have SZ66 := Lib.hid (mn_size F66.out)
 have SQ66 := Lib.hid (show mnA0.cs.toArray.size = d52.cs.toArray.size by rw [mnA0_size, List.size_toArray]; exact (MnA.len F66.out).symm)
 have SO66 := Lib.hid (mn_ones d52)
 have L68 := Lib.hid (MnA.len F66.out)
 have hb69 := (Below.refl w56.heap.size w56).alloc (Nat.le_refl _) (.cells d52.cs.toArray 26)
 have T70 := Lib.hid (RowAt.new w56 d52.cs.toArray 26)
 have T71 := Lib.hid (T58.out.below hb69 T58.out.lt)
 have T72 := Lib.hid (T59.out.below hb69 T59.out.lt)
 have F73 := Lib.hid (F60.out.below hb69 (Nat.le_refl _))
 have F74 := Lib.hid (F61.out.below hb69 (Nat.le_refl _))
 have F75 := Lib.hid (F62.out.below hb69 (Nat.le_refl _))
 have F76 := Lib.hid (F63.out.below hb69 (Nat.le_refl _))
 have F77 := Lib.hid (F66.out.below hb69 (Nat.le_refl _))
 have B78 := Lib.hid (B64.out.trans (hb69.mono B64.out.size))
 clear hb69
 have hix := ix_at b0 o0 n1 c1 j HJ.out (j : Int) rfl
 have hcl := bs_cell F74.out HJZ.out
 clear hsl
 have hx := HX.out
 generalize Z.getD j 0 = z at hcl hx
 have hx2 : (z == c) = false := by simpa using hx
 have t42 : ¬ (1 : Int) ≤ (j : Int) := by have := HMID.out; omega
 go_wp2_with (first | ((with_reducible refine wpList_store_new (o := ⟨none, .store 26 (.tmp 13) (.tmp 75), _, _, _, _⟩) ?e1 26 (.tmp 13) (.tmp 75) ?e2 ?e3 mnA0.cs.toArray d52.cs.toArray ?e4 SZ66.out SQ66.out SO66.out ?_); (case e1 => rfl); (case e2 => rfl); (case e3 => (first | rfl | exact congrArg (fun q => Value.pointer (some ⟨q, 0, none⟩)) (World.size_alloc _ _).symm)); (case e4 => rfl)) | (at_builtin; refine wpList_append_byt (o := ⟨some 98, _, _, _, _, _⟩) _ rfl _ _ 27 rfl (w56.alloc (.cells d52.cs.toArray 26)).heap.size 5 i0 Tryd.underlying27 hi hz0 hz1 hz2 _ 0 [] rfl (World.ownsRow_nil _ _ _ _) (w56.alloc (.cells d52.cs.toArray 26)).heap.size (some ⟨b0, o0, none⟩) n1 c1 Z rfl F74.out.1 N30.out (fun e => by cases e) (by have := HN9.out; omega) (Nat.le_refl _) ?_; intro v60 w60 ho60 hg60; rw [Nat.zero_add, List.nil_append] at ho60; obtain ⟨g60, k60, rfl, hgb60, hnk60, hkm60⟩ := own_formM ho60 (by have := HJ.out; omega); have hcl6 := ho60.cellAt j (by have := HJ.out; omega); rw [List.getElem?_map, List.getElem?_eq_getElem HJZ.out, Option.map_some] at hcl6; have hfr6 := ho60.frozenAt j; have hix6 := ix_at g60 0 n1 k60 j HJ.out (j : Int) rfl; rw [Nat.zero_add] at hix6; have Y60 := Lib.hid (BsAt.own (own_setM ho60 j c)); have D60 := Lib.hid (((Below.refl (w56.alloc (.cells d52.cs.toArray 26)).heap.size (w56.alloc (.cells d52.cs.toArray 26))).grown hg60 (Nat.le_refl _) (fun g hg => by cases hg)).setCell (p := ⟨g60, j, none⟩) hgb60 (.int .u8 c)); have K60 := Lib.hid (And.intro hnk60 hkm60); clear ho60 hg60 hgb60 hnk60 hkm60) | fail)
 have hb60 := D60.out
 have T79 := Lib.hid (T71.out.below hb60 T71.out.lt)
 have T80 := Lib.hid (T72.out.below hb60 T72.out.lt)
 have T81 := Lib.hid (T70.out.below hb60 T70.out.lt)
 have F82 := Lib.hid (F73.out.below hb60 (Nat.le_refl _))
 have F83 := Lib.hid (F74.out.below hb60 (Nat.le_refl _))
 have F84 := Lib.hid (F75.out.below hb60 (Nat.le_refl _))
 have F85 := Lib.hid (F76.out.below hb60 (Nat.le_refl _))
 have F86 := Lib.hid (F77.out.below hb60 (Nat.le_refl _))
 have B87 := Lib.hid (B78.out.trans (hb60.mono B78.out.size))
 clear hb60
 have C88 := Lib.hid (get13_any (some ⟨g60, 0, none⟩) n1 k60 (Z.set j c) (w60.setCell ⟨g60, j, none⟩ (.int .u8 c)) Y60.out.1 (Nat.le_refl _) Y60.out.2.1 HSB.out K60.out.1 K60.out.2)
 unfold MGetPost at C88
 rw [HMS.out] at C88
 dsimp only at C88
 clear hcl hcl6 hfr6 hix6 hix
 refine C88.out.mono ?_
 rintro e w70 ⟨y3, rfl, hy3m, hy3o, hb70⟩
 have T89 := Lib.hid (T79.out.below hb70 T79.out.lt)
 have T90 := Lib.hid (T80.out.below hb70 T80.out.lt)
 have T91 := Lib.hid (T81.out.below hb70 T81.out.lt)
 have F92 := Lib.hid (F82.out.below hb70 (Nat.le_refl _))
 have F93 := Lib.hid (F83.out.below hb70 (Nat.le_refl _))
 have F94 := Lib.hid (F84.out.below hb70 (Nat.le_refl _))
 have F95 := Lib.hid (F85.out.below hb70 (Nat.le_refl _))
 have F96 := Lib.hid (F86.out.below hb70 (Nat.le_refl _))
 have B97 := Lib.hid (B87.out.trans (hb70.mono B87.out.size))
 clear hb70
 have F98 := Lib.hid (hy3o)
 clear hy3m hy3o
 have SZ98 := Lib.hid (mn_size F98.out)
 have SQ98 := Lib.hid (show mnA0.cs.toArray.size = y3.cs.toArray.size by rw [mnA0_size, List.size_toArray]; exact (MnA.len F98.out).symm)
 have SO98 := Lib.hid (mn_ones y3)
 have L100 := Lib.hid (MnA.len F98.out)
 have hb101 := (Below.refl w70.heap.size w70).alloc (Nat.le_refl _) (.cells y3.cs.toArray 26)
 have T102 := Lib.hid (RowAt.new w70 y3.cs.toArray 26)
 have T103 := Lib.hid (T89.out.below hb101 T89.out.lt)
 have T104 := Lib.hid (T90.out.below hb101 T90.out.lt)
 have T105 := Lib.hid (T91.out.below hb101 T91.out.lt)
 have F106 := Lib.hid (F92.out.below hb101 (Nat.le_refl _))
 have F107 := Lib.hid (F93.out.below hb101 (Nat.le_refl _))
 have F108 := Lib.hid (F94.out.below hb101 (Nat.le_refl _))
 have F109 := Lib.hid (F95.out.below hb101 (Nat.le_refl _))
 have F110 := Lib.hid (F96.out.below hb101 (Nat.le_refl _))
 have F111 := Lib.hid (F98.out.below hb101 (Nat.le_refl _))
 have B112 := Lib.hid (B97.out.trans (hb101.mono B97.out.size))
 clear hb101
 go_wp2_with (first | ((with_reducible refine wpList_store_new (o := ⟨none, .store 26 (.tmp 16) (.tmp 106), _, _, _, _⟩) ?e1 26 (.tmp 16) (.tmp 106) ?e2 ?e3 mnA0.cs.toArray y3.cs.toArray ?e4 SZ98.out SQ98.out SO98.out ?_); (case e1 => rfl); (case e2 => rfl); (case e3 => (first | rfl | exact congrArg (fun q => Value.pointer (some ⟨q, 0, none⟩)) (World.size_alloc _ _).symm)); (case e4 => rfl)) | fail)
 go_ret
 exact ⟨rfl, B112.out⟩
set_option maxHeartbeats 16000000 in
theorem mcc_lo2 (m : MnA) (j : Nat) (c : Int) (w : World) (hlaid : Laid w) (wm : m.Ok w) (hc : 0 ≤ c ∧ c ≤ 255) (p : mfew m.m = true) (a : mmay m.m = true) (hj : j < (packL 1 (mnB m.m)).length) (hx : ¬ (packL 1 (mnB m.m)).getD j 0 = c) (hmid : j = 0) (hms : mget ((packL 1 (mnB m.m)).set j c) = (mnZ, 2)) :
  Calls Tryd.prog 4 #[.agg m.cs.toArray, .int .i64 j, .int .u8 c] w fun e w' => e = .returned (.bool true) ∧ Below w.heap.size w w' := by
 have HLA := Lib.hid (fun (X : World) (hX : Below w.heap.size w X) => hlaid.below hX (Nat.le_refl _))
 have Fm := Lib.hid wm
 have LM := Lib.hid (MnA.len wm)
 have GM := Lib.hid (mn_good wm)
 have hzm := zeroMn
 rw [show mnA0.v = .agg mnA0.cs.toArray from rfl] at hzm
 have hzne1 : ¬ mnA0.cs.toArray = #[] := by decide
 have PM := Lib.hid p
 have MM := Lib.hid a
 have hw1 := mmay_wf a (mn_good wm)
 have HZB := Lib.hid (pack_bytes (k := 1) (by decide) (by decide) (mnB_ok hw1).1)
 have HZ9 := Lib.hid (show (packL 1 (mnB m.m)).length ≤ 200000 by have h1 := pack_len 1 (mnB m.m); have h2 := (mnB_ok hw1).2; have h3 := enc_len (mnB m.m).length; omega)
 have HZ39 := Lib.hid (mput_least hw1)
 have HJZ := Lib.hid hj
 have HMO := Lib.hid (mget_more hw1 c)
 have HML := Lib.hid (mget_less hw1 hj)
 have HCB := Lib.hid (show AllBytes [c] from fun z hz => by rw [List.mem_singleton.1 hz]; exact hc)
 have HX := Lib.hid hx
 have HMID := Lib.hid hmid
 have HSB := Lib.hid (show AllBytes ((packL 1 (mnB m.m)).set j c) from fun z hz => by
  rcases List.mem_or_eq_of_mem_set hz with h1 | h1
  ·exact HZB.out z h1
  ·rw [h1]; exact hc)
 have HMS := Lib.hid hms
 obtain ⟨Z, hZ⟩ : ∃ Z, packL 1 (mnB m.m) = Z := ⟨_, rfl⟩
 have HZ := Lib.hid hZ
 rw [hZ] at HZB HZ9 HZ39 HJZ HMO HML HX HSB HMS
 clear hlaid wm hc p a hw1 hZ hj hx hmid hms
 have B1 := Lib.hid (Below.refl w.heap.size w)
 have T2n := RowAt.new w m.cs.toArray 26
 have T2 := Lib.hid T2n
 clear T2n
 have B3 := Lib.hid (B1.out.alloc B1.out.size (.cells m.cs.toArray 26))
 have F4 := Lib.hid (Fm.out.below B3.out (Nat.le_refl _))
 go_enter Tryd.func4, Tryd.ntmps4
 have C5 := Lib.hid (mcAwake (w.alloc (.cells m.cs.toArray 26)) (HLA.out _ B3.out))
 go_wp2_with fail
 refine C5.out.mono ?_
 rintro e w6 ⟨rfl, hb7⟩
 have T8 := Lib.hid (T2.out.below hb7 T2.out.lt)
 have F9 := Lib.hid (F4.out.below hb7 (Nat.le_refl _))
 have B10 := Lib.hid (B3.out.trans (hb7.mono B3.out.size))
 clear hb7
 have M11 := Lib.hid (T8.out.mn LM.out)
 have C12 := Lib.hid (rfew12_any m w6 F9.out)
 rw [PM.out] at C12
 go_wp2_with (first | ((with_reducible refine wpList_load_at (o := ⟨some 19, .load 26 (.tmp 3), _, _, _, _⟩) ?e1 26 (.tmp 3) ?e2 ⟨w.heap.size, 0, none⟩ ?e3 _ M11.out ?_); (case e1 => rfl); (case e2 => rfl); (case e3 => rfl)))
 refine C12.out.mono ?_
 rintro e w13 ⟨rfl, hb14⟩
 have T15 := Lib.hid (T8.out.below hb14 T8.out.lt)
 have F16 := Lib.hid (F9.out.below hb14 (Nat.le_refl _))
 have B17 := Lib.hid (B10.out.trans (hb14.mono B10.out.size))
 clear hb14
 have M22 := Lib.hid (T15.out.mn LM.out)
 have C23 := Lib.hid (put13_any m w13 F16.out GM.out)
 unfold MPutPost at C23
 simp only [MM.out, if_true] at C23
 unfold GivesT at C23
 rw [HZ.out] at C23
 go_wp2_with (first | ((with_reducible refine wpList_load_at (o := ⟨some 22, .load 26 (.tmp 3), _, _, _, _⟩) ?e1 26 (.tmp 3) ?e2 ⟨w.heap.size, 0, none⟩ ?e3 _ M22.out ?_); (case e1 => rfl); (case e2 => rfl); (case e3 => rfl)))
 refine C23.out.mono ?_
 rintro e w24 ⟨A1, n1, c1, rfl, hn18, h19, h20, ho21, hb25⟩
 have T26 := Lib.hid (T15.out.below hb25 T15.out.lt)
 have F27 := Lib.hid (F16.out.below hb25 (Nat.le_refl _))
 have B28 := Lib.hid (B17.out.trans (hb25.mono B17.out.size))
 clear hb25
 have Y29 := Lib.hid (BsAt.own ho21)
 have N30 := Lib.hid (hn18)
 have N31 := Lib.hid (And.intro h19 h20)
 clear hn18 h19 h20 ho21
 obtain ⟨b0, o0, hA1, _, _⟩ := Y29.out.1 (fun e => by have h2 := HZ39.out; rw [e] at h2; simp at h2)
 subst hA1
 have HN9 := Lib.hid (show n1 ≤ 200000 by rw [← N30.out]; exact HZ9.out)
 have t39 : ¬ (n1 : Int) < 39 := by have h1 := N30.out; have h2 := HZ39.out; omega
 have HJ := Lib.hid (show j < n1 by rw [← N30.out]; exact HJZ.out)
 have t40 : ¬ (n1 : Int) ≤ (j : Int) := by have := HJ.out; omega
 have t41 : ¬ (j : Int) < 0 := by omega
 obtain ⟨i0, hi, hz0, hz1, hz2⟩ := info_parts infoByte
 go_wp2_with (first | (at_builtin; refine wpList_append_byt (o := ⟨some 63, _, _, _, _, _⟩) _ rfl _ _ 27 rfl w24.heap.size 5 i0 Tryd.underlying27 hi hz0 hz1 hz2 _ 0 [] rfl (World.ownsRow_nil _ _ _ _) w24.heap.size (some ⟨b0, o0, none⟩) n1 c1 Z rfl Y29.out.1 N30.out (fun e => by cases e) (by have := HN9.out; omega) (Nat.le_refl _) ?_; intro v30 w30 ho30 hg30; rw [Nat.zero_add, List.nil_append] at ho30; have O30 := Lib.hid (ho30.alloc (.cells #[.int .u8 c] 5)); have D30 := Lib.hid (((Below.refl w24.heap.size w24).grown hg30 (Nat.le_refl _) (fun g hg => by cases hg)).alloc (by have := hg30.size; omega) (.cells #[.int .u8 c] 5)); have LB30 := Lib.hid (one_byt w30 c); clear ho30 hg30) | (at_builtin; refine wpList_append_byt (o := ⟨some 66, _, _, _, _, _⟩) _ rfl _ _ 27 rfl w24.heap.size 5 i0 Tryd.underlying27 hi hz0 hz1 hz2 _ n1 Z rfl O30.out _ (some ⟨w30.heap.size, 0, none⟩) 1 1 [c] rfl LB30.out.1 rfl (fun e => by cases e) (by have := HN9.out; omega) D30.out.size ?_; intro v40 w40 ho40 hg40; obtain ⟨g40, k40, rfl, hgb40, hnk40, hkm40⟩ := own_formM ho40 (by omega); have Y40 := Lib.hid (BsAt.own ho40); have D40 := Lib.hid (D30.out.grown hg40 D30.out.size (fun g hg => own_base O30.out hg)); have K40 := Lib.hid (And.intro hnk40 hkm40); clear ho40 hg40 hgb40 hnk40 hkm40) | fail)
 have hb40 := D40.out
 have T32 := Lib.hid (T26.out.below hb40 T26.out.lt)
 have F33 := Lib.hid (F27.out.below hb40 (Nat.le_refl _))
 have F34 := Lib.hid (Y29.out.below hb40 (Nat.le_refl _))
 have B35 := Lib.hid (B28.out.trans (hb40.mono B28.out.size))
 clear hb40
 have C36 := Lib.hid (get13_any (some ⟨g40, 0, none⟩) (n1 + 1) k40 (Z ++ [c]) w40 Y40.out.1 (Nat.le_refl _) Y40.out.2.1 (all_append HZB.out HCB.out) K40.out.1 K40.out.2)
 unfold MGetPost at C36
 rw [HMO.out] at C36
 dsimp only at C36
 refine C36.out.mono ?_
 rintro e w50 ⟨y1, rfl, hy1m, hy1o, hb50⟩
 have T37 := Lib.hid (T32.out.below hb50 T32.out.lt)
 have F38 := Lib.hid (F33.out.below hb50 (Nat.le_refl _))
 have F39 := Lib.hid (F34.out.below hb50 (Nat.le_refl _))
 have B40 := Lib.hid (B35.out.trans (hb50.mono B35.out.size))
 clear hb50
 have F41 := Lib.hid (hy1o)
 clear hy1m hy1o
 have SZ41 := Lib.hid (mn_size F41.out)
 have SQ41 := Lib.hid (show mnA0.cs.toArray.size = y1.cs.toArray.size by rw [mnA0_size, List.size_toArray]; exact (MnA.len F41.out).symm)
 have SO41 := Lib.hid (mn_ones y1)
 have L43 := Lib.hid (MnA.len F41.out)
 have hb44 := (Below.refl w50.heap.size w50).alloc (Nat.le_refl _) (.cells y1.cs.toArray 26)
 have T45 := Lib.hid (RowAt.new w50 y1.cs.toArray 26)
 have T46 := Lib.hid (T37.out.below hb44 T37.out.lt)
 have F47 := Lib.hid (F38.out.below hb44 (Nat.le_refl _))
 have F48 := Lib.hid (F39.out.below hb44 (Nat.le_refl _))
 have F49 := Lib.hid (F41.out.below hb44 (Nat.le_refl _))
 have B50 := Lib.hid (B40.out.trans (hb44.mono B40.out.size))
 clear hb44
 have TK := F48
 have hsl := sl_h (some ⟨b0, o0, none⟩) n1 c1 j (by have := HJ.out; have := N31.out.1; omega) (j : Int) rfl
 have Y51 := Lib.hid (show BsAt _ (some ⟨b0, o0, none⟩) j c1 (Z.take j) from ⟨TK.out.1.take j, by rw [List.length_take, N30.out]; have := HJ.out; omega, fun e => by cases e⟩)
 have HTL := Lib.hid Y51.out.2.1
 have HTB := Lib.hid (all_take HZB.out j)
 have HTK := Lib.hid (show j ≤ c1 ∧ c1 ≤ maxLen from ⟨by have := HJ.out; have := N31.out.1; omega, N31.out.2⟩)
 have C55 := Lib.hid (get13_any (some ⟨b0, o0, none⟩) j c1 (Z.take j) (w50.alloc (.cells y1.cs.toArray 26)) Y51.out.1 (Nat.le_refl _) HTL.out HTB.out HTK.out.1 HTK.out.2)
 unfold MGetPost at C55
 rw [HML.out] at C55
 dsimp only at C55
 go_wp2_with (first | ((with_reducible refine wpList_store_new (o := ⟨none, .store 26 (.tmp 11) (.tmp 68), _, _, _, _⟩) ?e1 26 (.tmp 11) (.tmp 68) ?e2 ?e3 mnA0.cs.toArray y1.cs.toArray ?e4 SZ41.out SQ41.out SO41.out ?_); (case e1 => rfl); (case e2 => rfl); (case e3 => (first | rfl | exact congrArg (fun q => Value.pointer (some ⟨q, 0, none⟩)) (World.size_alloc _ _).symm)); (case e4 => rfl)))
 refine C55.out.mono ?_
 rintro e w56 ⟨d52, rfl, hd53, hk54, hb57⟩
 have T58 := Lib.hid (T46.out.below hb57 T46.out.lt)
 have T59 := Lib.hid (T45.out.below hb57 T45.out.lt)
 have F60 := Lib.hid (F47.out.below hb57 (Nat.le_refl _))
 have F61 := Lib.hid (F48.out.below hb57 (Nat.le_refl _))
 have F62 := Lib.hid (F49.out.below hb57 (Nat.le_refl _))
 have F63 := Lib.hid (Y51.out.below hb57 (Nat.le_refl _))
 have B64 := Lib.hid (B50.out.trans (hb57.mono B50.out.size))
 clear hb57
 have E65 := Lib.hid (hd53)
 have F66 := Lib.hid (hk54)
 clear hd53 hk54
 have SZ66 := Lib.hid (mn_size F66.out)
 have SQ66 := Lib.hid (show mnA0.cs.toArray.size = d52.cs.toArray.size by rw [mnA0_size, List.size_toArray]; exact (MnA.len F66.out).symm)
 have SO66 := Lib.hid (mn_ones d52)
 have L68 := Lib.hid (MnA.len F66.out)
 have hb69 := (Below.refl w56.heap.size w56).alloc (Nat.le_refl _) (.cells d52.cs.toArray 26)
 have T70 := Lib.hid (RowAt.new w56 d52.cs.toArray 26)
 have T71 := Lib.hid (T58.out.below hb69 T58.out.lt)
 have T72 := Lib.hid (T59.out.below hb69 T59.out.lt)
 have F73 := Lib.hid (F60.out.below hb69 (Nat.le_refl _))
 have F74 := Lib.hid (F61.out.below hb69 (Nat.le_refl _))
 have F75 := Lib.hid (F62.out.below hb69 (Nat.le_refl _))
 have F76 := Lib.hid (F63.out.below hb69 (Nat.le_refl _))
 have F77 := Lib.hid (F66.out.below hb69 (Nat.le_refl _))
 have B78 := Lib.hid (B64.out.trans (hb69.mono B64.out.size))
 clear hb69
 have hix := ix_at b0 o0 n1 c1 j HJ.out (j : Int) rfl
 have hcl := bs_cell F74.out HJZ.out
 clear hsl
 have hx := HX.out
 generalize Z.getD j 0 = z at hcl hx
 have hx2 : (z == c) = false := by simpa using hx
 have t42 : ¬ (1 : Int) ≤ (j : Int) := by have := HMID.out; omega
 go_wp2_with (first | ((with_reducible refine wpList_store_new (o := ⟨none, .store 26 (.tmp 13) (.tmp 75), _, _, _, _⟩) ?e1 26 (.tmp 13) (.tmp 75) ?e2 ?e3 mnA0.cs.toArray d52.cs.toArray ?e4 SZ66.out SQ66.out SO66.out ?_); (case e1 => rfl); (case e2 => rfl); (case e3 => (first | rfl | exact congrArg (fun q => Value.pointer (some ⟨q, 0, none⟩)) (World.size_alloc _ _).symm)); (case e4 => rfl)) | (at_builtin; refine wpList_append_byt (o := ⟨some 98, _, _, _, _, _⟩) _ rfl _ _ 27 rfl (w56.alloc (.cells d52.cs.toArray 26)).heap.size 5 i0 Tryd.underlying27 hi hz0 hz1 hz2 _ 0 [] rfl (World.ownsRow_nil _ _ _ _) (w56.alloc (.cells d52.cs.toArray 26)).heap.size (some ⟨b0, o0, none⟩) n1 c1 Z rfl F74.out.1 N30.out (fun e => by cases e) (by have := HN9.out; omega) (Nat.le_refl _) ?_; intro v60 w60 ho60 hg60; rw [Nat.zero_add, List.nil_append] at ho60; obtain ⟨g60, k60, rfl, hgb60, hnk60, hkm60⟩ := own_formM ho60 (by have := HJ.out; omega); have hcl6 := ho60.cellAt j (by have := HJ.out; omega); rw [List.getElem?_map, List.getElem?_eq_getElem HJZ.out, Option.map_some] at hcl6; have hfr6 := ho60.frozenAt j; have hix6 := ix_at g60 0 n1 k60 j HJ.out (j : Int) rfl; rw [Nat.zero_add] at hix6; have Y60 := Lib.hid (BsAt.own (own_setM ho60 j c)); have D60 := Lib.hid (((Below.refl (w56.alloc (.cells d52.cs.toArray 26)).heap.size (w56.alloc (.cells d52.cs.toArray 26))).grown hg60 (Nat.le_refl _) (fun g hg => by cases hg)).setCell (p := ⟨g60, j, none⟩) hgb60 (.int .u8 c)); have K60 := Lib.hid (And.intro hnk60 hkm60); clear ho60 hg60 hgb60 hnk60 hkm60) | fail)
 have hb60 := D60.out
 have T79 := Lib.hid (T71.out.below hb60 T71.out.lt)
 have T80 := Lib.hid (T72.out.below hb60 T72.out.lt)
 have T81 := Lib.hid (T70.out.below hb60 T70.out.lt)
 have F82 := Lib.hid (F73.out.below hb60 (Nat.le_refl _))
 have F83 := Lib.hid (F74.out.below hb60 (Nat.le_refl _))
 have F84 := Lib.hid (F75.out.below hb60 (Nat.le_refl _))
 have F85 := Lib.hid (F76.out.below hb60 (Nat.le_refl _))
 have F86 := Lib.hid (F77.out.below hb60 (Nat.le_refl _))
 have B87 := Lib.hid (B78.out.trans (hb60.mono B78.out.size))
 clear hb60
 have C88 := Lib.hid (get13_any (some ⟨g60, 0, none⟩) n1 k60 (Z.set j c) (w60.setCell ⟨g60, j, none⟩ (.int .u8 c)) Y60.out.1 (Nat.le_refl _) Y60.out.2.1 HSB.out K60.out.1 K60.out.2)
 unfold MGetPost at C88
 rw [HMS.out] at C88
 dsimp only at C88
 clear hcl hcl6 hfr6 hix6 hix
 refine C88.out.mono ?_
 rintro e w70 ⟨y3, rfl, hy3m, hy3o, hb70⟩
 have T89 := Lib.hid (T79.out.below hb70 T79.out.lt)
 have T90 := Lib.hid (T80.out.below hb70 T80.out.lt)
 have T91 := Lib.hid (T81.out.below hb70 T81.out.lt)
 have F92 := Lib.hid (F82.out.below hb70 (Nat.le_refl _))
 have F93 := Lib.hid (F83.out.below hb70 (Nat.le_refl _))
 have F94 := Lib.hid (F84.out.below hb70 (Nat.le_refl _))
 have F95 := Lib.hid (F85.out.below hb70 (Nat.le_refl _))
 have F96 := Lib.hid (F86.out.below hb70 (Nat.le_refl _))
 have B97 := Lib.hid (B87.out.trans (hb70.mono B87.out.size))
 clear hb70
 have F98 := Lib.hid (hy3o)
 clear hy3m hy3o
 have SZ98 := Lib.hid (mn_size F98.out)
 have SQ98 := Lib.hid (show mnA0.cs.toArray.size = y3.cs.toArray.size by rw [mnA0_size, List.size_toArray]; exact (MnA.len F98.out).symm)
 have SO98 := Lib.hid (mn_ones y3)
 have L100 := Lib.hid (MnA.len F98.out)
 have hb101 := (Below.refl w70.heap.size w70).alloc (Nat.le_refl _) (.cells y3.cs.toArray 26)
 have T102 := Lib.hid (RowAt.new w70 y3.cs.toArray 26)
 have T103 := Lib.hid (T89.out.below hb101 T89.out.lt)
 have T104 := Lib.hid (T90.out.below hb101 T90.out.lt)
 have T105 := Lib.hid (T91.out.below hb101 T91.out.lt)
 have F106 := Lib.hid (F92.out.below hb101 (Nat.le_refl _))
 have F107 := Lib.hid (F93.out.below hb101 (Nat.le_refl _))
 have F108 := Lib.hid (F94.out.below hb101 (Nat.le_refl _))
 have F109 := Lib.hid (F95.out.below hb101 (Nat.le_refl _))
 have F110 := Lib.hid (F96.out.below hb101 (Nat.le_refl _))
 have F111 := Lib.hid (F98.out.below hb101 (Nat.le_refl _))
 have B112 := Lib.hid (B97.out.trans (hb101.mono B97.out.size))
 clear hb101
 have t44 : ((j : Int) == 0) = true := by have := HMID.out; simp; omega
 have t45 : (j : Int) = 0 := by have := HMID.out; omega
 go_wp2_with (first | ((with_reducible refine wpList_store_new (o := ⟨none, .store 26 (.tmp 16) (.tmp 106), _, _, _, _⟩) ?e1 26 (.tmp 16) (.tmp 106) ?e2 ?e3 mnA0.cs.toArray y3.cs.toArray ?e4 SZ98.out SQ98.out SO98.out ?_); (case e1 => rfl); (case e2 => rfl); (case e3 => (first | rfl | exact congrArg (fun q => Value.pointer (some ⟨q, 0, none⟩)) (World.size_alloc _ _).symm)); (case e4 => rfl)) | fail)
 go_ret
 exact ⟨rfl, B112.out⟩
theorem walk_manicChanged (m : MnA) (i c : Int) (w : World) (hlaid : Laid w) (wm : m.Ok w) (wi : (Lit.int .i64 i).wf = true) (wc : (Lit.int .u8 c).wf = true) :
  Calls Tryd.prog 4 #[m.v, .int .i64 i, .int .u8 c] w fun e w' => e = .returned (.bool true) ∧ Below w.heap.size w w' := by
 show Calls Tryd.prog 4 #[.agg m.cs.toArray, .int .i64 i, .int .u8 c] w fun e w' => e = .returned (.bool true) ∧ Below w.heap.size w w'
 have hc := bounds_u8 wc
 cases a : mmay m.m
 ·cases p : mfew m.m
  ·exact mcc_nof m i c w hlaid wm hc p a
  ·exact mcc_not m i c w hlaid wm hc p a
 ·cases p : mfew m.m
  ·exact mcc_few m i c w hlaid wm hc p a
  ·by_cases hneg : i < 0
   ·exact mcc_neg m i c w hlaid wm hc p a hneg
   ·by_cases hfar : ((packL 1 (mnB m.m)).length : Int) ≤ i
    ·exact mcc_far m i c w hlaid wm hc p a hfar (by omega)
    ·obtain ⟨j, rfl⟩ : ∃ j : Nat, i = j := ⟨i.toNat, by omega⟩
     have hj : j < (packL 1 (mnB m.m)).length := by omega
     by_cases hx : (packL 1 (mnB m.m)).getD j 0 = c
     ·exact mcc_same m j c w hlaid wm hc p a hj hx
     ·by_cases hmid : 1 ≤ j ∧ j ≤ 3
      ·exact mcc_mid m j c w hlaid wm hc p a hj hx hmid
      ·have ho := mget_one (mmay_wf a (mn_good wm)) hc hj hx (by omega)
       have he : ∀ k : Int, k ≠ 0 → (mget ((packL 1 (mnB m.m)).set j c)).2 = k → mget ((packL 1 (mnB m.m)).set j c) = (mnZ, k) := fun k hk h => by
        have h2 := mget_err (zs := (packL 1 (mnB m.m)).set j c) (by rw [h]; exact hk)
        exact Prod.ext h2 h
       by_cases h0 : j = 0
       ·rcases ho with h3 | ⟨_, h3⟩
        ·exact mcc_lo3 m j c w hlaid wm hc p a hj hx h0 (he 3 (by decide) h3)
        ·exact mcc_lo2 m j c w hlaid wm hc p a hj hx h0 (he 2 (by decide) h3)
       ·rcases ho with h3 | ⟨h4, _⟩
        ·exact mcc_hi m j c w hlaid wm hc p a hj hx (by omega) (he 3 (by decide) h3)
        ·exact absurd h4 h0
end
end Go.Proofs.YtkjimhlpbgeagaaDoor
