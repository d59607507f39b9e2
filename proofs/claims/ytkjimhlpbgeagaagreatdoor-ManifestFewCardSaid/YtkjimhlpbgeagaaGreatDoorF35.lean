import Derived.Test.YtkjimhlpbgeagaaGreatDoorF0
import Derived.Test.YtkjimhlpbgeagaaGreatDoorF33
import Derived.Test.YtkjimhlpbgeagaaGreatDoorF34
import Derived.Test.YtkjimhlpbgeagaaGreatDoorF30
/-
  What the functions that a law of this layer reaches answer, part 35. Nothing that was there is written.
-/
namespace Go.Proofs.YtkjimhlpbgeagaaGreatDoor
set_option linter.unusedVariables false
set_option linter.unusedSimpArgs false
section
open Go.RowKit Go.Shelf WM
set_option maxRecDepth 100000
set_option maxHeartbeats 16000000 in
theorem mfw_few (m : MnA) (w : World) (hlaid : Laid w) (wm : m.Ok w) (p : mfew m.m = false) :
  Calls Tryz.prog 3 #[.agg m.cs.toArray] w fun e w' => e = .returned (.bool true) ∧ Below w.heap.size w w' := by
 have HLA := Lib.hid (fun (X : World) (hX : Below w.heap.size w X) => hlaid.below hX (Nat.le_refl _))
 have Fm := Lib.hid wm
 have LM := Lib.hid (MnA.len wm)
 have HM32 := Lib.hid wm.1
 obtain ⟨nl, hnl⟩ : ∃ n, m.ls.length = n := ⟨_, rfl⟩
 have HNL := Lib.hid hnl
 have hnb : nl ≤ 9223372036854775807 := by
  have a1 := wm.2.2.1
  have a2 := wm.2.2.2.1
  simp only [maxLen] at a2
  omega
 have PM := Lib.hid p
 clear hlaid wm p hnl
 have B1 := Lib.hid (Below.refl w.heap.size w)
 have T2n := RowAt.new w m.cs.toArray 26
 have T2 := Lib.hid T2n
 clear T2n
 have B3 := Lib.hid (B1.out.alloc B1.out.size (.cells m.cs.toArray 26))
 have F4 := Lib.hid (Fm.out.below B3.out (Nat.le_refl _))
 go_enter Tryz.func3, Tryz.ntmps3
 have C5 := Lib.hid (mnAwake (w.alloc (.cells m.cs.toArray 26)) (HLA.out _ B3.out))
 go_wp2_with fail
 refine C5.out.mono ?_
 rintro e w6 ⟨rfl, hb7⟩
 have T8 := Lib.hid (T2.out.below hb7 T2.out.lt)
 have F9 := Lib.hid (F4.out.below hb7 (Nat.le_refl _))
 have B10 := Lib.hid (B3.out.trans (hb7.mono B3.out.size))
 clear hb7
 have M11 := Lib.hid (T8.out.mn LM.out)
 have C12 := Lib.hid (rfew12_any m w6 F9.out)
 rw [PM.out] at C12
 go_wp2_with (first | ((with_reducible refine wpList_load_at (o := ⟨some 11, .load 26 (.tmp 1), _, _, _, _⟩) ?e1 26 (.tmp 1) ?e2 ⟨w.heap.size, 0, none⟩ ?e3 _ M11.out ?_); (case e1 => rfl); (case e2 => rfl); (case e3 => rfl)))
 refine C12.out.mono ?_
 rintro e w13 ⟨rfl, hb14⟩
 have T15 := Lib.hid (T8.out.below hb14 T8.out.lt)
 have F16 := Lib.hid (F9.out.below hb14 (Nat.le_refl _))
 have B17 := Lib.hid (B10.out.trans (hb14.mono B10.out.size))
 clear hb14
 have c32 := MnAt.c32 (show MnAt w13 w.heap.size m from T15.out) HM32.out
 rw [HNL.out] at c32
 go_wp2
 go_ret
 exact ⟨rfl, B17.out⟩
set_option maxHeartbeats 16000000 in
theorem mfw_may (m : MnA) (w : World) (hlaid : Laid w) (wm : m.Ok w) (p : mfew m.m = true) (q : mmay m.m = false) :
  Calls Tryz.prog 3 #[.agg m.cs.toArray] w fun e w' => e = .returned (.bool true) ∧ Below w.heap.size w w' := by
 have HLA := Lib.hid (fun (X : World) (hX : Below w.heap.size w X) => hlaid.below hX (Nat.le_refl _))
 have Fm := Lib.hid wm
 have LM := Lib.hid (MnA.len wm)
 have HM32 := Lib.hid wm.1
 obtain ⟨nl, hnl⟩ : ∃ n, m.ls.length = n := ⟨_, rfl⟩
 have HNL := Lib.hid hnl
 have hnb : nl ≤ 9223372036854775807 := by
  have a1 := wm.2.2.1
  have a2 := wm.2.2.2.1
  simp only [maxLen] at a2
  omega
 have PM := Lib.hid p
 have PV := Lib.hid q
 clear hlaid wm p q hnl
 have B1 := Lib.hid (Below.refl w.heap.size w)
 have T2n := RowAt.new w m.cs.toArray 26
 have T2 := Lib.hid T2n
 clear T2n
 have B3 := Lib.hid (B1.out.alloc B1.out.size (.cells m.cs.toArray 26))
 have F4 := Lib.hid (Fm.out.below B3.out (Nat.le_refl _))
 go_enter Tryz.func3, Tryz.ntmps3
 have C5 := Lib.hid (mnAwake (w.alloc (.cells m.cs.toArray 26)) (HLA.out _ B3.out))
 go_wp2_with fail
 refine C5.out.mono ?_
 rintro e w6 ⟨rfl, hb7⟩
 have T8 := Lib.hid (T2.out.below hb7 T2.out.lt)
 have F9 := Lib.hid (F4.out.below hb7 (Nat.le_refl _))
 have B10 := Lib.hid (B3.out.trans (hb7.mono B3.out.size))
 clear hb7
 have M11 := Lib.hid (T8.out.mn LM.out)
 have C12 := Lib.hid (rfew12_any m w6 F9.out)
 rw [PM.out] at C12
 go_wp2_with (first | ((with_reducible refine wpList_load_at (o := ⟨some 11, .load 26 (.tmp 1), _, _, _, _⟩) ?e1 26 (.tmp 1) ?e2 ⟨w.heap.size, 0, none⟩ ?e3 _ M11.out ?_); (case e1 => rfl); (case e2 => rfl); (case e3 => rfl)))
 refine C12.out.mono ?_
 rintro e w13 ⟨rfl, hb14⟩
 have T15 := Lib.hid (T8.out.below hb14 T8.out.lt)
 have F16 := Lib.hid (F9.out.below hb14 (Nat.le_refl _))
 have B17 := Lib.hid (B10.out.trans (hb14.mono B10.out.size))
 clear hb14
 have c32 := MnAt.c32 (show MnAt w13 w.heap.size m from T15.out) HM32.out
 rw [HNL.out] at c32
 have M18 := Lib.hid (T15.out.mn LM.out)
 have C19 := Lib.hid (pmay12_any m w13 F16.out)
 rw [PV.out] at C19
 go_wp2_with (first | ((with_reducible refine wpList_load_at (o := ⟨some 23, .load 26 (.tmp 1), _, _, _, _⟩) ?e1 26 (.tmp 1) ?e2 ⟨w.heap.size, 0, none⟩ ?e3 _ M18.out ?_); (case e1 => rfl); (case e2 => rfl); (case e3 => rfl)))
 refine C19.out.mono ?_
 rintro e w20 ⟨rfl, hb21⟩
 have T22 := Lib.hid (T15.out.below hb21 T15.out.lt)
 have F23 := Lib.hid (F16.out.below hb21 (Nat.le_refl _))
 have B24 := Lib.hid (B17.out.trans (hb21.mono B17.out.size))
 clear hb21
 clear c32
 go_wp2
 go_ret
 exact ⟨rfl, B24.out⟩
set_option maxHeartbeats 16000000 in
theorem mfw_nil (m : MnA) (w : World) (hlaid : Laid w) (wm : m.Ok w) (p : mfew m.m = true) (q : mmay m.m = true) (r : m.ls.length = 0) :
  Calls Tryz.prog 3 #[.agg m.cs.toArray] w fun e w' => e = .returned (.bool true) ∧ Below w.heap.size w w' := by
 have HLA := Lib.hid (fun (X : World) (hX : Below w.heap.size w X) => hlaid.below hX (Nat.le_refl _))
 have Fm := Lib.hid wm
 have LM := Lib.hid (MnA.len wm)
 have HM32 := Lib.hid wm.1
 obtain ⟨nl, hnl⟩ : ∃ n, m.ls.length = n := ⟨_, rfl⟩
 have HNL := Lib.hid hnl
 have hnb : nl ≤ 9223372036854775807 := by
  have a1 := wm.2.2.1
  have a2 := wm.2.2.2.1
  simp only [maxLen] at a2
  omega
 have PM := Lib.hid p
 have PV := Lib.hid q
 obtain rfl : nl = 0 := hnl.symm.trans r
 clear hlaid wm p q r hnl
 have B1 := Lib.hid (Below.refl w.heap.size w)
 have T2n := RowAt.new w m.cs.toArray 26
 have T2 := Lib.hid T2n
 clear T2n
 have B3 := Lib.hid (B1.out.alloc B1.out.size (.cells m.cs.toArray 26))
 have F4 := Lib.hid (Fm.out.below B3.out (Nat.le_refl _))
 go_enter Tryz.func3, Tryz.ntmps3
 have C5 := Lib.hid (mnAwake (w.alloc (.cells m.cs.toArray 26)) (HLA.out _ B3.out))
 go_wp2_with fail
 refine C5.out.mono ?_
 rintro e w6 ⟨rfl, hb7⟩
 have T8 := Lib.hid (T2.out.below hb7 T2.out.lt)
 have F9 := Lib.hid (F4.out.below hb7 (Nat.le_refl _))
 have B10 := Lib.hid (B3.out.trans (hb7.mono B3.out.size))
 clear hb7
 have M11 := Lib.hid (T8.out.mn LM.out)
 have C12 := Lib.hid (rfew12_any m w6 F9.out)
 rw [PM.out] at C12
 go_wp2_with (first | ((with_reducible refine wpList_load_at (o := ⟨some 11, .load 26 (.tmp 1), _, _, _, _⟩) ?e1 26 (.tmp 1) ?e2 ⟨w.heap.size, 0, none⟩ ?e3 _ M11.out ?_); (case e1 => rfl); (case e2 => rfl); (case e3 => rfl)))
 refine C12.out.mono ?_
 rintro e w13 ⟨rfl, hb14⟩
 have T15 := Lib.hid (T8.out.below hb14 T8.out.lt)
 have F16 := Lib.hid (F9.out.below hb14 (Nat.le_refl _))
 have B17 := Lib.hid (B10.out.trans (hb14.mono B10.out.size))
 clear hb14
 have c32 := MnAt.c32 (show MnAt w13 w.heap.size m from T15.out) HM32.out
 rw [HNL.out] at c32
 have M18 := Lib.hid (T15.out.mn LM.out)
 have C19 := Lib.hid (pmay12_any m w13 F16.out)
 rw [PV.out] at C19
 go_wp2_with (first | ((with_reducible refine wpList_load_at (o := ⟨some 23, .load 26 (.tmp 1), _, _, _, _⟩) ?e1 26 (.tmp 1) ?e2 ⟨w.heap.size, 0, none⟩ ?e3 _ M18.out ?_); (case e1 => rfl); (case e2 => rfl); (case e3 => rfl)))
 refine C19.out.mono ?_
 rintro e w20 ⟨rfl, hb21⟩
 have T22 := Lib.hid (T15.out.below hb21 T15.out.lt)
 have F23 := Lib.hid (F16.out.below hb21 (Nat.le_refl _))
 have B24 := Lib.hid (B17.out.trans (hb21.mono B17.out.size))
 clear hb21
 clear c32
 go_wp2
 go_ret
 exact ⟨rfl, B24.out⟩
set_option maxHeartbeats 16000000 in
theorem mfw_someD (m : MnA) (w : World) (hlaid : Laid w) (wm : m.Ok w) (N : Nat) (p : mfew m.m = true) (q : mmay m.m = true) (r : m.ls.length = N + 1) (en : (m.ls.getD N lnA0).es.length = 0) :
  Calls Tryz.prog 3 #[.agg m.cs.toArray] w fun e w' => e = .returned (.bool true) ∧ Below w.heap.size w w' := by
 have HLA := Lib.hid (fun (X : World) (hX : Below w.heap.size w X) => hlaid.below hX (Nat.le_refl _))
 have Fm := Lib.hid wm
 have LM := Lib.hid (MnA.len wm)
 have HM32 := Lib.hid wm.1
 obtain ⟨nl, hnl⟩ : ∃ n, m.ls.length = n := ⟨_, rfl⟩
 have HNL := Lib.hid hnl
 have hnb : nl ≤ 9223372036854775807 := by
  have a1 := wm.2.2.1
  have a2 := wm.2.2.2.1
  simp only [maxLen] at a2
  omega
 have HNE := Lib.hid en
 have hbs : ∀ w : World, (Instr.build 32 #[]).run Tryz.prog w = .ok (.agg #[.int .i64 0, .int .i64 0]) w := fun w => run_build w _ _ _ (by kernel_rfl)
 have PM := Lib.hid p
 have PV := Lib.hid q
 have h1 : nl = N + 1 := hnl.symm.trans r
 have t1 : ¬ (nl : Int) = 0 := by omega
 have HPOS := Lib.hid (show 0 < nl by omega)
 have HSUB := Lib.hid (show IntKind.i64.wrap ((nl : Int) - 1) = N by rw [IntKind.wrap_i64]; omega)
 have HLT := Lib.hid (show N < m.ls.length by omega)
 have HN1 := Lib.hid h1
 have HR := Lib.hid (fun h0 => ln_row wm.2.2 h0)
 have HROW := Lib.hid wm.2.2
 have HMB := Lib.hid wm.2.1
 have HL10 := Lib.hid (show nl ≤ 10 by have h8 := mmay_size q; rw [show m.m.ls = m.ls.map (·.x) from rfl, List.length_map] at h8; omega)
 have HWM := Lib.hid wm
 have HTW := Lib.hid (fun (A : Option Addr) (c : Nat) => mmay_twiceA r A c)
 have HLS7 := Lib.hid (fun (A : Option Addr) (c : Nat) => mmay_lessA r q A c)
 have HSLU := Lib.hid (fun X : World => slice_upto (P := Tryz.prog) (ts := 24) Tryz.underlying24 (fun w => sizeLn w) m.A nl m.c N (by have h8 := wm.2.2.1; omega) (N : Int) rfl X)
 have HXO := Lib.hid (show LnA.Ok w (m.ls.getD N lnA0) from Kind.row_ok wm.2.2 HLT.out)
 have hzm := zeroMn
 rw [show mnA0.v = .agg mnA0.cs.toArray from rfl] at hzm
 have hzl := zeroLn
 rw [show KLn.v lnA0 = .agg (KLn.cs lnA0).toArray from rfl] at hzl
 have hzne : ¬ mnA0.cs.toArray = #[] := by decide
 have hzne3 : ¬ (KLn.cs lnA0).toArray = #[] := by decide
 clear hlaid wm p q r hnl h1 en
 have B1 := Lib.hid (Below.refl w.heap.size w)
 have T2n := RowAt.new w m.cs.toArray 26
 have T2 := Lib.hid T2n
 clear T2n
 have B3 := Lib.hid (B1.out.alloc B1.out.size (.cells m.cs.toArray 26))
 have F4 := Lib.hid (Fm.out.below B3.out (Nat.le_refl _))
 go_enter Tryz.func3, Tryz.ntmps3
 have C5 := Lib.hid (mnAwake (w.alloc (.cells m.cs.toArray 26)) (HLA.out _ B3.out))
 go_wp2_with fail
 refine C5.out.mono ?_
 rintro e w6 ⟨rfl, hb7⟩
 have T8 := Lib.hid (T2.out.below hb7 T2.out.lt)
 have F9 := Lib.hid (F4.out.below hb7 (Nat.le_refl _))
 have B10 := Lib.hid (B3.out.trans (hb7.mono B3.out.size))
 clear hb7
 have M11 := Lib.hid (T8.out.mn LM.out)
 have C12 := Lib.hid (rfew12_any m w6 F9.out)
 rw [PM.out] at C12
 go_wp2_with (first | ((with_reducible refine wpList_load_at (o := ⟨some 11, .load 26 (.tmp 1), _, _, _, _⟩) ?e1 26 (.tmp 1) ?e2 ⟨w.heap.size, 0, none⟩ ?e3 _ M11.out ?_); (case e1 => rfl); (case e2 => rfl); (case e3 => rfl)))
 refine C12.out.mono ?_
 rintro e w13 ⟨rfl, hb14⟩
 have T15 := Lib.hid (T8.out.below hb14 T8.out.lt)
 have F16 := Lib.hid (F9.out.below hb14 (Nat.le_refl _))
 have B17 := Lib.hid (B10.out.trans (hb14.mono B10.out.size))
 clear hb14
 have c32 := MnAt.c32 (show MnAt w13 w.heap.size m from T15.out) HM32.out
 rw [HNL.out] at c32
 have M18 := Lib.hid (T15.out.mn LM.out)
 have C19 := Lib.hid (pmay12_any m w13 F16.out)
 rw [PV.out] at C19
 go_wp2_with (first | ((with_reducible refine wpList_load_at (o := ⟨some 23, .load 26 (.tmp 1), _, _, _, _⟩) ?e1 26 (.tmp 1) ?e2 ⟨w.heap.size, 0, none⟩ ?e3 _ M18.out ?_); (case e1 => rfl); (case e2 => rfl); (case e3 => rfl)))
 refine C19.out.mono ?_
 rintro e w20 ⟨rfl, hb21⟩
 have T22 := Lib.hid (T15.out.below hb21 T15.out.lt)
 have F23 := Lib.hid (F16.out.below hb21 (Nat.le_refl _))
 have B24 := Lib.hid (B17.out.trans (hb21.mono B17.out.size))
 clear hb21
 clear c32
 have M25 := Lib.hid (T22.out.mn LM.out)
 have hb1 := Lib.hid T22.out.lt
 have hb6 := Lib.hid B24.out.size
 have SZ25 := Lib.hid (mn_size F23.out)
 have SQ25 := Lib.hid (show mnA0.cs.toArray.size = m.cs.toArray.size by rw [mnA0_size, List.size_toArray]; exact (MnA.len F23.out).symm)
 have SO25 := Lib.hid (mn_ones m)
 have L27 := Lib.hid (MnA.len F23.out)
 have hb28 := (Below.refl w20.heap.size w20).alloc (Nat.le_refl _) (.cells m.cs.toArray 26)
 have T29 := Lib.hid (RowAt.new w20 m.cs.toArray 26)
 have T30 := Lib.hid (T22.out.below hb28 T22.out.lt)
 have F31 := Lib.hid (F23.out.below hb28 (Nat.le_refl _))
 have F32 := Lib.hid (F23.out.below hb28 (Nat.le_refl _))
 have B33 := Lib.hid (B24.out.trans (hb28.mono B24.out.size))
 clear hb28
 have T1' := Lib.hid T30.out
 have T6' := Lib.hid T29.out
 have HB1 := Lib.hid B33.out
 go_wp2_with (first | ((with_reducible refine wpList_load_at (o := ⟨some 32, .load 26 (.tmp 1), _, _, _, _⟩) ?e1 26 (.tmp 1) ?e2 ⟨w.heap.size, 0, none⟩ ?e3 _ M25.out ?_); (case e1 => rfl); (case e2 => rfl); (case e3 => rfl)) | ((with_reducible refine wpList_store_new (o := ⟨none, .store 26 (.tmp 6) (.tmp 32), _, _, _, _⟩) ?e1 26 (.tmp 6) (.tmp 32) ?e2 ?e3 mnA0.cs.toArray m.cs.toArray ?e4 SZ25.out SQ25.out SO25.out ?_); (case e1 => rfl); (case e2 => rfl); (case e3 => (first | rfl | exact congrArg (fun q => Value.pointer (some ⟨q, 0, none⟩)) (World.size_alloc _ _).symm)); (case e4 => rfl)))
 generalize ((w20.alloc (.cells m.cs.toArray 26))) = w1 at *
 generalize hq6 : w20.heap.size = b6 at *
 have Q6 := Lib.hid hq6
 have FC32 := Lib.hid (fun X (hX : Below b6 w1 X) => MnAt.c32 (show MnAt X w.heap.size m from T1'.out.below hX hb1.out) HM32.out)
 rw [HNL.out] at FC32
 have BW := Lib.hid (fun X (hX : Below b6 w1 X) => HB1.out.trans (hX.mono hb6.out))
 obtain ⟨b9, off9, hA9, hb9w, hx9, hi9⟩ := HR.out (by rw [HNL.out]; exact HPOS.out)
 have IX := Lib.hid (hi9 N HLT.out N rfl)
 rw [← hA9, HNL.out] at IX
 have FLN := Lib.hid (fun X (hX : Below b6 w1 X) => Kind.at_same (hx9 N HLT.out) ((BW.out X hX).block b9 hb9w))
 have HFL := Lib.hid (fun X (hX : Below w.heap.size w X) => Kind.at_same (hx9 N HLT.out) (hX.block b9 hb9w))
 have HRW := Lib.hid (fun X (hX : Below b6 w1 X) => show KLn.row X m.A m.c m.ls from Kind.row_below HROW.out (BW.out X hX) (Nat.le_refl _))
 clear hx9 hi9 hA9 hb9w hq6
 generalize m.ls.getD N lnA0 = x at *
 have HB6 := Lib.hid (Nat.le_of_lt T6'.out.lt)
 have XOK := Lib.hid (fun X (hX : Below b6 w1 X) => LnA.below HXO.out (BW.out X hX))
 have YL := Lib.hid (LnA.len HXO.out)
 have HZX := Lib.hid HXO.out.1
 refine wp_region_held_drew (S := fun X => Below b6 w1 X) (by kernel_rfl) (((Below.refl _ _).drew).mono (Nat.le_of_lt T6'.out.lt)) (fun hS => ?_)
 have S0 := Lib.hid hS
 have G0 := Lib.hid ((Below.refl w1.heap.size w1).drew)
 generalize World.drew _ = X0 at *
 refine wpHv (i := 0) (oi := ⟨some 33, _, _, _, _, _⟩) (v := ?_) rfl ?_ hS ?_; rotate_left; (focus (intro w9 hSw; go_simp; try with_reducible rfl)); simp only [Act.put, Z2, Z3, Z4]
 refine wpHv (i := 1) (oi := ⟨some 34, _, _, _, _, _⟩) (v := ?_) rfl ?_ hS ?_; rotate_left; (focus (intro w9 hSw; have q0 := FC32.out w9 hSw; go_simp; try with_reducible rfl)); simp only [Act.put, Z2, Z3, Z4]
 refine wpHv (i := 3) (oi := ⟨some 36, _, _, _, _, _⟩) (v := ?_) rfl ?_ hS ?_; rotate_left; (focus (intro w9 hSw; go_simp; try with_reducible rfl)); simp only [Act.put, Z2, Z3, Z4]
 refine wpHv (i := 4) (oi := ⟨some 37, _, _, _, _, _⟩) (v := ?_) rfl ?_ hS ?_; rotate_left; (focus (intro w9 hSw; have q0 := FC32.out w9 hSw; go_simp; try with_reducible rfl)); simp only [Act.put, Z2, Z3, Z4]
 refine wpHv (i := 5) (oi := ⟨some 38, _, _, _, _, _⟩) (v := ?_) rfl ?_ hS ?_; rotate_left; (focus (intro w9 hSw; go_simp; try with_reducible rfl)); simp only [Act.put, Z2, Z3, Z4]
 refine wpHv (i := 6) (oi := ⟨some 39, _, _, _, _, _⟩) (v := (.int .i64 N)) rfl ?_ hS ?_; (focus (intro w9 hSw; first | (go_simp; done) | (go_simp; omega) | (go_simp; exact HSUB.out) | (go_simp; rw [HSUB.out]))); simp only [Act.put, Z2, Z3, Z4]
 refine wpHv (i := 7) (oi := ⟨some 40, _, _, _, _, _⟩) (v := ?_) rfl ?_ hS ?_; rotate_left; (focus (intro w9 hSw; have q0 := IX.out w9; go_simp; try with_reducible rfl)); simp only [Act.put, Z2, Z3, Z4]
 refine wpHv (i := 8) (oi := ⟨some 41, _, _, _, _, _⟩) (v := (.agg (KLn.cs x).toArray)) rfl ?_ hS ?_; (focus (intro w9 hSw; exact exec_load_at 35 _ rfl _ rfl (load_lnL (FLN.out w9 hSw) YL.out))); simp only [Act.put, Z2, Z3, Z4]
 refine wpAnyH_ready (rs := [2, 9]) (by kernel_rfl) (by simp) (AllReadyH.cons (o := ⟨some 35, _, _, _, _, _⟩) rfl (fun K hK => ?_) (AllReadyH.cons (o := ⟨some 42, _, _, _, _, _⟩) rfl (fun K hK => ?_) AllReadyH.nil))
 ·obtain ⟨i0, hi, hz0, hz1, hz2⟩ := info_parts infoLn
  refine step_append_rowK (K := KLn) (o := ⟨some 35, _, _, _, _, _⟩) rfl _ _ 24 rfl w1.heap.size 35 i0 _ 56 Tryz.underlying24 hi hz0 hz1 hz2 (by decide) (by decide) (.slice none 0 0) 0 [] rfl (World.ownsRow_nil _ _ _ _) m.A nl m.c m.ls rfl (HRW.out _ (G0.out.mono HB6.out)) HNL.out HPOS.out (by have := HL10.out; omega) G0.out.size ?_
  intro v1 X1 ho1 hg1
  rw [Nat.zero_add, List.nil_append] at ho1
  have O1 := Lib.hid ho1
  have G1 := Lib.hid (G0.out.grown hg1 G0.out.size (by intro k hk; cases hk))
  refine hK.out _ _ (G1.out.mono HB6.out) (fun hS => ?_)
  clear hK K
  try simp only [Act.put, Z2, Z3, Z4]
  refine wpAnyH_ready (rs := [9]) (by kernel_rfl) (by simp) (AllReadyH.cons (o := ⟨some 42, _, _, _, _, _⟩) rfl (fun K hK => ?_) AllReadyH.nil)
  refine step_bsliceK (K := KLn) rfl (.tmp 41) rfl x rfl YL.out Tryz.underlying24 sizeLn zeroLn nLn ?_
  have G2 := Lib.hid (G1.out.alloc G1.out.size (.cells (KLn.cs x).toArray 35))
  have R2 := Lib.hid (row_one (K := KLn) (x := x) (X := X1) (te := 35) YL.out (XOK.out _ (G2.out.mono HB6.out)))
  have O2 := Lib.hid (O1.out.alloc (.cells (KLn.cs x).toArray 35))
  refine hK.out _ _ (G2.out.mono HB6.out) (fun hS => ?_)
  clear hK K
  try simp only [Act.put, Z2, Z3, Z4]
  refine wpAnyH_ready (rs := [10]) (by kernel_rfl) (by simp) (AllReadyH.cons (o := ⟨some 43, _, _, _, _, _⟩) rfl (fun K hK => ?_) AllReadyH.nil)
  obtain ⟨i0, hi, hz0, hz1, hz2⟩ := info_parts infoLn
  refine step_append_rowK (K := KLn) (o := ⟨some 43, _, _, _, _, _⟩) rfl _ _ 24 rfl w1.heap.size 35 i0 _ 56 Tryz.underlying24 hi hz0 hz1 hz2 (by decide) (by decide) v1 nl m.ls rfl O2.out (some ⟨X1.heap.size, 0, none⟩) 1 1 [x] rfl R2.out rfl (by decide) (by have := HL10.out; omega) G2.out.size ?_
  intro v3 X3 ho3 hg3
  have G3 := Lib.hid (G2.out.grown hg3 G2.out.size (fun k hk => own_base O2.out hk))
  obtain ⟨g6, c6, rfl⟩ := ownsRow_succ ho3
  have O3 := Lib.hid ho3
  clear ho3 hg3
  refine hK.out _ _ (G3.out.mono HB6.out) (fun hS => ?_)
  clear hK K
  try simp only [Act.put, Z2, Z3, Z4]
  refine wpHv (i := 11) (oi := ⟨some 44, _, _, _, _, _⟩) (v := ?_) rfl ?_ hS ?_; rotate_left; (focus (intro w9 hSw; go_simp; try with_reducible rfl)); simp only [Act.put, Z2, Z3, Z4]
  refine wpAnyH_ready (rs := [12]) (by kernel_rfl) (by simp) (AllReadyH.cons (o := ⟨none, _, _, _, _, _⟩) rfl (fun K hK => ?_) AllReadyH.nil)
  have g0 := MnAt.c32 (show MnAt X3 b6 m from T6'.out.below G3.out T6'.out.lt) HM32.out
  have gf : X3.frozen? ⟨b6, 32, none⟩ = false := frozen_of_row _ _ _ _ _ (T6'.out.below G3.out T6'.out.lt)
  have SX := Lib.hid (Below.setCell (p := ⟨b6, 32, none⟩) (G3.out.mono HB6.out) (Nat.le_refl _) (.slice (some ⟨g6, 0, none⟩) (nl + 1) c6))
  go_simp
  refine hK.out _ _ SX.out (fun hS => ?_)
  clear hK K g0 gf
  refine wpAnyH_done (by kernel_rfl) ?_ _
  have E1 := Lib.hid (show (m.ls ++ [x]).length = nl + 1 by rw [List.length_append, HNL.out]; rfl)
  have M6 := Lib.hid (mn_set (T6'.out.below G3.out T6'.out.lt) HM32.out (some ⟨g6, 0, none⟩) c6 (m.ls ++ [x]))
  rw [E1.out] at M6
  have K6 := Lib.hid (show MnA.Ok (X3.setCell ⟨b6, 32, none⟩ (.slice (some ⟨g6, 0, none⟩) (nl + 1) c6)) ⟨m.base, some ⟨g6, 0, none⟩, c6, m.ls ++ [x]⟩ from ⟨HM32.out, HMB.out, Kind.row_own (K := KLn) (te := 35) (base := w1.heap.size) (by rw [E1.out]; exact ownsRow_setCell_other O3.out (by intro h; have h1 := own_base O3.out h; have h2 := T6'.out.lt; simp only at h1; omega) _) (fun y hy => by
   rcases List.mem_append.1 hy with h | h
   ·exact LnA.below (HROW.out.2.2.2.2 y h) (BW.out _ SX.out)
   ·rw [List.mem_singleton.1 h]; exact XOK.out _ SX.out)⟩)
  generalize X3.setCell ⟨b6, 32, none⟩ (.slice (some ⟨g6, 0, none⟩) (nl + 1) c6) = w900 at *
  obtain ⟨m6, hm6⟩ : ∃ q, (⟨m.base, some ⟨g6, 0, none⟩, c6, m.ls ++ [x]⟩ : MnA) = q := ⟨_, rfl⟩
  rw [hm6] at M6 K6
  have V6 := Lib.hid (show mmay m6.m = false from by rw [← hm6]; exact HTW.out _ _)
  clear hm6
  have B501 := Lib.hid (BW.out _ SX.out)
  have T502 := Lib.hid (T1'.out.below SX.out hb1.out)
  have F503 := Lib.hid ((show MnA.Ok w m from HWM.out).below (BW.out _ SX.out) (Nat.le_refl _))
  have L504 := Lib.hid (MnA.len K6.out)
  clear SX
  have M505 := Lib.hid (T502.out.mn LM.out)
  have SZ505 := Lib.hid (mn_size F503.out)
  have SQ505 := Lib.hid (show mnA0.cs.toArray.size = m.cs.toArray.size by rw [mnA0_size, List.size_toArray]; exact (MnA.len F503.out).symm)
  have SO505 := Lib.hid (mn_ones m)
  have D7 := Lib.hid (RowAt.new w900 m.cs.toArray 26)
  have C32 := MnAt.c32 (show MnAt (w900.alloc (.cells m.cs.toArray 26)) w.heap.size m from T502.out.old (.cells m.cs.toArray 26)) HM32.out
  rw [HNL.out] at C32
  have SLU := HSLU.out (w900.alloc (.cells m.cs.toArray 26))
  have hsub := HSUB.out
  have ET := Lib.hid (show (m.ls.take N).length = N by rw [List.length_take, HNL.out]; have := HN1.out; omega)
  have N7 := Lib.hid (mn_set D7.out HM32.out m.A m.c (m.ls.take N))
  rw [ET.out] at N7
  have hb501 := ((Below.refl w900.heap.size w900).alloc (Nat.le_refl _) (.cells m.cs.toArray 26)).setCell (p := ⟨w900.heap.size, 32, none⟩) (Nat.le_refl _) (.slice m.A N m.c)
  have ST7 := Lib.hid (store_mnL D7.out HM32.out m.A N m.c)
  have T507 := Lib.hid (T502.out.below hb501 T502.out.lt)
  have T508 := Lib.hid (M6.out.below hb501 M6.out.lt)
  have F509 := Lib.hid (F503.out.below hb501 (Nat.le_refl _))
  have F510 := Lib.hid (K6.out.below hb501 (Nat.le_refl _))
  have B511 := Lib.hid (B501.out.trans (hb501.mono B501.out.size))
  clear hb501
  obtain ⟨m7, hm7⟩ : ∃ q, (⟨m.base, m.A, m.c, m.ls.take N⟩ : MnA) = q := ⟨_, rfl⟩
  rw [hm7] at N7
  have K7 := Lib.hid (show MnA.Ok ((w900.alloc (.cells m.cs.toArray 26)).setCell ⟨w900.heap.size, 32, none⟩ (.slice m.A N m.c)) m7 from by rw [← hm7]; exact ⟨HM32.out, HMB.out, Kind.row_take F509.out.2.2 N⟩)
  have V7 := Lib.hid (show mmay m7.m = true from by rw [← hm7]; exact HLS7.out _ _)
  clear hm7
  have L512 := Lib.hid (MnA.len K7.out)
  have M513 := Lib.hid (T507.out.mn LM.out)
  have SZ513 := Lib.hid (mn_size F509.out)
  have SQ513 := Lib.hid (show mnA0.cs.toArray.size = m.cs.toArray.size by rw [mnA0_size, List.size_toArray]; exact (MnA.len F509.out).symm)
  have SO513 := Lib.hid (mn_ones m)
  have D8 := Lib.hid (RowAt.new ((w900.alloc (.cells m.cs.toArray 26)).setCell ⟨w900.heap.size, 32, none⟩ (.slice m.A N m.c)) m.cs.toArray 26)
  have c54 := MnAt.c32 (show MnAt (((w900.alloc (.cells m.cs.toArray 26)).setCell ⟨w900.heap.size, 32, none⟩ (.slice m.A N m.c)).alloc (.cells m.cs.toArray 26)) w.heap.size m from T507.out.old (.cells m.cs.toArray 26)) HM32.out
  rw [HNL.out] at c54
  have HR8 := Lib.hid (Kind.row_below F509.out.2.2 ((Below.refl ((w900.alloc (.cells m.cs.toArray 26)).setCell ⟨w900.heap.size, 32, none⟩ (.slice m.A N m.c)).heap.size ((w900.alloc (.cells m.cs.toArray 26)).setCell ⟨w900.heap.size, 32, none⟩ (.slice m.A N m.c))).alloc (Nat.le_refl _) (.cells m.cs.toArray 26)) (Nat.le_refl _))
  obtain ⟨i0, hi, hz0, hz1, hz2⟩ := info_parts infoLn
  have HI := Lib.hid hi
  have HZ0 := Lib.hid hz0
  have HZ1 := Lib.hid hz1
  have HZ2 := Lib.hid hz2
  clear hi hz0 hz1 hz2
  go_wp2_with (first | ((with_reducible refine wpList_load_at (o := ⟨some 45, .load 26 (.tmp 1), _, _, _, _⟩) ?e1 26 (.tmp 1) ?e2 ⟨w.heap.size, 0, none⟩ ?e3 _ M505.out ?_); (case e1 => rfl); (case e2 => rfl); (case e3 => rfl)) | ((with_reducible refine wpList_store_new (o := ⟨none, .store 26 (.tmp 7) (.tmp 45), _, _, _, _⟩) ?e1 26 (.tmp 7) (.tmp 45) ?e2 ?e3 mnA0.cs.toArray m.cs.toArray ?e4 SZ505.out SQ505.out SO505.out ?_); (case e1 => rfl); (case e2 => rfl); (case e3 => (first | rfl | exact congrArg (fun q => Value.pointer (some ⟨q, 0, none⟩)) (World.size_alloc _ _).symm)); (case e4 => rfl)) | ((with_reducible refine wpList_store_run (o := ⟨none, .store 24 (.tmp 51) (.tmp 50), _, _, _, _⟩) ?e1 24 (.tmp 51) (.tmp 50) ?e2 ⟨w900.heap.size, 32, none⟩ _ ?e3 ?e4 ST7.out ?_); (case e1 => rfl); (case e2 => rfl); (case e3 => (first | rfl | exact congrArg (fun q => Value.pointer (some ⟨q, 32, none⟩)) (World.size_alloc _ _).symm)); (case e4 => rfl); generalize ((w900.alloc (.cells m.cs.toArray 26)).setCell ⟨w900.heap.size, 32, none⟩ (.slice m.A N m.c)) = w901 at *) | ((with_reducible refine wpList_load_at (o := ⟨some 52, .load 26 (.tmp 1), _, _, _, _⟩) ?e1 26 (.tmp 1) ?e2 ⟨w.heap.size, 0, none⟩ ?e3 _ M513.out ?_); (case e1 => rfl); (case e2 => rfl); (case e3 => rfl)) | ((with_reducible refine wpList_store_new (o := ⟨none, .store 26 (.tmp 8) (.tmp 52), _, _, _, _⟩) ?e1 26 (.tmp 8) (.tmp 52) ?e2 ?e3 mnA0.cs.toArray m.cs.toArray ?e4 SZ513.out SQ513.out SO513.out ?_); (case e1 => rfl); (case e2 => rfl); (case e3 => (first | rfl | exact congrArg (fun q => Value.pointer (some ⟨q, 0, none⟩)) (World.size_alloc _ _).symm)); (case e4 => rfl)) | (at_builtin; refine wpList_append_K (K := KLn) _ rfl _ _ 24 rfl (w901.alloc (.cells m.cs.toArray 26)).heap.size 35 i0 _ 56 Tryz.underlying24 HI.out HZ0.out HZ1.out HZ2.out (by decide) (by decide) (.slice none 0 0) 0 [] rfl (World.ownsRow_nil _ _ _ _) m.A nl m.c m.ls rfl HR8.out HNL.out (by have := HL10.out; omega) (Nat.le_refl _) ?_; intro v8 w902 ho8 hg8; rw [Nat.zero_add, List.nil_append] at ho8; obtain ⟨g8, c8, hv8⟩ := ownsRow_succ (k := N) (by rw [← HN1.out]; exact ho8); rw [← HN1.out] at hv8; subst hv8; have O8 := Lib.hid ho8; have hb94 := ((Below.refl w901.heap.size w901).alloc (Nat.le_refl _) (.cells m.cs.toArray 26)).grown hg8 (by rw [World.size_alloc]; omega) (by intro k hk; cases hk); have D8w := Lib.hid (D8.out.below ((Below.refl (w901.alloc (.cells m.cs.toArray 26)).heap.size (w901.alloc (.cells m.cs.toArray 26))).grown hg8 (Nat.le_refl _) (by intro k hk; cases hk)) D8.out.lt); have ST8 := Lib.hid (store_mnL D8w.out HM32.out (some ⟨g8, 0, none⟩) nl c8); have N8 := Lib.hid (mn_set D8w.out HM32.out (some ⟨g8, 0, none⟩) c8 m.ls); rw [HNL.out] at N8; have hb95 := hb94.setCell (p := ⟨w901.heap.size, 32, none⟩) (Nat.le_refl _) (.slice (some ⟨g8, 0, none⟩) nl c8); clear ho8 hb94; have O85 := Lib.hid (ownsRow_setCell_other (a := ⟨w901.heap.size, 32, none⟩) O8.out (by intro h; have h1 := own_base O8.out h; rw [World.size_alloc] at h1; simp only at h1; omega) (.slice (some ⟨g8, 0, none⟩) nl c8)); have hs95 := Lib.hid hb95; have T515 := Lib.hid (T507.out.below hb95 T507.out.lt); have T516 := Lib.hid (T508.out.below hb95 T508.out.lt); have T517 := Lib.hid (N7.out.below hb95 N7.out.lt); have F518 := Lib.hid (F509.out.below hb95 (Nat.le_refl _)); have F519 := Lib.hid (F510.out.below hb95 (Nat.le_refl _)); have F520 := Lib.hid (K7.out.below hb95 (Nat.le_refl _)); have B521 := Lib.hid (B511.out.trans (hb95.mono B511.out.size)); clear hb95; have c57 := MnAt.c32 (show MnAt (w902.setCell ⟨w901.heap.size, 32, none⟩ (.slice (some ⟨g8, 0, none⟩) nl c8)) w.heap.size m from T515.out) HM32.out; rw [HNL.out] at c57; have ix61 := IX.out (w902.setCell ⟨w901.heap.size, 32, none⟩ (.slice (some ⟨g8, 0, none⟩) nl c8)); have L62 := Lib.hid (load_lnL (HFL.out (w902.setCell ⟨w901.heap.size, 32, none⟩ (.slice (some ⟨g8, 0, none⟩) nl c8)) B521.out) YL.out); have SZ9 := Lib.hid (ln_size HXO.out); have SQ9 := Lib.hid (show (KLn.cs lnA0).toArray.size = (KLn.cs x).toArray.size by rw [lnA0_size, List.size_toArray]; exact YL.out.symm); have SO9 := Lib.hid (ln_ones x); have E9 := Lib.hid (RowAt.new (w902.setCell ⟨w901.heap.size, 32, none⟩ (.slice (some ⟨g8, 0, none⟩) nl c8)) (KLn.cs x).toArray 35); have l18 := ln_c18 (Kind.at_blk (K := KLn) (x := x) E9.out) HZX.out; rw [Nat.zero_add, HNE.out] at l18; have l16 := ln_c16 (Kind.at_blk (K := KLn) (x := x) E9.out) HZX.out; rw [Nat.zero_add] at l16; have l17 := ln_c17 (Kind.at_blk (K := KLn) (x := x) E9.out) HZX.out; rw [Nat.zero_add] at l17; obtain ⟨m8, hm8⟩ : ∃ q, (⟨m.base, some ⟨g8, 0, none⟩, c8, m.ls⟩ : MnA) = q := ⟨_, rfl⟩; rw [hm8] at N8; have K8 := Lib.hid (show MnA.Ok (w902.setCell ⟨w901.heap.size, 32, none⟩ (.slice (some ⟨g8, 0, none⟩) nl c8)) m8 from by rw [← hm8]; exact ⟨HM32.out, HMB.out, Kind.row_own (K := KLn) (te := 35) (base := (w901.alloc (.cells m.cs.toArray 26)).heap.size) (by rw [HNL.out]; exact O85.out) (fun y hy => LnA.below (HROW.out.2.2.2.2 y hy) B521.out)⟩); have V8 := Lib.hid (show mmay m8.m = true from by rw [← hm8]; exact PV.out); have L8 := Lib.hid (MnA.len K8.out); have hb96 := (Below.refl (w902.setCell ⟨w901.heap.size, 32, none⟩ (.slice (some ⟨g8, 0, none⟩) nl c8)).heap.size (w902.setCell ⟨w901.heap.size, 32, none⟩ (.slice (some ⟨g8, 0, none⟩) nl c8))).alloc (Nat.le_refl _) (.cells (KLn.cs x).toArray 35); have T522 := Lib.hid (T515.out.below hb96 T515.out.lt); have T523 := Lib.hid (T516.out.below hb96 T516.out.lt); have T524 := Lib.hid (T517.out.below hb96 T517.out.lt); have T525 := Lib.hid (N8.out.below hb96 N8.out.lt); have F526 := Lib.hid (F518.out.below hb96 (Nat.le_refl _)); have F527 := Lib.hid (F519.out.below hb96 (Nat.le_refl _)); have F528 := Lib.hid (F520.out.below hb96 (Nat.le_refl _)); have F529 := Lib.hid (K8.out.below hb96 (Nat.le_refl _)); have B530 := Lib.hid (B521.out.trans (hb96.mono B521.out.size)); clear hb96; have M531 := Lib.hid (T523.out.mn L504.out)) | ((with_reducible refine wpList_store_run (o := ⟨none, .store 24 (.tmp 56) (.tmp 55), _, _, _, _⟩) ?e1 24 (.tmp 56) (.tmp 55) ?e2 ⟨w901.heap.size, 32, none⟩ _ ?e3 ?e4 ST8.out ?_); (case e1 => rfl); (case e2 => rfl); (case e3 => (first | rfl | exact congrArg (fun q => Value.pointer (some ⟨q, 32, none⟩)) (World.size_alloc _ _).symm)); (case e4 => rfl); generalize (w902.setCell ⟨w901.heap.size, 32, none⟩ (.slice (some ⟨g8, 0, none⟩) nl c8)) = w903 at *) | ((with_reducible refine wpList_load_at (o := ⟨some 62, .load 35 (.tmp 61), _, _, _, _⟩) ?e1 35 (.tmp 61) ?e2 ⟨b9, off9 + N * 19, none⟩ ?e3 _ L62.out ?_); (case e1 => rfl); (case e2 => rfl); (case e3 => rfl)) | ((with_reducible refine wpList_store_new (o := ⟨none, .store 35 (.tmp 9) (.tmp 62), _, _, _, _⟩) ?e1 35 (.tmp 9) (.tmp 62) ?e2 ?e3 (KLn.cs lnA0).toArray (KLn.cs x).toArray ?e4 SZ9.out SQ9.out SO9.out ?_); (case e1 => rfl); (case e2 => rfl); (case e3 => (first | rfl | exact congrArg (fun q => Value.pointer (some ⟨q, 0, none⟩)) (World.size_alloc _ _).symm)); (case e4 => rfl)) | ((with_reducible refine wpList_load_at (o := ⟨some 93, .load 26 (.tmp 6), _, _, _, _⟩) ?e1 26 (.tmp 6) ?e2 ⟨b6, 0, none⟩ ?e3 _ M531.out ?_); (case e1 => rfl); (case e2 => rfl); (case e3 => rfl)) | fail)
  clear c57 ix61 l16 l17 l18 c54 C32 SLU hsub
  have C532 := Lib.hid ((show Calls Tryz.prog 6 #[.agg m6.cs.toArray] (w903.alloc (.cells (KLn.cs x).toArray 35)) fun e w' => e = .returned (.bool (mmay m6.m)) ∧ Below ((w903.alloc (.cells (KLn.cs x).toArray 35))).heap.size (w903.alloc (.cells (KLn.cs x).toArray 35)) w' from pmay12_any m6 (w903.alloc (.cells (KLn.cs x).toArray 35)) F527.out))
  rw [V6.out] at C532
  refine C532.out.mono ?_
  rintro e w533 ⟨rfl, hb534⟩
  have T535 := Lib.hid (T522.out.below hb534 T522.out.lt)
  have T536 := Lib.hid (T523.out.below hb534 T523.out.lt)
  have T537 := Lib.hid (T524.out.below hb534 T524.out.lt)
  have T538 := Lib.hid (T525.out.below hb534 T525.out.lt)
  have F539 := Lib.hid (F526.out.below hb534 (Nat.le_refl _))
  have F540 := Lib.hid (F527.out.below hb534 (Nat.le_refl _))
  have F541 := Lib.hid (F528.out.below hb534 (Nat.le_refl _))
  have F542 := Lib.hid (F529.out.below hb534 (Nat.le_refl _))
  have B543 := Lib.hid (B530.out.trans (hb534.mono B530.out.size))
  clear hb534
  have M544 := Lib.hid (T537.out.mn L512.out)
  have C545 := Lib.hid ((show Calls Tryz.prog 6 #[.agg m7.cs.toArray] w533 fun e w' => e = .returned (.bool (mmay m7.m)) ∧ Below (w533).heap.size w533 w' from pmay12_any m7 w533 F541.out))
  rw [V7.out] at C545
  go_wp2_with (first | ((with_reducible refine wpList_load_at (o := ⟨some 97, .load 26 (.tmp 7), _, _, _, _⟩) ?e1 26 (.tmp 7) ?e2 ⟨w900.heap.size, 0, none⟩ ?e3 _ M544.out ?_); (case e1 => rfl); (case e2 => rfl); (case e3 => rfl)))
  refine C545.out.mono ?_
  rintro e w546 ⟨rfl, hb547⟩
  have T548 := Lib.hid (T535.out.below hb547 T535.out.lt)
  have T549 := Lib.hid (T536.out.below hb547 T536.out.lt)
  have T550 := Lib.hid (T537.out.below hb547 T537.out.lt)
  have T551 := Lib.hid (T538.out.below hb547 T538.out.lt)
  have F552 := Lib.hid (F539.out.below hb547 (Nat.le_refl _))
  have F553 := Lib.hid (F540.out.below hb547 (Nat.le_refl _))
  have F554 := Lib.hid (F541.out.below hb547 (Nat.le_refl _))
  have F555 := Lib.hid (F542.out.below hb547 (Nat.le_refl _))
  have B556 := Lib.hid (B543.out.trans (hb547.mono B543.out.size))
  clear hb547
  have M557 := Lib.hid (T551.out.mn L8.out)
  have C558 := Lib.hid ((show Calls Tryz.prog 6 #[.agg m8.cs.toArray] w546 fun e w' => e = .returned (.bool (mmay m8.m)) ∧ Below (w546).heap.size w546 w' from pmay12_any m8 w546 F555.out))
  rw [V8.out] at C558
  go_wp2_with (first | ((with_reducible refine wpList_load_at (o := ⟨some 101, .load 26 (.tmp 8), _, _, _, _⟩) ?e1 26 (.tmp 8) ?e2 ⟨w901.heap.size, 0, none⟩ ?e3 _ M557.out ?_); (case e1 => rfl); (case e2 => rfl); (case e3 => rfl)))
  refine C558.out.mono ?_
  rintro e w559 ⟨rfl, hb560⟩
  have T561 := Lib.hid (T548.out.below hb560 T548.out.lt)
  have T562 := Lib.hid (T549.out.below hb560 T549.out.lt)
  have T563 := Lib.hid (T550.out.below hb560 T550.out.lt)
  have T564 := Lib.hid (T551.out.below hb560 T551.out.lt)
  have F565 := Lib.hid (F552.out.below hb560 (Nat.le_refl _))
  have F566 := Lib.hid (F553.out.below hb560 (Nat.le_refl _))
  have F567 := Lib.hid (F554.out.below hb560 (Nat.le_refl _))
  have F568 := Lib.hid (F555.out.below hb560 (Nat.le_refl _))
  have B569 := Lib.hid (B556.out.trans (hb560.mono B556.out.size))
  clear hb560
  have c106 := MnAt.c32 (show MnAt w559 w.heap.size m from T561.out) HM32.out
  rw [HNL.out] at c106
  have t10 : (nl : Int) ≤ 10 := by have := HL10.out; omega
  go_wp2
  go_ret
  exact ⟨rfl, B569.out⟩
 ·refine step_bsliceK (K := KLn) rfl (.tmp 41) rfl x rfl YL.out Tryz.underlying24 sizeLn zeroLn nLn ?_
  have G1 := Lib.hid (G0.out.alloc G0.out.size (.cells (KLn.cs x).toArray 35))
  have R1 := Lib.hid (row_one (K := KLn) (x := x) (X := X0) (te := 35) YL.out (XOK.out _ (G1.out.mono HB6.out)))
  refine hK.out _ _ (G1.out.mono HB6.out) (fun hS => ?_)
  clear hK K
  try simp only [Act.put, Z2, Z3, Z4]
  refine wpAnyH_ready (rs := [2]) (by kernel_rfl) (by simp) (AllReadyH.cons (o := ⟨some 35, _, _, _, _, _⟩) rfl (fun K hK => ?_) AllReadyH.nil)
  obtain ⟨i0, hi, hz0, hz1, hz2⟩ := info_parts infoLn
  refine step_append_rowK (K := KLn) (o := ⟨some 35, _, _, _, _, _⟩) rfl _ _ 24 rfl w1.heap.size 35 i0 _ 56 Tryz.underlying24 hi hz0 hz1 hz2 (by decide) (by decide) (.slice none 0 0) 0 [] rfl (World.ownsRow_nil _ _ _ _) m.A nl m.c m.ls rfl (HRW.out _ (G1.out.mono HB6.out)) HNL.out HPOS.out (by have := HL10.out; omega) G1.out.size ?_
  intro v2 X2 ho2 hg2
  rw [Nat.zero_add, List.nil_append] at ho2
  have O2 := Lib.hid ho2
  have G2 := Lib.hid (G1.out.grown hg2 G1.out.size (by intro k hk; cases hk))
  have R2 := Lib.hid (Kind.row_below R1.out ((Below.refl _ _).grown hg2 (Nat.le_refl _) (by intro k hk; cases hk)) (Nat.le_refl _))
  refine hK.out _ _ (G2.out.mono HB6.out) (fun hS => ?_)
  clear hK K
  try simp only [Act.put, Z2, Z3, Z4]
  refine wpAnyH_ready (rs := [10]) (by kernel_rfl) (by simp) (AllReadyH.cons (o := ⟨some 43, _, _, _, _, _⟩) rfl (fun K hK => ?_) AllReadyH.nil)
  obtain ⟨i0, hi, hz0, hz1, hz2⟩ := info_parts infoLn
  refine step_append_rowK (K := KLn) (o := ⟨some 43, _, _, _, _, _⟩) rfl _ _ 24 rfl w1.heap.size 35 i0 _ 56 Tryz.underlying24 hi hz0 hz1 hz2 (by decide) (by decide) v2 nl m.ls rfl O2.out (some ⟨X0.heap.size, 0, none⟩) 1 1 [x] rfl R2.out rfl (by decide) (by have := HL10.out; omega) G2.out.size ?_
  intro v3 X3 ho3 hg3
  have G3 := Lib.hid (G2.out.grown hg3 G2.out.size (fun k hk => own_base O2.out hk))
  obtain ⟨g6, c6, rfl⟩ := ownsRow_succ ho3
  have O3 := Lib.hid ho3
  clear ho3 hg3
  refine hK.out _ _ (G3.out.mono HB6.out) (fun hS => ?_)
  clear hK K
  try simp only [Act.put, Z2, Z3, Z4]
  refine wpHv (i := 11) (oi := ⟨some 44, _, _, _, _, _⟩) (v := ?_) rfl ?_ hS ?_; rotate_left; (focus (intro w9 hSw; go_simp; try with_reducible rfl)); simp only [Act.put, Z2, Z3, Z4]
  refine wpAnyH_ready (rs := [12]) (by kernel_rfl) (by simp) (AllReadyH.cons (o := ⟨none, _, _, _, _, _⟩) rfl (fun K hK => ?_) AllReadyH.nil)
  have g0 := MnAt.c32 (show MnAt X3 b6 m from T6'.out.below G3.out T6'.out.lt) HM32.out
  have gf : X3.frozen? ⟨b6, 32, none⟩ = false := frozen_of_row _ _ _ _ _ (T6'.out.below G3.out T6'.out.lt)
  have SX := Lib.hid (Below.setCell (p := ⟨b6, 32, none⟩) (G3.out.mono HB6.out) (Nat.le_refl _) (.slice (some ⟨g6, 0, none⟩) (nl + 1) c6))
  go_simp
  refine hK.out _ _ SX.out (fun hS => ?_)
  clear hK K g0 gf
  refine wpAnyH_done (by kernel_rfl) ?_ _
  have E1 := Lib.hid (show (m.ls ++ [x]).length = nl + 1 by rw [List.length_append, HNL.out]; rfl)
  have M6 := Lib.hid (mn_set (T6'.out.below G3.out T6'.out.lt) HM32.out (some ⟨g6, 0, none⟩) c6 (m.ls ++ [x]))
  rw [E1.out] at M6
  have K6 := Lib.hid (show MnA.Ok (X3.setCell ⟨b6, 32, none⟩ (.slice (some ⟨g6, 0, none⟩) (nl + 1) c6)) ⟨m.base, some ⟨g6, 0, none⟩, c6, m.ls ++ [x]⟩ from ⟨HM32.out, HMB.out, Kind.row_own (K := KLn) (te := 35) (base := w1.heap.size) (by rw [E1.out]; exact ownsRow_setCell_other O3.out (by intro h; have h1 := own_base O3.out h; have h2 := T6'.out.lt; simp only at h1; omega) _) (fun y hy => by
   rcases List.mem_append.1 hy with h | h
   ·exact LnA.below (HROW.out.2.2.2.2 y h) (BW.out _ SX.out)
   ·rw [List.mem_singleton.1 h]; exact XOK.out _ SX.out)⟩)
  generalize X3.setCell ⟨b6, 32, none⟩ (.slice (some ⟨g6, 0, none⟩) (nl + 1) c6) = w900 at *
  obtain ⟨m6, hm6⟩ : ∃ q, (⟨m.base, some ⟨g6, 0, none⟩, c6, m.ls ++ [x]⟩ : MnA) = q := ⟨_, rfl⟩
  rw [hm6] at M6 K6
  have V6 := Lib.hid (show mmay m6.m = false from by rw [← hm6]; exact HTW.out _ _)
  clear hm6
  have B501 := Lib.hid (BW.out _ SX.out)
  have T502 := Lib.hid (T1'.out.below SX.out hb1.out)
  have F503 := Lib.hid ((show MnA.Ok w m from HWM.out).below (BW.out _ SX.out) (Nat.le_refl _))
  have L504 := Lib.hid (MnA.len K6.out)
  clear SX
  have M505 := Lib.hid (T502.out.mn LM.out)
  have SZ505 := Lib.hid (mn_size F503.out)
  have SQ505 := Lib.hid (show mnA0.cs.toArray.size = m.cs.toArray.size by rw [mnA0_size, List.size_toArray]; exact (MnA.len F503.out).symm)
  have SO505 := Lib.hid (mn_ones m)
  have D7 := Lib.hid (RowAt.new w900 m.cs.toArray 26)
  have C32 := MnAt.c32 (show MnAt (w900.alloc (.cells m.cs.toArray 26)) w.heap.size m from T502.out.old (.cells m.cs.toArray 26)) HM32.out
  rw [HNL.out] at C32
  have SLU := HSLU.out (w900.alloc (.cells m.cs.toArray 26))
  have hsub := HSUB.out
  have ET := Lib.hid (show (m.ls.take N).length = N by rw [List.length_take, HNL.out]; have := HN1.out; omega)
  have N7 := Lib.hid (mn_set D7.out HM32.out m.A m.c (m.ls.take N))
  rw [ET.out] at N7
  have hb501 := ((Below.refl w900.heap.size w900).alloc (Nat.le_refl _) (.cells m.cs.toArray 26)).setCell (p := ⟨w900.heap.size, 32, none⟩) (Nat.le_refl _) (.slice m.A N m.c)
  have ST7 := Lib.hid (store_mnL D7.out HM32.out m.A N m.c)
  have T507 := Lib.hid (T502.out.below hb501 T502.out.lt)
  have T508 := Lib.hid (M6.out.below hb501 M6.out.lt)
  have F509 := Lib.hid (F503.out.below hb501 (Nat.le_refl _))
  have F510 := Lib.hid (K6.out.below hb501 (Nat.le_refl _))
  have B511 := Lib.hid (B501.out.trans (hb501.mono B501.out.size))
  clear hb501
  obtain ⟨m7, hm7⟩ : ∃ q, (⟨m.base, m.A, m.c, m.ls.take N⟩ : MnA) = q := ⟨_, rfl⟩
  rw [hm7] at N7
  have K7 := Lib.hid (show MnA.Ok ((w900.alloc (.cells m.cs.toArray 26)).setCell ⟨w900.heap.size, 32, none⟩ (.slice m.A N m.c)) m7 from by rw [← hm7]; exact ⟨HM32.out, HMB.out, Kind.row_take F509.out.2.2 N⟩)
  have V7 := Lib.hid (show mmay m7.m = true from by rw [← hm7]; exact HLS7.out _ _)
  clear hm7
  have L512 := Lib.hid (MnA.len K7.out)
  have M513 := Lib.hid (T507.out.mn LM.out)
  have SZ513 := Lib.hid (mn_size F509.out)
  have SQ513 := Lib.hid (show mnA0.cs.toArray.size = m.cs.toArray.size by rw [mnA0_size, List.size_toArray]; exact (MnA.len F509.out).symm)
  have SO513 := Lib.hid (mn_ones m)
  have D8 := Lib.hid (RowAt.new ((w900.alloc (.cells m.cs.toArray 26)).setCell ⟨w900.heap.size, 32, none⟩ (.slice m.A N m.c)) m.cs.toArray 26)
  have c54 := MnAt.c32 (show MnAt (((w900.alloc (.cells m.cs.toArray 26)).setCell ⟨w900.heap.size, 32, none⟩ (.slice m.A N m.c)).alloc (.cells m.cs.toArray 26)) w.heap.size m from T507.out.old (.cells m.cs.toArray 26)) HM32.out
  rw [HNL.out] at c54
  have HR8 := Lib.hid (Kind.row_below F509.out.2.2 ((Below.refl ((w900.alloc (.cells m.cs.toArray 26)).setCell ⟨w900.heap.size, 32, none⟩ (.slice m.A N m.c)).heap.size ((w900.alloc (.cells m.cs.toArray 26)).setCell ⟨w900.heap.size, 32, none⟩ (.slice m.A N m.c))).alloc (Nat.le_refl _) (.cells m.cs.toArray 26)) (Nat.le_refl _))
  obtain ⟨i0, hi, hz0, hz1, hz2⟩ := info_parts infoLn
  have HI := Lib.hid hi
  have HZ0 := Lib.hid hz0
  have HZ1 := Lib.hid hz1
  have HZ2 := Lib.hid hz2
  clear hi hz0 hz1 hz2
  go_wp2_with (first | ((with_reducible refine wpList_load_at (o := ⟨some 45, .load 26 (.tmp 1), _, _, _, _⟩) ?e1 26 (.tmp 1) ?e2 ⟨w.heap.size, 0, none⟩ ?e3 _ M505.out ?_); (case e1 => rfl); (case e2 => rfl); (case e3 => rfl)) | ((with_reducible refine wpList_store_new (o := ⟨none, .store 26 (.tmp 7) (.tmp 45), _, _, _, _⟩) ?e1 26 (.tmp 7) (.tmp 45) ?e2 ?e3 mnA0.cs.toArray m.cs.toArray ?e4 SZ505.out SQ505.out SO505.out ?_); (case e1 => rfl); (case e2 => rfl); (case e3 => (first | rfl | exact congrArg (fun q => Value.pointer (some ⟨q, 0, none⟩)) (World.size_alloc _ _).symm)); (case e4 => rfl)) | ((with_reducible refine wpList_store_run (o := ⟨none, .store 24 (.tmp 51) (.tmp 50), _, _, _, _⟩) ?e1 24 (.tmp 51) (.tmp 50) ?e2 ⟨w900.heap.size, 32, none⟩ _ ?e3 ?e4 ST7.out ?_); (case e1 => rfl); (case e2 => rfl); (case e3 => (first | rfl | exact congrArg (fun q => Value.pointer (some ⟨q, 32, none⟩)) (World.size_alloc _ _).symm)); (case e4 => rfl); generalize ((w900.alloc (.cells m.cs.toArray 26)).setCell ⟨w900.heap.size, 32, none⟩ (.slice m.A N m.c)) = w901 at *) | ((with_reducible refine wpList_load_at (o := ⟨some 52, .load 26 (.tmp 1), _, _, _, _⟩) ?e1 26 (.tmp 1) ?e2 ⟨w.heap.size, 0, none⟩ ?e3 _ M513.out ?_); (case e1 => rfl); (case e2 => rfl); (case e3 => rfl)) | ((with_reducible refine wpList_store_new (o := ⟨none, .store 26 (.tmp 8) (.tmp 52), _, _, _, _⟩) ?e1 26 (.tmp 8) (.tmp 52) ?e2 ?e3 mnA0.cs.toArray m.cs.toArray ?e4 SZ513.out SQ513.out SO513.out ?_); (case e1 => rfl); (case e2 => rfl); (case e3 => (first | rfl | exact congrArg (fun q => Value.pointer (some ⟨q, 0, none⟩)) (World.size_alloc _ _).symm)); (case e4 => rfl)) | (at_builtin; refine wpList_append_K (K := KLn) _ rfl _ _ 24 rfl (w901.alloc (.cells m.cs.toArray 26)).heap.size 35 i0 _ 56 Tryz.underlying24 HI.out HZ0.out HZ1.out HZ2.out (by decide) (by decide) (.slice none 0 0) 0 [] rfl (World.ownsRow_nil _ _ _ _) m.A nl m.c m.ls rfl HR8.out HNL.out (by have := HL10.out; omega) (Nat.le_refl _) ?_; intro v8 w902 ho8 hg8; rw [Nat.zero_add, List.nil_append] at ho8; obtain ⟨g8, c8, hv8⟩ := ownsRow_succ (k := N) (by rw [← HN1.out]; exact ho8); rw [← HN1.out] at hv8; subst hv8; have O8 := Lib.hid ho8; have hb94 := ((Below.refl w901.heap.size w901).alloc (Nat.le_refl _) (.cells m.cs.toArray 26)).grown hg8 (by rw [World.size_alloc]; omega) (by intro k hk; cases hk); have D8w := Lib.hid (D8.out.below ((Below.refl (w901.alloc (.cells m.cs.toArray 26)).heap.size (w901.alloc (.cells m.cs.toArray 26))).grown hg8 (Nat.le_refl _) (by intro k hk; cases hk)) D8.out.lt); have ST8 := Lib.hid (store_mnL D8w.out HM32.out (some ⟨g8, 0, none⟩) nl c8); have N8 := Lib.hid (mn_set D8w.out HM32.out (some ⟨g8, 0, none⟩) c8 m.ls); rw [HNL.out] at N8; have hb95 := hb94.setCell (p := ⟨w901.heap.size, 32, none⟩) (Nat.le_refl _) (.slice (some ⟨g8, 0, none⟩) nl c8); clear ho8 hb94; have O85 := Lib.hid (ownsRow_setCell_other (a := ⟨w901.heap.size, 32, none⟩) O8.out (by intro h; have h1 := own_base O8.out h; rw [World.size_alloc] at h1; simp only at h1; omega) (.slice (some ⟨g8, 0, none⟩) nl c8)); have hs95 := Lib.hid hb95; have T515 := Lib.hid (T507.out.below hb95 T507.out.lt); have T516 := Lib.hid (T508.out.below hb95 T508.out.lt); have T517 := Lib.hid (N7.out.below hb95 N7.out.lt); have F518 := Lib.hid (F509.out.below hb95 (Nat.le_refl _)); have F519 := Lib.hid (F510.out.below hb95 (Nat.le_refl _)); have F520 := Lib.hid (K7.out.below hb95 (Nat.le_refl _)); have B521 := Lib.hid (B511.out.trans (hb95.mono B511.out.size)); clear hb95; have c57 := MnAt.c32 (show MnAt (w902.setCell ⟨w901.heap.size, 32, none⟩ (.slice (some ⟨g8, 0, none⟩) nl c8)) w.heap.size m from T515.out) HM32.out; rw [HNL.out] at c57; have ix61 := IX.out (w902.setCell ⟨w901.heap.size, 32, none⟩ (.slice (some ⟨g8, 0, none⟩) nl c8)); have L62 := Lib.hid (load_lnL (HFL.out (w902.setCell ⟨w901.heap.size, 32, none⟩ (.slice (some ⟨g8, 0, none⟩) nl c8)) B521.out) YL.out); have SZ9 := Lib.hid (ln_size HXO.out); have SQ9 := Lib.hid (show (KLn.cs lnA0).toArray.size = (KLn.cs x).toArray.size by rw [lnA0_size, List.size_toArray]; exact YL.out.symm); have SO9 := Lib.hid (ln_ones x); have E9 := Lib.hid (RowAt.new (w902.setCell ⟨w901.heap.size, 32, none⟩ (.slice (some ⟨g8, 0, none⟩) nl c8)) (KLn.cs x).toArray 35); have l18 := ln_c18 (Kind.at_blk (K := KLn) (x := x) E9.out) HZX.out; rw [Nat.zero_add, HNE.out] at l18; have l16 := ln_c16 (Kind.at_blk (K := KLn) (x := x) E9.out) HZX.out; rw [Nat.zero_add] at l16; have l17 := ln_c17 (Kind.at_blk (K := KLn) (x := x) E9.out) HZX.out; rw [Nat.zero_add] at l17; obtain ⟨m8, hm8⟩ : ∃ q, (⟨m.base, some ⟨g8, 0, none⟩, c8, m.ls⟩ : MnA) = q := ⟨_, rfl⟩; rw [hm8] at N8; have K8 := Lib.hid (show MnA.Ok (w902.setCell ⟨w901.heap.size, 32, none⟩ (.slice (some ⟨g8, 0, none⟩) nl c8)) m8 from by rw [← hm8]; exact ⟨HM32.out, HMB.out, Kind.row_own (K := KLn) (te := 35) (base := (w901.alloc (.cells m.cs.toArray 26)).heap.size) (by rw [HNL.out]; exact O85.out) (fun y hy => LnA.below (HROW.out.2.2.2.2 y hy) B521.out)⟩); have V8 := Lib.hid (show mmay m8.m = true from by rw [← hm8]; exact PV.out); have L8 := Lib.hid (MnA.len K8.out); have hb96 := (Below.refl (w902.setCell ⟨w901.heap.size, 32, none⟩ (.slice (some ⟨g8, 0, none⟩) nl c8)).heap.size (w902.setCell ⟨w901.heap.size, 32, none⟩ (.slice (some ⟨g8, 0, none⟩) nl c8))).alloc (Nat.le_refl _) (.cells (KLn.cs x).toArray 35); have T522 := Lib.hid (T515.out.below hb96 T515.out.lt); have T523 := Lib.hid (T516.out.below hb96 T516.out.lt); have T524 := Lib.hid (T517.out.below hb96 T517.out.lt); have T525 := Lib.hid (N8.out.below hb96 N8.out.lt); have F526 := Lib.hid (F518.out.below hb96 (Nat.le_refl _)); have F527 := Lib.hid (F519.out.below hb96 (Nat.le_refl _)); have F528 := Lib.hid (F520.out.below hb96 (Nat.le_refl _)); have F529 := Lib.hid (K8.out.below hb96 (Nat.le_refl _)); have B530 := Lib.hid (B521.out.trans (hb96.mono B521.out.size)); clear hb96; have M531 := Lib.hid (T523.out.mn L504.out)) | ((with_reducible refine wpList_store_run (o := ⟨none, .store 24 (.tmp 56) (.tmp 55), _, _, _, _⟩) ?e1 24 (.tmp 56) (.tmp 55) ?e2 ⟨w901.heap.size, 32, none⟩ _ ?e3 ?e4 ST8.out ?_); (case e1 => rfl); (case e2 => rfl); (case e3 => (first | rfl | exact congrArg (fun q => Value.pointer (some ⟨q, 32, none⟩)) (World.size_alloc _ _).symm)); (case e4 => rfl); generalize (w902.setCell ⟨w901.heap.size, 32, none⟩ (.slice (some ⟨g8, 0, none⟩) nl c8)) = w903 at *) | ((with_reducible refine wpList_load_at (o := ⟨some 62, .load 35 (.tmp 61), _, _, _, _⟩) ?e1 35 (.tmp 61) ?e2 ⟨b9, off9 + N * 19, none⟩ ?e3 _ L62.out ?_); (case e1 => rfl); (case e2 => rfl); (case e3 => rfl)) | ((with_reducible refine wpList_store_new (o := ⟨none, .store 35 (.tmp 9) (.tmp 62), _, _, _, _⟩) ?e1 35 (.tmp 9) (.tmp 62) ?e2 ?e3 (KLn.cs lnA0).toArray (KLn.cs x).toArray ?e4 SZ9.out SQ9.out SO9.out ?_); (case e1 => rfl); (case e2 => rfl); (case e3 => (first | rfl | exact congrArg (fun q => Value.pointer (some ⟨q, 0, none⟩)) (World.size_alloc _ _).symm)); (case e4 => rfl)) | ((with_reducible refine wpList_load_at (o := ⟨some 93, .load 26 (.tmp 6), _, _, _, _⟩) ?e1 26 (.tmp 6) ?e2 ⟨b6, 0, none⟩ ?e3 _ M531.out ?_); (case e1 => rfl); (case e2 => rfl); (case e3 => rfl)) | fail)
  clear c57 ix61 l16 l17 l18 c54 C32 SLU hsub
  have C532 := Lib.hid ((show Calls Tryz.prog 6 #[.agg m6.cs.toArray] (w903.alloc (.cells (KLn.cs x).toArray 35)) fun e w' => e = .returned (.bool (mmay m6.m)) ∧ Below ((w903.alloc (.cells (KLn.cs x).toArray 35))).heap.size (w903.alloc (.cells (KLn.cs x).toArray 35)) w' from pmay12_any m6 (w903.alloc (.cells (KLn.cs x).toArray 35)) F527.out))
  rw [V6.out] at C532
  refine C532.out.mono ?_
  rintro e w533 ⟨rfl, hb534⟩
  have T535 := Lib.hid (T522.out.below hb534 T522.out.lt)
  have T536 := Lib.hid (T523.out.below hb534 T523.out.lt)
  have T537 := Lib.hid (T524.out.below hb534 T524.out.lt)
  have T538 := Lib.hid (T525.out.below hb534 T525.out.lt)
  have F539 := Lib.hid (F526.out.below hb534 (Nat.le_refl _))
  have F540 := Lib.hid (F527.out.below hb534 (Nat.le_refl _))
  have F541 := Lib.hid (F528.out.below hb534 (Nat.le_refl _))
  have F542 := Lib.hid (F529.out.below hb534 (Nat.le_refl _))
  have B543 := Lib.hid (B530.out.trans (hb534.mono B530.out.size))
  clear hb534
  have M544 := Lib.hid (T537.out.mn L512.out)
  have C545 := Lib.hid ((show Calls Tryz.prog 6 #[.agg m7.cs.toArray] w533 fun e w' => e = .returned (.bool (mmay m7.m)) ∧ Below (w533).heap.size w533 w' from pmay12_any m7 w533 F541.out))
  rw [V7.out] at C545
  go_wp2_with (first | ((with_reducible refine wpList_load_at (o := ⟨some 97, .load 26 (.tmp 7), _, _, _, _⟩) ?e1 26 (.tmp 7) ?e2 ⟨w900.heap.size, 0, none⟩ ?e3 _ M544.out ?_); (case e1 => rfl); (case e2 => rfl); (case e3 => rfl)))
  refine C545.out.mono ?_
  rintro e w546 ⟨rfl, hb547⟩
  have T548 := Lib.hid (T535.out.below hb547 T535.out.lt)
  have T549 := Lib.hid (T536.out.below hb547 T536.out.lt)
  have T550 := Lib.hid (T537.out.below hb547 T537.out.lt)
  have T551 := Lib.hid (T538.out.below hb547 T538.out.lt)
  have F552 := Lib.hid (F539.out.below hb547 (Nat.le_refl _))
  have F553 := Lib.hid (F540.out.below hb547 (Nat.le_refl _))
  have F554 := Lib.hid (F541.out.below hb547 (Nat.le_refl _))
  have F555 := Lib.hid (F542.out.below hb547 (Nat.le_refl _))
  have B556 := Lib.hid (B543.out.trans (hb547.mono B543.out.size))
  clear hb547
  have M557 := Lib.hid (T551.out.mn L8.out)
  have C558 := Lib.hid ((show Calls Tryz.prog 6 #[.agg m8.cs.toArray] w546 fun e w' => e = .returned (.bool (mmay m8.m)) ∧ Below (w546).heap.size w546 w' from pmay12_any m8 w546 F555.out))
  rw [V8.out] at C558
  go_wp2_with (first | ((with_reducible refine wpList_load_at (o := ⟨some 101, .load 26 (.tmp 8), _, _, _, _⟩) ?e1 26 (.tmp 8) ?e2 ⟨w901.heap.size, 0, none⟩ ?e3 _ M557.out ?_); (case e1 => rfl); (case e2 => rfl); (case e3 => rfl)))
  refine C558.out.mono ?_
  rintro e w559 ⟨rfl, hb560⟩
  have T561 := Lib.hid (T548.out.below hb560 T548.out.lt)
  have T562 := Lib.hid (T549.out.below hb560 T549.out.lt)
  have T563 := Lib.hid (T550.out.below hb560 T550.out.lt)
  have T564 := Lib.hid (T551.out.below hb560 T551.out.lt)
  have F565 := Lib.hid (F552.out.below hb560 (Nat.le_refl _))
  have F566 := Lib.hid (F553.out.below hb560 (Nat.le_refl _))
  have F567 := Lib.hid (F554.out.below hb560 (Nat.le_refl _))
  have F568 := Lib.hid (F555.out.below hb560 (Nat.le_refl _))
  have B569 := Lib.hid (B556.out.trans (hb560.mono B556.out.size))
  clear hb560
  have c106 := MnAt.c32 (show MnAt w559 w.heap.size m from T561.out) HM32.out
  rw [HNL.out] at c106
  have t10 : (nl : Int) ≤ 10 := by have := HL10.out; omega
  go_wp2
  go_ret
  exact ⟨rfl, B569.out⟩
set_option maxHeartbeats 16000000 in
theorem mfw_someC (m : MnA) (w : World) (hlaid : Laid w) (wm : m.Ok w) (N : Nat) (p : mfew m.m = true) (q : mmay m.m = true) (r : m.ls.length = N + 1) (en : (m.ls.getD N lnA0).es.length = 1) (dd : (m.ls.getD N lnA0).n = 0 ∧ (m.ls.getD N lnA0).r = 0) :
  Calls Tryz.prog 3 #[.agg m.cs.toArray] w fun e w' => e = .returned (.bool true) ∧ Below w.heap.size w w' := by
 have HLA := Lib.hid (fun (X : World) (hX : Below w.heap.size w X) => hlaid.below hX (Nat.le_refl _))
 have Fm := Lib.hid wm
 have LM := Lib.hid (MnA.len wm)
 have HM32 := Lib.hid wm.1
 obtain ⟨nl, hnl⟩ : ∃ n, m.ls.length = n := ⟨_, rfl⟩
 have HNL := Lib.hid hnl
 have hnb : nl ≤ 9223372036854775807 := by
  have a1 := wm.2.2.1
  have a2 := wm.2.2.2.1
  simp only [maxLen] at a2
  omega
 have HNE := Lib.hid en
 have hbs : ∀ w : World, (Instr.build 32 #[]).run Tryz.prog w = .ok (.agg #[.int .i64 0, .int .i64 0]) w := fun w => run_build w _ _ _ (by kernel_rfl)
 have HEQ := Lib.hid (fun X => eq_st (n := (m.ls.getD N lnA0).n) (r := (m.ls.getD N lnA0).r) (m := 0) (s := 0) X)
 rw [decide_eq_true dd] at HEQ
 clear dd
 have PM := Lib.hid p
 have PV := Lib.hid q
 have h1 : nl = N + 1 := hnl.symm.trans r
 have t1 : ¬ (nl : Int) = 0 := by omega
 have HPOS := Lib.hid (show 0 < nl by omega)
 have HSUB := Lib.hid (show IntKind.i64.wrap ((nl : Int) - 1) = N by rw [IntKind.wrap_i64]; omega)
 have HLT := Lib.hid (show N < m.ls.length by omega)
 have HN1 := Lib.hid h1
 have HR := Lib.hid (fun h0 => ln_row wm.2.2 h0)
 have HROW := Lib.hid wm.2.2
 have HMB := Lib.hid wm.2.1
 have HL10 := Lib.hid (show nl ≤ 10 by have h8 := mmay_size q; rw [show m.m.ls = m.ls.map (·.x) from rfl, List.length_map] at h8; omega)
 have HWM := Lib.hid wm
 have HTW := Lib.hid (fun (A : Option Addr) (c : Nat) => mmay_twiceA r A c)
 have HLS7 := Lib.hid (fun (A : Option Addr) (c : Nat) => mmay_lessA r q A c)
 have HSLU := Lib.hid (fun X : World => slice_upto (P := Tryz.prog) (ts := 24) Tryz.underlying24 (fun w => sizeLn w) m.A nl m.c N (by have h8 := wm.2.2.1; omega) (N : Int) rfl X)
 have HXO := Lib.hid (show LnA.Ok w (m.ls.getD N lnA0) from Kind.row_ok wm.2.2 HLT.out)
 have hzm := zeroMn
 rw [show mnA0.v = .agg mnA0.cs.toArray from rfl] at hzm
 have hzl := zeroLn
 rw [show KLn.v lnA0 = .agg (KLn.cs lnA0).toArray from rfl] at hzl
 have hzne : ¬ mnA0.cs.toArray = #[] := by decide
 have hzne3 : ¬ (KLn.cs lnA0).toArray = #[] := by decide
 clear hlaid wm p q r hnl h1 en
 have B1 := Lib.hid (Below.refl w.heap.size w)
 have T2n := RowAt.new w m.cs.toArray 26
 have T2 := Lib.hid T2n
 clear T2n
 have B3 := Lib.hid (B1.out.alloc B1.out.size (.cells m.cs.toArray 26))
 have F4 := Lib.hid (Fm.out.below B3.out (Nat.le_refl _))
 go_enter Tryz.func3, Tryz.ntmps3
 have C5 := Lib.hid (mnAwake (w.alloc (.cells m.cs.toArray 26)) (HLA.out _ B3.out))
 go_wp2_with fail
 refine C5.out.mono ?_
 rintro e w6 ⟨rfl, hb7⟩
 have T8 := Lib.hid (T2.out.below hb7 T2.out.lt)
 have F9 := Lib.hid (F4.out.below hb7 (Nat.le_refl _))
 have B10 := Lib.hid (B3.out.trans (hb7.mono B3.out.size))
 clear hb7
 have M11 := Lib.hid (T8.out.mn LM.out)
 have C12 := Lib.hid (rfew12_any m w6 F9.out)
 rw [PM.out] at C12
 go_wp2_with (first | ((with_reducible refine wpList_load_at (o := ⟨some 11, .load 26 (.tmp 1), _, _, _, _⟩) ?e1 26 (.tmp 1) ?e2 ⟨w.heap.size, 0, none⟩ ?e3 _ M11.out ?_); (case e1 => rfl); (case e2 => rfl); (case e3 => rfl)))
 refine C12.out.mono ?_
 rintro e w13 ⟨rfl, hb14⟩
 have T15 := Lib.hid (T8.out.below hb14 T8.out.lt)
 have F16 := Lib.hid (F9.out.below hb14 (Nat.le_refl _))
 have B17 := Lib.hid (B10.out.trans (hb14.mono B10.out.size))
 clear hb14
 have c32 := MnAt.c32 (show MnAt w13 w.heap.size m from T15.out) HM32.out
 rw [HNL.out] at c32
 have M18 := Lib.hid (T15.out.mn LM.out)
 have C19 := Lib.hid (pmay12_any m w13 F16.out)
 rw [PV.out] at C19
 go_wp2_with (first | ((with_reducible refine wpList_load_at (o := ⟨some 23, .load 26 (.tmp 1), _, _, _, _⟩) ?e1 26 (.tmp 1) ?e2 ⟨w.heap.size, 0, none⟩ ?e3 _ M18.out ?_); (case e1 => rfl); (case e2 => rfl); (case e3 => rfl)))
 refine C19.out.mono ?_
 rintro e w20 ⟨rfl, hb21⟩
 have T22 := Lib.hid (T15.out.below hb21 T15.out.lt)
 have F23 := Lib.hid (F16.out.below hb21 (Nat.le_refl _))
 have B24 := Lib.hid (B17.out.trans (hb21.mono B17.out.size))
 clear hb21
 clear c32
 have M25 := Lib.hid (T22.out.mn LM.out)
 have hb1 := Lib.hid T22.out.lt
 have hb6 := Lib.hid B24.out.size
 have SZ25 := Lib.hid (mn_size F23.out)
 have SQ25 := Lib.hid (show mnA0.cs.toArray.size = m.cs.toArray.size by rw [mnA0_size, List.size_toArray]; exact (MnA.len F23.out).symm)
 have SO25 := Lib.hid (mn_ones m)
 have L27 := Lib.hid (MnA.len F23.out)
 have hb28 := (Below.refl w20.heap.size w20).alloc (Nat.le_refl _) (.cells m.cs.toArray 26)
 have T29 := Lib.hid (RowAt.new w20 m.cs.toArray 26)
 have T30 := Lib.hid (T22.out.below hb28 T22.out.lt)
 have F31 := Lib.hid (F23.out.below hb28 (Nat.le_refl _))
 have F32 := Lib.hid (F23.out.below hb28 (Nat.le_refl _))
 have B33 := Lib.hid (B24.out.trans (hb28.mono B24.out.size))
 clear hb28
 have T1' := Lib.hid T30.out
 have T6' := Lib.hid T29.out
 have HB1 := Lib.hid B33.out
 go_wp2_with (first | ((with_reducible refine wpList_load_at (o := ⟨some 32, .load 26 (.tmp 1), _, _, _, _⟩) ?e1 26 (.tmp 1) ?e2 ⟨w.heap.size, 0, none⟩ ?e3 _ M25.out ?_); (case e1 => rfl); (case e2 => rfl); (case e3 => rfl)) | ((with_reducible refine wpList_store_new (o := ⟨none, .store 26 (.tmp 6) (.tmp 32), _, _, _, _⟩) ?e1 26 (.tmp 6) (.tmp 32) ?e2 ?e3 mnA0.cs.toArray m.cs.toArray ?e4 SZ25.out SQ25.out SO25.out ?_); (case e1 => rfl); (case e2 => rfl); (case e3 => (first | rfl | exact congrArg (fun q => Value.pointer (some ⟨q, 0, none⟩)) (World.size_alloc _ _).symm)); (case e4 => rfl)))
 generalize ((w20.alloc (.cells m.cs.toArray 26))) = w1 at *
 generalize hq6 : w20.heap.size = b6 at *
 have Q6 := Lib.hid hq6
 have FC32 := Lib.hid (fun X (hX : Below b6 w1 X) => MnAt.c32 (show MnAt X w.heap.size m from T1'.out.below hX hb1.out) HM32.out)
 rw [HNL.out] at FC32
 have BW := Lib.hid (fun X (hX : Below b6 w1 X) => HB1.out.trans (hX.mono hb6.out))
 obtain ⟨b9, off9, hA9, hb9w, hx9, hi9⟩ := HR.out (by rw [HNL.out]; exact HPOS.out)
 have IX := Lib.hid (hi9 N HLT.out N rfl)
 rw [← hA9, HNL.out] at IX
 have FLN := Lib.hid (fun X (hX : Below b6 w1 X) => Kind.at_same (hx9 N HLT.out) ((BW.out X hX).block b9 hb9w))
 have HFL := Lib.hid (fun X (hX : Below w.heap.size w X) => Kind.at_same (hx9 N HLT.out) (hX.block b9 hb9w))
 have HRW := Lib.hid (fun X (hX : Below b6 w1 X) => show KLn.row X m.A m.c m.ls from Kind.row_below HROW.out (BW.out X hX) (Nat.le_refl _))
 clear hx9 hi9 hA9 hb9w hq6
 generalize m.ls.getD N lnA0 = x at *
 have HB6 := Lib.hid (Nat.le_of_lt T6'.out.lt)
 have XOK := Lib.hid (fun X (hX : Below b6 w1 X) => LnA.below HXO.out (BW.out X hX))
 have YL := Lib.hid (LnA.len HXO.out)
 have HZX := Lib.hid HXO.out.1
 refine wp_region_held_drew (S := fun X => Below b6 w1 X) (by kernel_rfl) (((Below.refl _ _).drew).mono (Nat.le_of_lt T6'.out.lt)) (fun hS => ?_)
 have S0 := Lib.hid hS
 have G0 := Lib.hid ((Below.refl w1.heap.size w1).drew)
 generalize World.drew _ = X0 at *
 refine wpHv (i := 0) (oi := ⟨some 33, _, _, _, _, _⟩) (v := ?_) rfl ?_ hS ?_; rotate_left; (focus (intro w9 hSw; go_simp; try with_reducible rfl)); simp only [Act.put, Z2, Z3, Z4]
 refine wpHv (i := 1) (oi := ⟨some 34, _, _, _, _, _⟩) (v := ?_) rfl ?_ hS ?_; rotate_left; (focus (intro w9 hSw; have q0 := FC32.out w9 hSw; go_simp; try with_reducible rfl)); simp only [Act.put, Z2, Z3, Z4]
 refine wpHv (i := 3) (oi := ⟨some 36, _, _, _, _, _⟩) (v := ?_) rfl ?_ hS ?_; rotate_left; (focus (intro w9 hSw; go_simp; try with_reducible rfl)); simp only [Act.put, Z2, Z3, Z4]
 refine wpHv (i := 4) (oi := ⟨some 37, _, _, _, _, _⟩) (v := ?_) rfl ?_ hS ?_; rotate_left; (focus (intro w9 hSw; have q0 := FC32.out w9 hSw; go_simp; try with_reducible rfl)); simp only [Act.put, Z2, Z3, Z4]
 refine wpHv (i := 5) (oi := ⟨some 38, _, _, _, _, _⟩) (v := ?_) rfl ?_ hS ?_; rotate_left; (focus (intro w9 hSw; go_simp; try with_reducible rfl)); simp only [Act.put, Z2, Z3, Z4]
 refine wpHv (i := 6) (oi := ⟨some 39, _, _, _, _, _⟩) (v := (.int .i64 N)) rfl ?_ hS ?_; (focus (intro w9 hSw; first | (go_simp; done) | (go_simp; omega) | (go_simp; exact HSUB.out) | (go_simp; rw [HSUB.out]))); simp only [Act.put, Z2, Z3, Z4]
 refine wpHv (i := 7) (oi := ⟨some 40, _, _, _, _, _⟩) (v := ?_) rfl ?_ hS ?_; rotate_left; (focus (intro w9 hSw; have q0 := IX.out w9; go_simp; try with_reducible rfl)); simp only [Act.put, Z2, Z3, Z4]
 refine wpHv (i := 8) (oi := ⟨some 41, _, _, _, _, _⟩) (v := (.agg (KLn.cs x).toArray)) rfl ?_ hS ?_; (focus (intro w9 hSw; exact exec_load_at 35 _ rfl _ rfl (load_lnL (FLN.out w9 hSw) YL.out))); simp only [Act.put, Z2, Z3, Z4]
 refine wpAnyH_ready (rs := [2, 9]) (by kernel_rfl) (by simp) (AllReadyH.cons (o := ⟨some 35, _, _, _, _, _⟩) rfl (fun K hK => ?_) (AllReadyH.cons (o := ⟨some 42, _, _, _, _, _⟩) rfl (fun K hK => ?_) AllReadyH.nil))
 ·obtain ⟨i0, hi, hz0, hz1, hz2⟩ := info_parts infoLn
  refine step_append_rowK (K := KLn) (o := ⟨some 35, _, _, _, _, _⟩) rfl _ _ 24 rfl w1.heap.size 35 i0 _ 56 Tryz.underlying24 hi hz0 hz1 hz2 (by decide) (by decide) (.slice none 0 0) 0 [] rfl (World.ownsRow_nil _ _ _ _) m.A nl m.c m.ls rfl (HRW.out _ (G0.out.mono HB6.out)) HNL.out HPOS.out (by have := HL10.out; omega) G0.out.size ?_
  intro v1 X1 ho1 hg1
  rw [Nat.zero_add, List.nil_append] at ho1
  have O1 := Lib.hid ho1
  have G1 := Lib.hid (G0.out.grown hg1 G0.out.size (by intro k hk; cases hk))
  refine hK.out _ _ (G1.out.mono HB6.out) (fun hS => ?_)
  clear hK K
  try simp only [Act.put, Z2, Z3, Z4]
  refine wpAnyH_ready (rs := [9]) (by kernel_rfl) (by simp) (AllReadyH.cons (o := ⟨some 42, _, _, _, _, _⟩) rfl (fun K hK => ?_) AllReadyH.nil)
  refine step_bsliceK (K := KLn) rfl (.tmp 41) rfl x rfl YL.out Tryz.underlying24 sizeLn zeroLn nLn ?_
  have G2 := Lib.hid (G1.out.alloc G1.out.size (.cells (KLn.cs x).toArray 35))
  have R2 := Lib.hid (row_one (K := KLn) (x := x) (X := X1) (te := 35) YL.out (XOK.out _ (G2.out.mono HB6.out)))
  have O2 := Lib.hid (O1.out.alloc (.cells (KLn.cs x).toArray 35))
  refine hK.out _ _ (G2.out.mono HB6.out) (fun hS => ?_)
  clear hK K
  try simp only [Act.put, Z2, Z3, Z4]
  refine wpAnyH_ready (rs := [10]) (by kernel_rfl) (by simp) (AllReadyH.cons (o := ⟨some 43, _, _, _, _, _⟩) rfl (fun K hK => ?_) AllReadyH.nil)
  obtain ⟨i0, hi, hz0, hz1, hz2⟩ := info_parts infoLn
  refine step_append_rowK (K := KLn) (o := ⟨some 43, _, _, _, _, _⟩) rfl _ _ 24 rfl w1.heap.size 35 i0 _ 56 Tryz.underlying24 hi hz0 hz1 hz2 (by decide) (by decide) v1 nl m.ls rfl O2.out (some ⟨X1.heap.size, 0, none⟩) 1 1 [x] rfl R2.out rfl (by decide) (by have := HL10.out; omega) G2.out.size ?_
  intro v3 X3 ho3 hg3
  have G3 := Lib.hid (G2.out.grown hg3 G2.out.size (fun k hk => own_base O2.out hk))
  obtain ⟨g6, c6, rfl⟩ := ownsRow_succ ho3
  have O3 := Lib.hid ho3
  clear ho3 hg3
  refine hK.out _ _ (G3.out.mono HB6.out) (fun hS => ?_)
  clear hK K
  try simp only [Act.put, Z2, Z3, Z4]
  refine wpHv (i := 11) (oi := ⟨some 44, _, _, _, _, _⟩) (v := ?_) rfl ?_ hS ?_; rotate_left; (focus (intro w9 hSw; go_simp; try with_reducible rfl)); simp only [Act.put, Z2, Z3, Z4]
  refine wpAnyH_ready (rs := [12]) (by kernel_rfl) (by simp) (AllReadyH.cons (o := ⟨none, _, _, _, _, _⟩) rfl (fun K hK => ?_) AllReadyH.nil)
  have g0 := MnAt.c32 (show MnAt X3 b6 m from T6'.out.below G3.out T6'.out.lt) HM32.out
  have gf : X3.frozen? ⟨b6, 32, none⟩ = false := frozen_of_row _ _ _ _ _ (T6'.out.below G3.out T6'.out.lt)
  have SX := Lib.hid (Below.setCell (p := ⟨b6, 32, none⟩) (G3.out.mono HB6.out) (Nat.le_refl _) (.slice (some ⟨g6, 0, none⟩) (nl + 1) c6))
  go_simp
  refine hK.out _ _ SX.out (fun hS => ?_)
  clear hK K g0 gf
  refine wpAnyH_done (by kernel_rfl) ?_ _
  have E1 := Lib.hid (show (m.ls ++ [x]).length = nl + 1 by rw [List.length_append, HNL.out]; rfl)
  have M6 := Lib.hid (mn_set (T6'.out.below G3.out T6'.out.lt) HM32.out (some ⟨g6, 0, none⟩) c6 (m.ls ++ [x]))
  rw [E1.out] at M6
  have K6 := Lib.hid (show MnA.Ok (X3.setCell ⟨b6, 32, none⟩ (.slice (some ⟨g6, 0, none⟩) (nl + 1) c6)) ⟨m.base, some ⟨g6, 0, none⟩, c6, m.ls ++ [x]⟩ from ⟨HM32.out, HMB.out, Kind.row_own (K := KLn) (te := 35) (base := w1.heap.size) (by rw [E1.out]; exact ownsRow_setCell_other O3.out (by intro h; have h1 := own_base O3.out h; have h2 := T6'.out.lt; simp only at h1; omega) _) (fun y hy => by
   rcases List.mem_append.1 hy with h | h
   ·exact LnA.below (HROW.out.2.2.2.2 y h) (BW.out _ SX.out)
   ·rw [List.mem_singleton.1 h]; exact XOK.out _ SX.out)⟩)
  generalize X3.setCell ⟨b6, 32, none⟩ (.slice (some ⟨g6, 0, none⟩) (nl + 1) c6) = w900 at *
  obtain ⟨m6, hm6⟩ : ∃ q, (⟨m.base, some ⟨g6, 0, none⟩, c6, m.ls ++ [x]⟩ : MnA) = q := ⟨_, rfl⟩
  rw [hm6] at M6 K6
  have V6 := Lib.hid (show mmay m6.m = false from by rw [← hm6]; exact HTW.out _ _)
  clear hm6
  have B501 := Lib.hid (BW.out _ SX.out)
  have T502 := Lib.hid (T1'.out.below SX.out hb1.out)
  have F503 := Lib.hid ((show MnA.Ok w m from HWM.out).below (BW.out _ SX.out) (Nat.le_refl _))
  have L504 := Lib.hid (MnA.len K6.out)
  clear SX
  have M505 := Lib.hid (T502.out.mn LM.out)
  have SZ505 := Lib.hid (mn_size F503.out)
  have SQ505 := Lib.hid (show mnA0.cs.toArray.size = m.cs.toArray.size by rw [mnA0_size, List.size_toArray]; exact (MnA.len F503.out).symm)
  have SO505 := Lib.hid (mn_ones m)
  have D7 := Lib.hid (RowAt.new w900 m.cs.toArray 26)
  have C32 := MnAt.c32 (show MnAt (w900.alloc (.cells m.cs.toArray 26)) w.heap.size m from T502.out.old (.cells m.cs.toArray 26)) HM32.out
  rw [HNL.out] at C32
  have SLU := HSLU.out (w900.alloc (.cells m.cs.toArray 26))
  have hsub := HSUB.out
  have ET := Lib.hid (show (m.ls.take N).length = N by rw [List.length_take, HNL.out]; have := HN1.out; omega)
  have N7 := Lib.hid (mn_set D7.out HM32.out m.A m.c (m.ls.take N))
  rw [ET.out] at N7
  have hb501 := ((Below.refl w900.heap.size w900).alloc (Nat.le_refl _) (.cells m.cs.toArray 26)).setCell (p := ⟨w900.heap.size, 32, none⟩) (Nat.le_refl _) (.slice m.A N m.c)
  have ST7 := Lib.hid (store_mnL D7.out HM32.out m.A N m.c)
  have T507 := Lib.hid (T502.out.below hb501 T502.out.lt)
  have T508 := Lib.hid (M6.out.below hb501 M6.out.lt)
  have F509 := Lib.hid (F503.out.below hb501 (Nat.le_refl _))
  have F510 := Lib.hid (K6.out.below hb501 (Nat.le_refl _))
  have B511 := Lib.hid (B501.out.trans (hb501.mono B501.out.size))
  clear hb501
  obtain ⟨m7, hm7⟩ : ∃ q, (⟨m.base, m.A, m.c, m.ls.take N⟩ : MnA) = q := ⟨_, rfl⟩
  rw [hm7] at N7
  have K7 := Lib.hid (show MnA.Ok ((w900.alloc (.cells m.cs.toArray 26)).setCell ⟨w900.heap.size, 32, none⟩ (.slice m.A N m.c)) m7 from by rw [← hm7]; exact ⟨HM32.out, HMB.out, Kind.row_take F509.out.2.2 N⟩)
  have V7 := Lib.hid (show mmay m7.m = true from by rw [← hm7]; exact HLS7.out _ _)
  clear hm7
  have L512 := Lib.hid (MnA.len K7.out)
  have M513 := Lib.hid (T507.out.mn LM.out)
  have SZ513 := Lib.hid (mn_size F509.out)
  have SQ513 := Lib.hid (show mnA0.cs.toArray.size = m.cs.toArray.size by rw [mnA0_size, List.size_toArray]; exact (MnA.len F509.out).symm)
  have SO513 := Lib.hid (mn_ones m)
  have D8 := Lib.hid (RowAt.new ((w900.alloc (.cells m.cs.toArray 26)).setCell ⟨w900.heap.size, 32, none⟩ (.slice m.A N m.c)) m.cs.toArray 26)
  have c54 := MnAt.c32 (show MnAt (((w900.alloc (.cells m.cs.toArray 26)).setCell ⟨w900.heap.size, 32, none⟩ (.slice m.A N m.c)).alloc (.cells m.cs.toArray 26)) w.heap.size m from T507.out.old (.cells m.cs.toArray 26)) HM32.out
  rw [HNL.out] at c54
  have HR8 := Lib.hid (Kind.row_below F509.out.2.2 ((Below.refl ((w900.alloc (.cells m.cs.toArray 26)).setCell ⟨w900.heap.size, 32, none⟩ (.slice m.A N m.c)).heap.size ((w900.alloc (.cells m.cs.toArray 26)).setCell ⟨w900.heap.size, 32, none⟩ (.slice m.A N m.c))).alloc (Nat.le_refl _) (.cells m.cs.toArray 26)) (Nat.le_refl _))
  obtain ⟨i0, hi, hz0, hz1, hz2⟩ := info_parts infoLn
  have HI := Lib.hid hi
  have HZ0 := Lib.hid hz0
  have HZ1 := Lib.hid hz1
  have HZ2 := Lib.hid hz2
  clear hi hz0 hz1 hz2
  go_wp2_with (first | ((with_reducible refine wpList_load_at (o := ⟨some 45, .load 26 (.tmp 1), _, _, _, _⟩) ?e1 26 (.tmp 1) ?e2 ⟨w.heap.size, 0, none⟩ ?e3 _ M505.out ?_); (case e1 => rfl); (case e2 => rfl); (case e3 => rfl)) | ((with_reducible refine wpList_store_new (o := ⟨none, .store 26 (.tmp 7) (.tmp 45), _, _, _, _⟩) ?e1 26 (.tmp 7) (.tmp 45) ?e2 ?e3 mnA0.cs.toArray m.cs.toArray ?e4 SZ505.out SQ505.out SO505.out ?_); (case e1 => rfl); (case e2 => rfl); (case e3 => (first | rfl | exact congrArg (fun q => Value.pointer (some ⟨q, 0, none⟩)) (World.size_alloc _ _).symm)); (case e4 => rfl)) | ((with_reducible refine wpList_store_run (o := ⟨none, .store 24 (.tmp 51) (.tmp 50), _, _, _, _⟩) ?e1 24 (.tmp 51) (.tmp 50) ?e2 ⟨w900.heap.size, 32, none⟩ _ ?e3 ?e4 ST7.out ?_); (case e1 => rfl); (case e2 => rfl); (case e3 => (first | rfl | exact congrArg (fun q => Value.pointer (some ⟨q, 32, none⟩)) (World.size_alloc _ _).symm)); (case e4 => rfl); generalize ((w900.alloc (.cells m.cs.toArray 26)).setCell ⟨w900.heap.size, 32, none⟩ (.slice m.A N m.c)) = w901 at *) | ((with_reducible refine wpList_load_at (o := ⟨some 52, .load 26 (.tmp 1), _, _, _, _⟩) ?e1 26 (.tmp 1) ?e2 ⟨w.heap.size, 0, none⟩ ?e3 _ M513.out ?_); (case e1 => rfl); (case e2 => rfl); (case e3 => rfl)) | ((with_reducible refine wpList_store_new (o := ⟨none, .store 26 (.tmp 8) (.tmp 52), _, _, _, _⟩) ?e1 26 (.tmp 8) (.tmp 52) ?e2 ?e3 mnA0.cs.toArray m.cs.toArray ?e4 SZ513.out SQ513.out SO513.out ?_); (case e1 => rfl); (case e2 => rfl); (case e3 => (first | rfl | exact congrArg (fun q => Value.pointer (some ⟨q, 0, none⟩)) (World.size_alloc _ _).symm)); (case e4 => rfl)) | (at_builtin; refine wpList_append_K (K := KLn) _ rfl _ _ 24 rfl (w901.alloc (.cells m.cs.toArray 26)).heap.size 35 i0 _ 56 Tryz.underlying24 HI.out HZ0.out HZ1.out HZ2.out (by decide) (by decide) (.slice none 0 0) 0 [] rfl (World.ownsRow_nil _ _ _ _) m.A nl m.c m.ls rfl HR8.out HNL.out (by have := HL10.out; omega) (Nat.le_refl _) ?_; intro v8 w902 ho8 hg8; rw [Nat.zero_add, List.nil_append] at ho8; obtain ⟨g8, c8, hv8⟩ := ownsRow_succ (k := N) (by rw [← HN1.out]; exact ho8); rw [← HN1.out] at hv8; subst hv8; have O8 := Lib.hid ho8; have hb94 := ((Below.refl w901.heap.size w901).alloc (Nat.le_refl _) (.cells m.cs.toArray 26)).grown hg8 (by rw [World.size_alloc]; omega) (by intro k hk; cases hk); have D8w := Lib.hid (D8.out.below ((Below.refl (w901.alloc (.cells m.cs.toArray 26)).heap.size (w901.alloc (.cells m.cs.toArray 26))).grown hg8 (Nat.le_refl _) (by intro k hk; cases hk)) D8.out.lt); have ST8 := Lib.hid (store_mnL D8w.out HM32.out (some ⟨g8, 0, none⟩) nl c8); have N8 := Lib.hid (mn_set D8w.out HM32.out (some ⟨g8, 0, none⟩) c8 m.ls); rw [HNL.out] at N8; have hb95 := hb94.setCell (p := ⟨w901.heap.size, 32, none⟩) (Nat.le_refl _) (.slice (some ⟨g8, 0, none⟩) nl c8); clear ho8 hb94; have O85 := Lib.hid (ownsRow_setCell_other (a := ⟨w901.heap.size, 32, none⟩) O8.out (by intro h; have h1 := own_base O8.out h; rw [World.size_alloc] at h1; simp only at h1; omega) (.slice (some ⟨g8, 0, none⟩) nl c8)); have hs95 := Lib.hid hb95; have T515 := Lib.hid (T507.out.below hb95 T507.out.lt); have T516 := Lib.hid (T508.out.below hb95 T508.out.lt); have T517 := Lib.hid (N7.out.below hb95 N7.out.lt); have F518 := Lib.hid (F509.out.below hb95 (Nat.le_refl _)); have F519 := Lib.hid (F510.out.below hb95 (Nat.le_refl _)); have F520 := Lib.hid (K7.out.below hb95 (Nat.le_refl _)); have B521 := Lib.hid (B511.out.trans (hb95.mono B511.out.size)); clear hb95; have c57 := MnAt.c32 (show MnAt (w902.setCell ⟨w901.heap.size, 32, none⟩ (.slice (some ⟨g8, 0, none⟩) nl c8)) w.heap.size m from T515.out) HM32.out; rw [HNL.out] at c57; have ix61 := IX.out (w902.setCell ⟨w901.heap.size, 32, none⟩ (.slice (some ⟨g8, 0, none⟩) nl c8)); have L62 := Lib.hid (load_lnL (HFL.out (w902.setCell ⟨w901.heap.size, 32, none⟩ (.slice (some ⟨g8, 0, none⟩) nl c8)) B521.out) YL.out); have SZ9 := Lib.hid (ln_size HXO.out); have SQ9 := Lib.hid (show (KLn.cs lnA0).toArray.size = (KLn.cs x).toArray.size by rw [lnA0_size, List.size_toArray]; exact YL.out.symm); have SO9 := Lib.hid (ln_ones x); have E9 := Lib.hid (RowAt.new (w902.setCell ⟨w901.heap.size, 32, none⟩ (.slice (some ⟨g8, 0, none⟩) nl c8)) (KLn.cs x).toArray 35); have l18 := ln_c18 (Kind.at_blk (K := KLn) (x := x) E9.out) HZX.out; rw [Nat.zero_add, HNE.out] at l18; have l16 := ln_c16 (Kind.at_blk (K := KLn) (x := x) E9.out) HZX.out; rw [Nat.zero_add] at l16; have l17 := ln_c17 (Kind.at_blk (K := KLn) (x := x) E9.out) HZX.out; rw [Nat.zero_add] at l17; obtain ⟨m8, hm8⟩ : ∃ q, (⟨m.base, some ⟨g8, 0, none⟩, c8, m.ls⟩ : MnA) = q := ⟨_, rfl⟩; rw [hm8] at N8; have K8 := Lib.hid (show MnA.Ok (w902.setCell ⟨w901.heap.size, 32, none⟩ (.slice (some ⟨g8, 0, none⟩) nl c8)) m8 from by rw [← hm8]; exact ⟨HM32.out, HMB.out, Kind.row_own (K := KLn) (te := 35) (base := (w901.alloc (.cells m.cs.toArray 26)).heap.size) (by rw [HNL.out]; exact O85.out) (fun y hy => LnA.below (HROW.out.2.2.2.2 y hy) B521.out)⟩); have V8 := Lib.hid (show mmay m8.m = true from by rw [← hm8]; exact PV.out); have L8 := Lib.hid (MnA.len K8.out); have hb96 := (Below.refl (w902.setCell ⟨w901.heap.size, 32, none⟩ (.slice (some ⟨g8, 0, none⟩) nl c8)).heap.size (w902.setCell ⟨w901.heap.size, 32, none⟩ (.slice (some ⟨g8, 0, none⟩) nl c8))).alloc (Nat.le_refl _) (.cells (KLn.cs x).toArray 35); have T522 := Lib.hid (T515.out.below hb96 T515.out.lt); have T523 := Lib.hid (T516.out.below hb96 T516.out.lt); have T524 := Lib.hid (T517.out.below hb96 T517.out.lt); have T525 := Lib.hid (N8.out.below hb96 N8.out.lt); have F526 := Lib.hid (F518.out.below hb96 (Nat.le_refl _)); have F527 := Lib.hid (F519.out.below hb96 (Nat.le_refl _)); have F528 := Lib.hid (F520.out.below hb96 (Nat.le_refl _)); have F529 := Lib.hid (K8.out.below hb96 (Nat.le_refl _)); have B530 := Lib.hid (B521.out.trans (hb96.mono B521.out.size)); clear hb96; have M531 := Lib.hid (T523.out.mn L504.out)) | ((with_reducible refine wpList_store_run (o := ⟨none, .store 24 (.tmp 56) (.tmp 55), _, _, _, _⟩) ?e1 24 (.tmp 56) (.tmp 55) ?e2 ⟨w901.heap.size, 32, none⟩ _ ?e3 ?e4 ST8.out ?_); (case e1 => rfl); (case e2 => rfl); (case e3 => (first | rfl | exact congrArg (fun q => Value.pointer (some ⟨q, 32, none⟩)) (World.size_alloc _ _).symm)); (case e4 => rfl); generalize (w902.setCell ⟨w901.heap.size, 32, none⟩ (.slice (some ⟨g8, 0, none⟩) nl c8)) = w903 at *) | ((with_reducible refine wpList_load_at (o := ⟨some 62, .load 35 (.tmp 61), _, _, _, _⟩) ?e1 35 (.tmp 61) ?e2 ⟨b9, off9 + N * 19, none⟩ ?e3 _ L62.out ?_); (case e1 => rfl); (case e2 => rfl); (case e3 => rfl)) | ((with_reducible refine wpList_store_new (o := ⟨none, .store 35 (.tmp 9) (.tmp 62), _, _, _, _⟩) ?e1 35 (.tmp 9) (.tmp 62) ?e2 ?e3 (KLn.cs lnA0).toArray (KLn.cs x).toArray ?e4 SZ9.out SQ9.out SO9.out ?_); (case e1 => rfl); (case e2 => rfl); (case e3 => (first | rfl | exact congrArg (fun q => Value.pointer (some ⟨q, 0, none⟩)) (World.size_alloc _ _).symm)); (case e4 => rfl)) | ((with_reducible refine wpList_neqM (o := ⟨some 76, .binOp .neq 32 (.tmp 74) (.tmp 75) 32, _, _, _, _⟩) ?e1 32 (.tmp 74) (.tmp 75) 32 ?e2 ?e3 ?e4 guardStM (HEQ.out _) ?_); (case e1 => rfl); (case e2 => rfl); (case e3 => rfl); (case e4 => rfl)) | ((with_reducible refine wpList_load_at (o := ⟨some 93, .load 26 (.tmp 6), _, _, _, _⟩) ?e1 26 (.tmp 6) ?e2 ⟨b6, 0, none⟩ ?e3 _ M531.out ?_); (case e1 => rfl); (case e2 => rfl); (case e3 => rfl)) | fail)
  clear c57 ix61 l16 l17 l18 c54 C32 SLU hsub
  have C532 := Lib.hid ((show Calls Tryz.prog 6 #[.agg m6.cs.toArray] (w903.alloc (.cells (KLn.cs x).toArray 35)) fun e w' => e = .returned (.bool (mmay m6.m)) ∧ Below ((w903.alloc (.cells (KLn.cs x).toArray 35))).heap.size (w903.alloc (.cells (KLn.cs x).toArray 35)) w' from pmay12_any m6 (w903.alloc (.cells (KLn.cs x).toArray 35)) F527.out))
  rw [V6.out] at C532
  refine C532.out.mono ?_
  rintro e w533 ⟨rfl, hb534⟩
  have T535 := Lib.hid (T522.out.below hb534 T522.out.lt)
  have T536 := Lib.hid (T523.out.below hb534 T523.out.lt)
  have T537 := Lib.hid (T524.out.below hb534 T524.out.lt)
  have T538 := Lib.hid (T525.out.below hb534 T525.out.lt)
  have F539 := Lib.hid (F526.out.below hb534 (Nat.le_refl _))
  have F540 := Lib.hid (F527.out.below hb534 (Nat.le_refl _))
  have F541 := Lib.hid (F528.out.below hb534 (Nat.le_refl _))
  have F542 := Lib.hid (F529.out.below hb534 (Nat.le_refl _))
  have B543 := Lib.hid (B530.out.trans (hb534.mono B530.out.size))
  clear hb534
  have M544 := Lib.hid (T537.out.mn L512.out)
  have C545 := Lib.hid ((show Calls Tryz.prog 6 #[.agg m7.cs.toArray] w533 fun e w' => e = .returned (.bool (mmay m7.m)) ∧ Below (w533).heap.size w533 w' from pmay12_any m7 w533 F541.out))
  rw [V7.out] at C545
  go_wp2_with (first | ((with_reducible refine wpList_load_at (o := ⟨some 97, .load 26 (.tmp 7), _, _, _, _⟩) ?e1 26 (.tmp 7) ?e2 ⟨w900.heap.size, 0, none⟩ ?e3 _ M544.out ?_); (case e1 => rfl); (case e2 => rfl); (case e3 => rfl)))
  refine C545.out.mono ?_
  rintro e w546 ⟨rfl, hb547⟩
  have T548 := Lib.hid (T535.out.below hb547 T535.out.lt)
  have T549 := Lib.hid (T536.out.below hb547 T536.out.lt)
  have T550 := Lib.hid (T537.out.below hb547 T537.out.lt)
  have T551 := Lib.hid (T538.out.below hb547 T538.out.lt)
  have F552 := Lib.hid (F539.out.below hb547 (Nat.le_refl _))
  have F553 := Lib.hid (F540.out.below hb547 (Nat.le_refl _))
  have F554 := Lib.hid (F541.out.below hb547 (Nat.le_refl _))
  have F555 := Lib.hid (F542.out.below hb547 (Nat.le_refl _))
  have B556 := Lib.hid (B543.out.trans (hb547.mono B543.out.size))
  clear hb547
  have M557 := Lib.hid (T551.out.mn L8.out)
  have C558 := Lib.hid ((show Calls Tryz.prog 6 #[.agg m8.cs.toArray] w546 fun e w' => e = .returned (.bool (mmay m8.m)) ∧ Below (w546).heap.size w546 w' from pmay12_any m8 w546 F555.out))
  rw [V8.out] at C558
  go_wp2_with (first | ((with_reducible refine wpList_load_at (o := ⟨some 101, .load 26 (.tmp 8), _, _, _, _⟩) ?e1 26 (.tmp 8) ?e2 ⟨w901.heap.size, 0, none⟩ ?e3 _ M557.out ?_); (case e1 => rfl); (case e2 => rfl); (case e3 => rfl)))
  refine C558.out.mono ?_
  rintro e w559 ⟨rfl, hb560⟩
  have T561 := Lib.hid (T548.out.below hb560 T548.out.lt)
  have T562 := Lib.hid (T549.out.below hb560 T549.out.lt)
  have T563 := Lib.hid (T550.out.below hb560 T550.out.lt)
  have T564 := Lib.hid (T551.out.below hb560 T551.out.lt)
  have F565 := Lib.hid (F552.out.below hb560 (Nat.le_refl _))
  have F566 := Lib.hid (F553.out.below hb560 (Nat.le_refl _))
  have F567 := Lib.hid (F554.out.below hb560 (Nat.le_refl _))
  have F568 := Lib.hid (F555.out.below hb560 (Nat.le_refl _))
  have B569 := Lib.hid (B556.out.trans (hb560.mono B556.out.size))
  clear hb560
  have c106 := MnAt.c32 (show MnAt w559 w.heap.size m from T561.out) HM32.out
  rw [HNL.out] at c106
  have t10 : (nl : Int) ≤ 10 := by have := HL10.out; omega
  go_wp2
  go_ret
  exact ⟨rfl, B569.out⟩
 ·refine step_bsliceK (K := KLn) rfl (.tmp 41) rfl x rfl YL.out Tryz.underlying24 sizeLn zeroLn nLn ?_
  have G1 := Lib.hid (G0.out.alloc G0.out.size (.cells (KLn.cs x).toArray 35))
  have R1 := Lib.hid (row_one (K := KLn) (x := x) (X := X0) (te := 35) YL.out (XOK.out _ (G1.out.mono HB6.out)))
  refine hK.out _ _ (G1.out.mono HB6.out) (fun hS => ?_)
  clear hK K
  try simp only [Act.put, Z2, Z3, Z4]
  refine wpAnyH_ready (rs := [2]) (by kernel_rfl) (by simp) (AllReadyH.cons (o := ⟨some 35, _, _, _, _, _⟩) rfl (fun K hK => ?_) AllReadyH.nil)
  obtain ⟨i0, hi, hz0, hz1, hz2⟩ := info_parts infoLn
  refine step_append_rowK (K := KLn) (o := ⟨some 35, _, _, _, _, _⟩) rfl _ _ 24 rfl w1.heap.size 35 i0 _ 56 Tryz.underlying24 hi hz0 hz1 hz2 (by decide) (by decide) (.slice none 0 0) 0 [] rfl (World.ownsRow_nil _ _ _ _) m.A nl m.c m.ls rfl (HRW.out _ (G1.out.mono HB6.out)) HNL.out HPOS.out (by have := HL10.out; omega) G1.out.size ?_
  intro v2 X2 ho2 hg2
  rw [Nat.zero_add, List.nil_append] at ho2
  have O2 := Lib.hid ho2
  have G2 := Lib.hid (G1.out.grown hg2 G1.out.size (by intro k hk; cases hk))
  have R2 := Lib.hid (Kind.row_below R1.out ((Below.refl _ _).grown hg2 (Nat.le_refl _) (by intro k hk; cases hk)) (Nat.le_refl _))
  refine hK.out _ _ (G2.out.mono HB6.out) (fun hS => ?_)
  clear hK K
  try simp only [Act.put, Z2, Z3, Z4]
  refine wpAnyH_ready (rs := [10]) (by kernel_rfl) (by simp) (AllReadyH.cons (o := ⟨some 43, _, _, _, _, _⟩) rfl (fun K hK => ?_) AllReadyH.nil)
  obtain ⟨i0, hi, hz0, hz1, hz2⟩ := info_parts infoLn
  refine step_append_rowK (K := KLn) (o := ⟨some 43, _, _, _, _, _⟩) rfl _ _ 24 rfl w1.heap.size 35 i0 _ 56 Tryz.underlying24 hi hz0 hz1 hz2 (by decide) (by decide) v2 nl m.ls rfl O2.out (some ⟨X0.heap.size, 0, none⟩) 1 1 [x] rfl R2.out rfl (by decide) (by have := HL10.out; omega) G2.out.size ?_
  intro v3 X3 ho3 hg3
  have G3 := Lib.hid (G2.out.grown hg3 G2.out.size (fun k hk => own_base O2.out hk))
  obtain ⟨g6, c6, rfl⟩ := ownsRow_succ ho3
  have O3 := Lib.hid ho3
  clear ho3 hg3
  refine hK.out _ _ (G3.out.mono HB6.out) (fun hS => ?_)
  clear hK K
  try simp only [Act.put, Z2, Z3, Z4]
  refine wpHv (i := 11) (oi := ⟨some 44, _, _, _, _, _⟩) (v := ?_) rfl ?_ hS ?_; rotate_left; (focus (intro w9 hSw; go_simp; try with_reducible rfl)); simp only [Act.put, Z2, Z3, Z4]
  refine wpAnyH_ready (rs := [12]) (by kernel_rfl) (by simp) (AllReadyH.cons (o := ⟨none, _, _, _, _, _⟩) rfl (fun K hK => ?_) AllReadyH.nil)
  have g0 := MnAt.c32 (show MnAt X3 b6 m from T6'.out.below G3.out T6'.out.lt) HM32.out
  have gf : X3.frozen? ⟨b6, 32, none⟩ = false := frozen_of_row _ _ _ _ _ (T6'.out.below G3.out T6'.out.lt)
  have SX := Lib.hid (Below.setCell (p := ⟨b6, 32, none⟩) (G3.out.mono HB6.out) (Nat.le_refl _) (.slice (some ⟨g6, 0, none⟩) (nl + 1) c6))
  go_simp
  refine hK.out _ _ SX.out (fun hS => ?_)
  clear hK K g0 gf
  refine wpAnyH_done (by kernel_rfl) ?_ _
  have E1 := Lib.hid (show (m.ls ++ [x]).length = nl + 1 by rw [List.length_append, HNL.out]; rfl)
  have M6 := Lib.hid (mn_set (T6'.out.below G3.out T6'.out.lt) HM32.out (some ⟨g6, 0, none⟩) c6 (m.ls ++ [x]))
  rw [E1.out] at M6
  have K6 := Lib.hid (show MnA.Ok (X3.setCell ⟨b6, 32, none⟩ (.slice (some ⟨g6, 0, none⟩) (nl + 1) c6)) ⟨m.base, some ⟨g6, 0, none⟩, c6, m.ls ++ [x]⟩ from ⟨HM32.out, HMB.out, Kind.row_own (K := KLn) (te := 35) (base := w1.heap.size) (by rw [E1.out]; exact ownsRow_setCell_other O3.out (by intro h; have h1 := own_base O3.out h; have h2 := T6'.out.lt; simp only at h1; omega) _) (fun y hy => by
   rcases List.mem_append.1 hy with h | h
   ·exact LnA.below (HROW.out.2.2.2.2 y h) (BW.out _ SX.out)
   ·rw [List.mem_singleton.1 h]; exact XOK.out _ SX.out)⟩)
  generalize X3.setCell ⟨b6, 32, none⟩ (.slice (some ⟨g6, 0, none⟩) (nl + 1) c6) = w900 at *
  obtain ⟨m6, hm6⟩ : ∃ q, (⟨m.base, some ⟨g6, 0, none⟩, c6, m.ls ++ [x]⟩ : MnA) = q := ⟨_, rfl⟩
  rw [hm6] at M6 K6
  have V6 := Lib.hid (show mmay m6.m = false from by rw [← hm6]; exact HTW.out _ _)
  clear hm6
  have B501 := Lib.hid (BW.out _ SX.out)
  have T502 := Lib.hid (T1'.out.below SX.out hb1.out)
  have F503 := Lib.hid ((show MnA.Ok w m from HWM.out).below (BW.out _ SX.out) (Nat.le_refl _))
  have L504 := Lib.hid (MnA.len K6.out)
  clear SX
  have M505 := Lib.hid (T502.out.mn LM.out)
  have SZ505 := Lib.hid (mn_size F503.out)
  have SQ505 := Lib.hid (show mnA0.cs.toArray.size = m.cs.toArray.size by rw [mnA0_size, List.size_toArray]; exact (MnA.len F503.out).symm)
  have SO505 := Lib.hid (mn_ones m)
  have D7 := Lib.hid (RowAt.new w900 m.cs.toArray 26)
  have C32 := MnAt.c32 (show MnAt (w900.alloc (.cells m.cs.toArray 26)) w.heap.size m from T502.out.old (.cells m.cs.toArray 26)) HM32.out
  rw [HNL.out] at C32
  have SLU := HSLU.out (w900.alloc (.cells m.cs.toArray 26))
  have hsub := HSUB.out
  have ET := Lib.hid (show (m.ls.take N).length = N by rw [List.length_take, HNL.out]; have := HN1.out; omega)
  have N7 := Lib.hid (mn_set D7.out HM32.out m.A m.c (m.ls.take N))
  rw [ET.out] at N7
  have hb501 := ((Below.refl w900.heap.size w900).alloc (Nat.le_refl _) (.cells m.cs.toArray 26)).setCell (p := ⟨w900.heap.size, 32, none⟩) (Nat.le_refl _) (.slice m.A N m.c)
  have ST7 := Lib.hid (store_mnL D7.out HM32.out m.A N m.c)
  have T507 := Lib.hid (T502.out.below hb501 T502.out.lt)
  have T508 := Lib.hid (M6.out.below hb501 M6.out.lt)
  have F509 := Lib.hid (F503.out.below hb501 (Nat.le_refl _))
  have F510 := Lib.hid (K6.out.below hb501 (Nat.le_refl _))
  have B511 := Lib.hid (B501.out.trans (hb501.mono B501.out.size))
  clear hb501
  obtain ⟨m7, hm7⟩ : ∃ q, (⟨m.base, m.A, m.c, m.ls.take N⟩ : MnA) = q := ⟨_, rfl⟩
  rw [hm7] at N7
  have K7 := Lib.hid (show MnA.Ok ((w900.alloc (.cells m.cs.toArray 26)).setCell ⟨w900.heap.size, 32, none⟩ (.slice m.A N m.c)) m7 from by rw [← hm7]; exact ⟨HM32.out, HMB.out, Kind.row_take F509.out.2.2 N⟩)
  have V7 := Lib.hid (show mmay m7.m = true from by rw [← hm7]; exact HLS7.out _ _)
  clear hm7
  have L512 := Lib.hid (MnA.len K7.out)
  have M513 := Lib.hid (T507.out.mn LM.out)
  have SZ513 := Lib.hid (mn_size F509.out)
  have SQ513 := Lib.hid (show mnA0.cs.toArray.size = m.cs.toArray.size by rw [mnA0_size, List.size_toArray]; exact (MnA.len F509.out).symm)
  have SO513 := Lib.hid (mn_ones m)
  have D8 := Lib.hid (RowAt.new ((w900.alloc (.cells m.cs.toArray 26)).setCell ⟨w900.heap.size, 32, none⟩ (.slice m.A N m.c)) m.cs.toArray 26)
  have c54 := MnAt.c32 (show MnAt (((w900.alloc (.cells m.cs.toArray 26)).setCell ⟨w900.heap.size, 32, none⟩ (.slice m.A N m.c)).alloc (.cells m.cs.toArray 26)) w.heap.size m from T507.out.old (.cells m.cs.toArray 26)) HM32.out
  rw [HNL.out] at c54
  have HR8 := Lib.hid (Kind.row_below F509.out.2.2 ((Below.refl ((w900.alloc (.cells m.cs.toArray 26)).setCell ⟨w900.heap.size, 32, none⟩ (.slice m.A N m.c)).heap.size ((w900.alloc (.cells m.cs.toArray 26)).setCell ⟨w900.heap.size, 32, none⟩ (.slice m.A N m.c))).alloc (Nat.le_refl _) (.cells m.cs.toArray 26)) (Nat.le_refl _))
  obtain ⟨i0, hi, hz0, hz1, hz2⟩ := info_parts infoLn
  have HI := Lib.hid hi
  have HZ0 := Lib.hid hz0
  have HZ1 := Lib.hid hz1
  have HZ2 := Lib.hid hz2
  clear hi hz0 hz1 hz2
  go_wp2_with (first | ((with_reducible refine wpList_load_at (o := ⟨some 45, .load 26 (.tmp 1), _, _, _, _⟩) ?e1 26 (.tmp 1) ?e2 ⟨w.heap.size, 0, none⟩ ?e3 _ M505.out ?_); (case e1 => rfl); (case e2 => rfl); (case e3 => rfl)) | ((with_reducible refine wpList_store_new (o := ⟨none, .store 26 (.tmp 7) (.tmp 45), _, _, _, _⟩) ?e1 26 (.tmp 7) (.tmp 45) ?e2 ?e3 mnA0.cs.toArray m.cs.toArray ?e4 SZ505.out SQ505.out SO505.out ?_); (case e1 => rfl); (case e2 => rfl); (case e3 => (first | rfl | exact congrArg (fun q => Value.pointer (some ⟨q, 0, none⟩)) (World.size_alloc _ _).symm)); (case e4 => rfl)) | ((with_reducible refine wpList_store_run (o := ⟨none, .store 24 (.tmp 51) (.tmp 50), _, _, _, _⟩) ?e1 24 (.tmp 51) (.tmp 50) ?e2 ⟨w900.heap.size, 32, none⟩ _ ?e3 ?e4 ST7.out ?_); (case e1 => rfl); (case e2 => rfl); (case e3 => (first | rfl | exact congrArg (fun q => Value.pointer (some ⟨q, 32, none⟩)) (World.size_alloc _ _).symm)); (case e4 => rfl); generalize ((w900.alloc (.cells m.cs.toArray 26)).setCell ⟨w900.heap.size, 32, none⟩ (.slice m.A N m.c)) = w901 at *) | ((with_reducible refine wpList_load_at (o := ⟨some 52, .load 26 (.tmp 1), _, _, _, _⟩) ?e1 26 (.tmp 1) ?e2 ⟨w.heap.size, 0, none⟩ ?e3 _ M513.out ?_); (case e1 => rfl); (case e2 => rfl); (case e3 => rfl)) | ((with_reducible refine wpList_store_new (o := ⟨none, .store 26 (.tmp 8) (.tmp 52), _, _, _, _⟩) ?e1 26 (.tmp 8) (.tmp 52) ?e2 ?e3 mnA0.cs.toArray m.cs.toArray ?e4 SZ513.out SQ513.out SO513.out ?_); (case e1 => rfl); (case e2 => rfl); (case e3 => (first | rfl | exact congrArg (fun q => Value.pointer (some ⟨q, 0, none⟩)) (World.size_alloc _ _).symm)); (case e4 => rfl)) | (at_builtin; refine wpList_append_K (K := KLn) _ rfl _ _ 24 rfl (w901.alloc (.cells m.cs.toArray 26)).heap.size 35 i0 _ 56 Tryz.underlying24 HI.out HZ0.out HZ1.out HZ2.out (by decide) (by decide) (.slice none 0 0) 0 [] rfl (World.ownsRow_nil _ _ _ _) m.A nl m.c m.ls rfl HR8.out HNL.out (by have := HL10.out; omega) (Nat.le_refl _) ?_; intro v8 w902 ho8 hg8; rw [Nat.zero_add, List.nil_append] at ho8; obtain ⟨g8, c8, hv8⟩ := ownsRow_succ (k := N) (by rw [← HN1.out]; exact ho8); rw [← HN1.out] at hv8; subst hv8; have O8 := Lib.hid ho8; have hb94 := ((Below.refl w901.heap.size w901).alloc (Nat.le_refl _) (.cells m.cs.toArray 26)).grown hg8 (by rw [World.size_alloc]; omega) (by intro k hk; cases hk); have D8w := Lib.hid (D8.out.below ((Below.refl (w901.alloc (.cells m.cs.toArray 26)).heap.size (w901.alloc (.cells m.cs.toArray 26))).grown hg8 (Nat.le_refl _) (by intro k hk; cases hk)) D8.out.lt); have ST8 := Lib.hid (store_mnL D8w.out HM32.out (some ⟨g8, 0, none⟩) nl c8); have N8 := Lib.hid (mn_set D8w.out HM32.out (some ⟨g8, 0, none⟩) c8 m.ls); rw [HNL.out] at N8; have hb95 := hb94.setCell (p := ⟨w901.heap.size, 32, none⟩) (Nat.le_refl _) (.slice (some ⟨g8, 0, none⟩) nl c8); clear ho8 hb94; have O85 := Lib.hid (ownsRow_setCell_other (a := ⟨w901.heap.size, 32, none⟩) O8.out (by intro h; have h1 := own_base O8.out h; rw [World.size_alloc] at h1; simp only at h1; omega) (.slice (some ⟨g8, 0, none⟩) nl c8)); have hs95 := Lib.hid hb95; have T515 := Lib.hid (T507.out.below hb95 T507.out.lt); have T516 := Lib.hid (T508.out.below hb95 T508.out.lt); have T517 := Lib.hid (N7.out.below hb95 N7.out.lt); have F518 := Lib.hid (F509.out.below hb95 (Nat.le_refl _)); have F519 := Lib.hid (F510.out.below hb95 (Nat.le_refl _)); have F520 := Lib.hid (K7.out.below hb95 (Nat.le_refl _)); have B521 := Lib.hid (B511.out.trans (hb95.mono B511.out.size)); clear hb95; have c57 := MnAt.c32 (show MnAt (w902.setCell ⟨w901.heap.size, 32, none⟩ (.slice (some ⟨g8, 0, none⟩) nl c8)) w.heap.size m from T515.out) HM32.out; rw [HNL.out] at c57; have ix61 := IX.out (w902.setCell ⟨w901.heap.size, 32, none⟩ (.slice (some ⟨g8, 0, none⟩) nl c8)); have L62 := Lib.hid (load_lnL (HFL.out (w902.setCell ⟨w901.heap.size, 32, none⟩ (.slice (some ⟨g8, 0, none⟩) nl c8)) B521.out) YL.out); have SZ9 := Lib.hid (ln_size HXO.out); have SQ9 := Lib.hid (show (KLn.cs lnA0).toArray.size = (KLn.cs x).toArray.size by rw [lnA0_size, List.size_toArray]; exact YL.out.symm); have SO9 := Lib.hid (ln_ones x); have E9 := Lib.hid (RowAt.new (w902.setCell ⟨w901.heap.size, 32, none⟩ (.slice (some ⟨g8, 0, none⟩) nl c8)) (KLn.cs x).toArray 35); have l18 := ln_c18 (Kind.at_blk (K := KLn) (x := x) E9.out) HZX.out; rw [Nat.zero_add, HNE.out] at l18; have l16 := ln_c16 (Kind.at_blk (K := KLn) (x := x) E9.out) HZX.out; rw [Nat.zero_add] at l16; have l17 := ln_c17 (Kind.at_blk (K := KLn) (x := x) E9.out) HZX.out; rw [Nat.zero_add] at l17; obtain ⟨m8, hm8⟩ : ∃ q, (⟨m.base, some ⟨g8, 0, none⟩, c8, m.ls⟩ : MnA) = q := ⟨_, rfl⟩; rw [hm8] at N8; have K8 := Lib.hid (show MnA.Ok (w902.setCell ⟨w901.heap.size, 32, none⟩ (.slice (some ⟨g8, 0, none⟩) nl c8)) m8 from by rw [← hm8]; exact ⟨HM32.out, HMB.out, Kind.row_own (K := KLn) (te := 35) (base := (w901.alloc (.cells m.cs.toArray 26)).heap.size) (by rw [HNL.out]; exact O85.out) (fun y hy => LnA.below (HROW.out.2.2.2.2 y hy) B521.out)⟩); have V8 := Lib.hid (show mmay m8.m = true from by rw [← hm8]; exact PV.out); have L8 := Lib.hid (MnA.len K8.out); have hb96 := (Below.refl (w902.setCell ⟨w901.heap.size, 32, none⟩ (.slice (some ⟨g8, 0, none⟩) nl c8)).heap.size (w902.setCell ⟨w901.heap.size, 32, none⟩ (.slice (some ⟨g8, 0, none⟩) nl c8))).alloc (Nat.le_refl _) (.cells (KLn.cs x).toArray 35); have T522 := Lib.hid (T515.out.below hb96 T515.out.lt); have T523 := Lib.hid (T516.out.below hb96 T516.out.lt); have T524 := Lib.hid (T517.out.below hb96 T517.out.lt); have T525 := Lib.hid (N8.out.below hb96 N8.out.lt); have F526 := Lib.hid (F518.out.below hb96 (Nat.le_refl _)); have F527 := Lib.hid (F519.out.below hb96 (Nat.le_refl _)); have F528 := Lib.hid (F520.out.below hb96 (Nat.le_refl _)); have F529 := Lib.hid (K8.out.below hb96 (Nat.le_refl _)); have B530 := Lib.hid (B521.out.trans (hb96.mono B521.out.size)); clear hb96; have M531 := Lib.hid (T523.out.mn L504.out)) | ((with_reducible refine wpList_store_run (o := ⟨none, .store 24 (.tmp 56) (.tmp 55), _, _, _, _⟩) ?e1 24 (.tmp 56) (.tmp 55) ?e2 ⟨w901.heap.size, 32, none⟩ _ ?e3 ?e4 ST8.out ?_); (case e1 => rfl); (case e2 => rfl); (case e3 => (first | rfl | exact congrArg (fun q => Value.pointer (some ⟨q, 32, none⟩)) (World.size_alloc _ _).symm)); (case e4 => rfl); generalize (w902.setCell ⟨w901.heap.size, 32, none⟩ (.slice (some ⟨g8, 0, none⟩) nl c8)) = w903 at *) | ((with_reducible refine wpList_load_at (o := ⟨some 62, .load 35 (.tmp 61), _, _, _, _⟩) ?e1 35 (.tmp 61) ?e2 ⟨b9, off9 + N * 19, none⟩ ?e3 _ L62.out ?_); (case e1 => rfl); (case e2 => rfl); (case e3 => rfl)) | ((with_reducible refine wpList_store_new (o := ⟨none, .store 35 (.tmp 9) (.tmp 62), _, _, _, _⟩) ?e1 35 (.tmp 9) (.tmp 62) ?e2 ?e3 (KLn.cs lnA0).toArray (KLn.cs x).toArray ?e4 SZ9.out SQ9.out SO9.out ?_); (case e1 => rfl); (case e2 => rfl); (case e3 => (first | rfl | exact congrArg (fun q => Value.pointer (some ⟨q, 0, none⟩)) (World.size_alloc _ _).symm)); (case e4 => rfl)) | ((with_reducible refine wpList_neqM (o := ⟨some 76, .binOp .neq 32 (.tmp 74) (.tmp 75) 32, _, _, _, _⟩) ?e1 32 (.tmp 74) (.tmp 75) 32 ?e2 ?e3 ?e4 guardStM (HEQ.out _) ?_); (case e1 => rfl); (case e2 => rfl); (case e3 => rfl); (case e4 => rfl)) | ((with_reducible refine wpList_load_at (o := ⟨some 93, .load 26 (.tmp 6), _, _, _, _⟩) ?e1 26 (.tmp 6) ?e2 ⟨b6, 0, none⟩ ?e3 _ M531.out ?_); (case e1 => rfl); (case e2 => rfl); (case e3 => rfl)) | fail)
  clear c57 ix61 l16 l17 l18 c54 C32 SLU hsub
  have C532 := Lib.hid ((show Calls Tryz.prog 6 #[.agg m6.cs.toArray] (w903.alloc (.cells (KLn.cs x).toArray 35)) fun e w' => e = .returned (.bool (mmay m6.m)) ∧ Below ((w903.alloc (.cells (KLn.cs x).toArray 35))).heap.size (w903.alloc (.cells (KLn.cs x).toArray 35)) w' from pmay12_any m6 (w903.alloc (.cells (KLn.cs x).toArray 35)) F527.out))
  rw [V6.out] at C532
  refine C532.out.mono ?_
  rintro e w533 ⟨rfl, hb534⟩
  have T535 := Lib.hid (T522.out.below hb534 T522.out.lt)
  have T536 := Lib.hid (T523.out.below hb534 T523.out.lt)
  have T537 := Lib.hid (T524.out.below hb534 T524.out.lt)
  have T538 := Lib.hid (T525.out.below hb534 T525.out.lt)
  have F539 := Lib.hid (F526.out.below hb534 (Nat.le_refl _))
  have F540 := Lib.hid (F527.out.below hb534 (Nat.le_refl _))
  have F541 := Lib.hid (F528.out.below hb534 (Nat.le_refl _))
  have F542 := Lib.hid (F529.out.below hb534 (Nat.le_refl _))
  have B543 := Lib.hid (B530.out.trans (hb534.mono B530.out.size))
  clear hb534
  have M544 := Lib.hid (T537.out.mn L512.out)
  have C545 := Lib.hid ((show Calls Tryz.prog 6 #[.agg m7.cs.toArray] w533 fun e w' => e = .returned (.bool (mmay m7.m)) ∧ Below (w533).heap.size w533 w' from pmay12_any m7 w533 F541.out))
  rw [V7.out] at C545
  go_wp2_with (first | ((with_reducible refine wpList_load_at (o := ⟨some 97, .load 26 (.tmp 7), _, _, _, _⟩) ?e1 26 (.tmp 7) ?e2 ⟨w900.heap.size, 0, none⟩ ?e3 _ M544.out ?_); (case e1 => rfl); (case e2 => rfl); (case e3 => rfl)))
  refine C545.out.mono ?_
  rintro e w546 ⟨rfl, hb547⟩
  have T548 := Lib.hid (T535.out.below hb547 T535.out.lt)
  have T549 := Lib.hid (T536.out.below hb547 T536.out.lt)
  have T550 := Lib.hid (T537.out.below hb547 T537.out.lt)
  have T551 := Lib.hid (T538.out.below hb547 T538.out.lt)
  have F552 := Lib.hid (F539.out.below hb547 (Nat.le_refl _))
  have F553 := Lib.hid (F540.out.below hb547 (Nat.le_refl _))
  have F554 := Lib.hid (F541.out.below hb547 (Nat.le_refl _))
  have F555 := Lib.hid (F542.out.below hb547 (Nat.le_refl _))
  have B556 := Lib.hid (B543.out.trans (hb547.mono B543.out.size))
  clear hb547
  have M557 := Lib.hid (T551.out.mn L8.out)
  have C558 := Lib.hid ((show Calls Tryz.prog 6 #[.agg m8.cs.toArray] w546 fun e w' => e = .returned (.bool (mmay m8.m)) ∧ Below (w546).heap.size w546 w' from pmay12_any m8 w546 F555.out))
  rw [V8.out] at C558
  go_wp2_with (first | ((with_reducible refine wpList_load_at (o := ⟨some 101, .load 26 (.tmp 8), _, _, _, _⟩) ?e1 26 (.tmp 8) ?e2 ⟨w901.heap.size, 0, none⟩ ?e3 _ M557.out ?_); (case e1 => rfl); (case e2 => rfl); (case e3 => rfl)))
  refine C558.out.mono ?_
  rintro e w559 ⟨rfl, hb560⟩
  have T561 := Lib.hid (T548.out.below hb560 T548.out.lt)
  have T562 := Lib.hid (T549.out.below hb560 T549.out.lt)
  have T563 := Lib.hid (T550.out.below hb560 T550.out.lt)
  have T564 := Lib.hid (T551.out.below hb560 T551.out.lt)
  have F565 := Lib.hid (F552.out.below hb560 (Nat.le_refl _))
  have F566 := Lib.hid (F553.out.below hb560 (Nat.le_refl _))
  have F567 := Lib.hid (F554.out.below hb560 (Nat.le_refl _))
  have F568 := Lib.hid (F555.out.below hb560 (Nat.le_refl _))
  have B569 := Lib.hid (B556.out.trans (hb560.mono B556.out.size))
  clear hb560
  have c106 := MnAt.c32 (show MnAt w559 w.heap.size m from T561.out) HM32.out
  rw [HNL.out] at c106
  have t10 : (nl : Int) ≤ 10 := by have := HL10.out; omega
  go_wp2
  go_ret
  exact ⟨rfl, B569.out⟩
set_option maxHeartbeats 16000000 in
theorem mfw_someB (m : MnA) (w : World) (hlaid : Laid w) (wm : m.Ok w) (N : Nat) (p : mfew m.m = true) (q : mmay m.m = true) (r : m.ls.length = N + 1) (en : (m.ls.getD N lnA0).es.length = 1) (dd : ¬ ((m.ls.getD N lnA0).n = 0 ∧ (m.ls.getD N lnA0).r = 0)) :
  Calls Tryz.prog 3 #[.agg m.cs.toArray] w fun e w' => e = .returned (.bool true) ∧ Below w.heap.size w w' := by
 have HLA := Lib.hid (fun (X : World) (hX : Below w.heap.size w X) => hlaid.below hX (Nat.le_refl _))
 have Fm := Lib.hid wm
 have LM := Lib.hid (MnA.len wm)
 have HM32 := Lib.hid wm.1
 obtain ⟨nl, hnl⟩ : ∃ n, m.ls.length = n := ⟨_, rfl⟩
 have HNL := Lib.hid hnl
 have hnb : nl ≤ 9223372036854775807 := by
  have a1 := wm.2.2.1
  have a2 := wm.2.2.2.1
  simp only [maxLen] at a2
  omega
 have HNE := Lib.hid en
 have HSUB2 := Lib.hid (show IntKind.i64.wrap 0 = 0 by rw [IntKind.wrap_i64]; rfl)
 have HSLE := Lib.hid (fun X : World => slice_upto (P := Tryz.prog) (ts := 33) Tryz.underlying33 (fun w => sizeEn w) (m.ls.getD N lnA0).A 1 (m.ls.getD N lnA0).c 0 (by have h8 := (show LnA.Ok w (m.ls.getD N lnA0) from Kind.row_ok wm.2.2 (show N < m.ls.length by omega)).2.2.2.2.1; omega) (0 : Int) rfl X)
 have HEN8 := Lib.hid (fun (A B : Option Addr) (c d : Nat) => mmay_entryA r q (k := 0) en (.inr dd) A B c d)
 have HTK := Lib.hid (show ((m.ls.getD N lnA0).es.take 0).length = 0 by rw [List.length_take, en]; omega)
 have HSN := Lib.hid (snoc_getD (d := lnA0) r)
 have hbs : ∀ w : World, (Instr.build 32 #[]).run Tryz.prog w = .ok (.agg #[.int .i64 0, .int .i64 0]) w := fun w => run_build w _ _ _ (by kernel_rfl)
 have HEQ := Lib.hid (fun X => eq_st (n := (m.ls.getD N lnA0).n) (r := (m.ls.getD N lnA0).r) (m := 0) (s := 0) X)
 rw [decide_eq_false dd] at HEQ
 clear dd
 have PM := Lib.hid p
 have PV := Lib.hid q
 have h1 : nl = N + 1 := hnl.symm.trans r
 have t1 : ¬ (nl : Int) = 0 := by omega
 have HPOS := Lib.hid (show 0 < nl by omega)
 have HSUB := Lib.hid (show IntKind.i64.wrap ((nl : Int) - 1) = N by rw [IntKind.wrap_i64]; omega)
 have HLT := Lib.hid (show N < m.ls.length by omega)
 have HN1 := Lib.hid h1
 have HR := Lib.hid (fun h0 => ln_row wm.2.2 h0)
 have HROW := Lib.hid wm.2.2
 have HMB := Lib.hid wm.2.1
 have HL10 := Lib.hid (show nl ≤ 10 by have h8 := mmay_size q; rw [show m.m.ls = m.ls.map (·.x) from rfl, List.length_map] at h8; omega)
 have HWM := Lib.hid wm
 have HTW := Lib.hid (fun (A : Option Addr) (c : Nat) => mmay_twiceA r A c)
 have HLS7 := Lib.hid (fun (A : Option Addr) (c : Nat) => mmay_lessA r q A c)
 have HSLU := Lib.hid (fun X : World => slice_upto (P := Tryz.prog) (ts := 24) Tryz.underlying24 (fun w => sizeLn w) m.A nl m.c N (by have h8 := wm.2.2.1; omega) (N : Int) rfl X)
 have HXO := Lib.hid (show LnA.Ok w (m.ls.getD N lnA0) from Kind.row_ok wm.2.2 HLT.out)
 have hzm := zeroMn
 rw [show mnA0.v = .agg mnA0.cs.toArray from rfl] at hzm
 have hzl := zeroLn
 rw [show KLn.v lnA0 = .agg (KLn.cs lnA0).toArray from rfl] at hzl
 have hzne : ¬ mnA0.cs.toArray = #[] := by decide
 have hzne3 : ¬ (KLn.cs lnA0).toArray = #[] := by decide
 clear hlaid wm p q r hnl h1 en
 have B1 := Lib.hid (Below.refl w.heap.size w)
 have T2n := RowAt.new w m.cs.toArray 26
 have T2 := Lib.hid T2n
 clear T2n
 have B3 := Lib.hid (B1.out.alloc B1.out.size (.cells m.cs.toArray 26))
 have F4 := Lib.hid (Fm.out.below B3.out (Nat.le_refl _))
 go_enter Tryz.func3, Tryz.ntmps3
 have C5 := Lib.hid (mnAwake (w.alloc (.cells m.cs.toArray 26)) (HLA.out _ B3.out))
 go_wp2_with fail
 refine C5.out.mono ?_
 rintro e w6 ⟨rfl, hb7⟩
 have T8 := Lib.hid (T2.out.below hb7 T2.out.lt)
 have F9 := Lib.hid (F4.out.below hb7 (Nat.le_refl _))
 have B10 := Lib.hid (B3.out.trans (hb7.mono B3.out.size))
 clear hb7
 have M11 := Lib.hid (T8.out.mn LM.out)
 have C12 := Lib.hid (rfew12_any m w6 F9.out)
 rw [PM.out] at C12
 go_wp2_with (first | ((with_reducible refine wpList_load_at (o := ⟨some 11, .load 26 (.tmp 1), _, _, _, _⟩) ?e1 26 (.tmp 1) ?e2 ⟨w.heap.size, 0, none⟩ ?e3 _ M11.out ?_); (case e1 => rfl); (case e2 => rfl); (case e3 => rfl)))
 refine C12.out.mono ?_
 rintro e w13 ⟨rfl, hb14⟩
 have T15 := Lib.hid (T8.out.below hb14 T8.out.lt)
 have F16 := Lib.hid (F9.out.below hb14 (Nat.le_refl _))
 have B17 := Lib.hid (B10.out.trans (hb14.mono B10.out.size))
 clear hb14
 have c32 := MnAt.c32 (show MnAt w13 w.heap.size m from T15.out) HM32.out
 rw [HNL.out] at c32
 have M18 := Lib.hid (T15.out.mn LM.out)
 have C19 := Lib.hid (pmay12_any m w13 F16.out)
 rw [PV.out] at C19
 go_wp2_with (first | ((with_reducible refine wpList_load_at (o := ⟨some 23, .load 26 (.tmp 1), _, _, _, _⟩) ?e1 26 (.tmp 1) ?e2 ⟨w.heap.size, 0, none⟩ ?e3 _ M18.out ?_); (case e1 => rfl); (case e2 => rfl); (case e3 => rfl)))
 refine C19.out.mono ?_
 rintro e w20 ⟨rfl, hb21⟩
 have T22 := Lib.hid (T15.out.below hb21 T15.out.lt)
 have F23 := Lib.hid (F16.out.below hb21 (Nat.le_refl _))
 have B24 := Lib.hid (B17.out.trans (hb21.mono B17.out.size))
 clear hb21
 clear c32
 have M25 := Lib.hid (T22.out.mn LM.out)
 have hb1 := Lib.hid T22.out.lt
 have hb6 := Lib.hid B24.out.size
 have SZ25 := Lib.hid (mn_size F23.out)
 have SQ25 := Lib.hid (show mnA0.cs.toArray.size = m.cs.toArray.size by rw [mnA0_size, List.size_toArray]; exact (MnA.len F23.out).symm)
 have SO25 := Lib.hid (mn_ones m)
 have L27 := Lib.hid (MnA.len F23.out)
 have hb28 := (Below.refl w20.heap.size w20).alloc (Nat.le_refl _) (.cells m.cs.toArray 26)
 have T29 := Lib.hid (RowAt.new w20 m.cs.toArray 26)
 have T30 := Lib.hid (T22.out.below hb28 T22.out.lt)
 have F31 := Lib.hid (F23.out.below hb28 (Nat.le_refl _))
 have F32 := Lib.hid (F23.out.below hb28 (Nat.le_refl _))
 have B33 := Lib.hid (B24.out.trans (hb28.mono B24.out.size))
 clear hb28
 have T1' := Lib.hid T30.out
 have T6' := Lib.hid T29.out
 have HB1 := Lib.hid B33.out
 go_wp2_with (first | ((with_reducible refine wpList_load_at (o := ⟨some 32, .load 26 (.tmp 1), _, _, _, _⟩) ?e1 26 (.tmp 1) ?e2 ⟨w.heap.size, 0, none⟩ ?e3 _ M25.out ?_); (case e1 => rfl); (case e2 => rfl); (case e3 => rfl)) | ((with_reducible refine wpList_store_new (o := ⟨none, .store 26 (.tmp 6) (.tmp 32), _, _, _, _⟩) ?e1 26 (.tmp 6) (.tmp 32) ?e2 ?e3 mnA0.cs.toArray m.cs.toArray ?e4 SZ25.out SQ25.out SO25.out ?_); (case e1 => rfl); (case e2 => rfl); (case e3 => (first | rfl | exact congrArg (fun q => Value.pointer (some ⟨q, 0, none⟩)) (World.size_alloc _ _).symm)); (case e4 => rfl)))
 generalize ((w20.alloc (.cells m.cs.toArray 26))) = w1 at *
 generalize hq6 : w20.heap.size = b6 at *
 have Q6 := Lib.hid hq6
 have FC32 := Lib.hid (fun X (hX : Below b6 w1 X) => MnAt.c32 (show MnAt X w.heap.size m from T1'.out.below hX hb1.out) HM32.out)
 rw [HNL.out] at FC32
 have BW := Lib.hid (fun X (hX : Below b6 w1 X) => HB1.out.trans (hX.mono hb6.out))
 obtain ⟨b9, off9, hA9, hb9w, hx9, hi9⟩ := HR.out (by rw [HNL.out]; exact HPOS.out)
 have IX := Lib.hid (hi9 N HLT.out N rfl)
 rw [← hA9, HNL.out] at IX
 have FLN := Lib.hid (fun X (hX : Below b6 w1 X) => Kind.at_same (hx9 N HLT.out) ((BW.out X hX).block b9 hb9w))
 have HFL := Lib.hid (fun X (hX : Below w.heap.size w X) => Kind.at_same (hx9 N HLT.out) (hX.block b9 hb9w))
 have HRW := Lib.hid (fun X (hX : Below b6 w1 X) => show KLn.row X m.A m.c m.ls from Kind.row_below HROW.out (BW.out X hX) (Nat.le_refl _))
 clear hx9 hi9 hA9 hb9w hq6
 generalize m.ls.getD N lnA0 = x at *
 have HB6 := Lib.hid (Nat.le_of_lt T6'.out.lt)
 have XOK := Lib.hid (fun X (hX : Below b6 w1 X) => LnA.below HXO.out (BW.out X hX))
 have YL := Lib.hid (LnA.len HXO.out)
 have HZX := Lib.hid HXO.out.1
 refine wp_region_held_drew (S := fun X => Below b6 w1 X) (by kernel_rfl) (((Below.refl _ _).drew).mono (Nat.le_of_lt T6'.out.lt)) (fun hS => ?_)
 have S0 := Lib.hid hS
 have G0 := Lib.hid ((Below.refl w1.heap.size w1).drew)
 generalize World.drew _ = X0 at *
 refine wpHv (i := 0) (oi := ⟨some 33, _, _, _, _, _⟩) (v := ?_) rfl ?_ hS ?_; rotate_left; (focus (intro w9 hSw; go_simp; try with_reducible rfl)); simp only [Act.put, Z2, Z3, Z4]
 refine wpHv (i := 1) (oi := ⟨some 34, _, _, _, _, _⟩) (v := ?_) rfl ?_ hS ?_; rotate_left; (focus (intro w9 hSw; have q0 := FC32.out w9 hSw; go_simp; try with_reducible rfl)); simp only [Act.put, Z2, Z3, Z4]
 refine wpHv (i := 3) (oi := ⟨some 36, _, _, _, _, _⟩) (v := ?_) rfl ?_ hS ?_; rotate_left; (focus (intro w9 hSw; go_simp; try with_reducible rfl)); simp only [Act.put, Z2, Z3, Z4]
 refine wpHv (i := 4) (oi := ⟨some 37, _, _, _, _, _⟩) (v := ?_) rfl ?_ hS ?_; rotate_left; (focus (intro w9 hSw; have q0 := FC32.out w9 hSw; go_simp; try with_reducible rfl)); simp only [Act.put, Z2, Z3, Z4]
 refine wpHv (i := 5) (oi := ⟨some 38, _, _, _, _, _⟩) (v := ?_) rfl ?_ hS ?_; rotate_left; (focus (intro w9 hSw; go_simp; try with_reducible rfl)); simp only [Act.put, Z2, Z3, Z4]
 refine wpHv (i := 6) (oi := ⟨some 39, _, _, _, _, _⟩) (v := (.int .i64 N)) rfl ?_ hS ?_; (focus (intro w9 hSw; first | (go_simp; done) | (go_simp; omega) | (go_simp; exact HSUB.out) | (go_simp; rw [HSUB.out]))); simp only [Act.put, Z2, Z3, Z4]
 refine wpHv (i := 7) (oi := ⟨some 40, _, _, _, _, _⟩) (v := ?_) rfl ?_ hS ?_; rotate_left; (focus (intro w9 hSw; have q0 := IX.out w9; go_simp; try with_reducible rfl)); simp only [Act.put, Z2, Z3, Z4]
 refine wpHv (i := 8) (oi := ⟨some 41, _, _, _, _, _⟩) (v := (.agg (KLn.cs x).toArray)) rfl ?_ hS ?_; (focus (intro w9 hSw; exact exec_load_at 35 _ rfl _ rfl (load_lnL (FLN.out w9 hSw) YL.out))); simp only [Act.put, Z2, Z3, Z4]
 refine wpAnyH_ready (rs := [2, 9]) (by kernel_rfl) (by simp) (AllReadyH.cons (o := ⟨some 35, _, _, _, _, _⟩) rfl (fun K hK => ?_) (AllReadyH.cons (o := ⟨some 42, _, _, _, _, _⟩) rfl (fun K hK => ?_) AllReadyH.nil))
 ·obtain ⟨i0, hi, hz0, hz1, hz2⟩ := info_parts infoLn
  refine step_append_rowK (K := KLn) (o := ⟨some 35, _, _, _, _, _⟩) rfl _ _ 24 rfl w1.heap.size 35 i0 _ 56 Tryz.underlying24 hi hz0 hz1 hz2 (by decide) (by decide) (.slice none 0 0) 0 [] rfl (World.ownsRow_nil _ _ _ _) m.A nl m.c m.ls rfl (HRW.out _ (G0.out.mono HB6.out)) HNL.out HPOS.out (by have := HL10.out; omega) G0.out.size ?_
  intro v1 X1 ho1 hg1
  rw [Nat.zero_add, List.nil_append] at ho1
  have O1 := Lib.hid ho1
  have G1 := Lib.hid (G0.out.grown hg1 G0.out.size (by intro k hk; cases hk))
  refine hK.out _ _ (G1.out.mono HB6.out) (fun hS => ?_)
  clear hK K
  try simp only [Act.put, Z2, Z3, Z4]
  refine wpAnyH_ready (rs := [9]) (by kernel_rfl) (by simp) (AllReadyH.cons (o := ⟨some 42, _, _, _, _, _⟩) rfl (fun K hK => ?_) AllReadyH.nil)
  refine step_bsliceK (K := KLn) rfl (.tmp 41) rfl x rfl YL.out Tryz.underlying24 sizeLn zeroLn nLn ?_
  have G2 := Lib.hid (G1.out.alloc G1.out.size (.cells (KLn.cs x).toArray 35))
  have R2 := Lib.hid (row_one (K := KLn) (x := x) (X := X1) (te := 35) YL.out (XOK.out _ (G2.out.mono HB6.out)))
  have O2 := Lib.hid (O1.out.alloc (.cells (KLn.cs x).toArray 35))
  refine hK.out _ _ (G2.out.mono HB6.out) (fun hS => ?_)
  clear hK K
  try simp only [Act.put, Z2, Z3, Z4]
  refine wpAnyH_ready (rs := [10]) (by kernel_rfl) (by simp) (AllReadyH.cons (o := ⟨some 43, _, _, _, _, _⟩) rfl (fun K hK => ?_) AllReadyH.nil)
  obtain ⟨i0, hi, hz0, hz1, hz2⟩ := info_parts infoLn
  refine step_append_rowK (K := KLn) (o := ⟨some 43, _, _, _, _, _⟩) rfl _ _ 24 rfl w1.heap.size 35 i0 _ 56 Tryz.underlying24 hi hz0 hz1 hz2 (by decide) (by decide) v1 nl m.ls rfl O2.out (some ⟨X1.heap.size, 0, none⟩) 1 1 [x] rfl R2.out rfl (by decide) (by have := HL10.out; omega) G2.out.size ?_
  intro v3 X3 ho3 hg3
  have G3 := Lib.hid (G2.out.grown hg3 G2.out.size (fun k hk => own_base O2.out hk))
  obtain ⟨g6, c6, rfl⟩ := ownsRow_succ ho3
  have O3 := Lib.hid ho3
  clear ho3 hg3
  refine hK.out _ _ (G3.out.mono HB6.out) (fun hS => ?_)
  clear hK K
  try simp only [Act.put, Z2, Z3, Z4]
  refine wpHv (i := 11) (oi := ⟨some 44, _, _, _, _, _⟩) (v := ?_) rfl ?_ hS ?_; rotate_left; (focus (intro w9 hSw; go_simp; try with_reducible rfl)); simp only [Act.put, Z2, Z3, Z4]
  refine wpAnyH_ready (rs := [12]) (by kernel_rfl) (by simp) (AllReadyH.cons (o := ⟨none, _, _, _, _, _⟩) rfl (fun K hK => ?_) AllReadyH.nil)
  have g0 := MnAt.c32 (show MnAt X3 b6 m from T6'.out.below G3.out T6'.out.lt) HM32.out
  have gf : X3.frozen? ⟨b6, 32, none⟩ = false := frozen_of_row _ _ _ _ _ (T6'.out.below G3.out T6'.out.lt)
  have SX := Lib.hid (Below.setCell (p := ⟨b6, 32, none⟩) (G3.out.mono HB6.out) (Nat.le_refl _) (.slice (some ⟨g6, 0, none⟩) (nl + 1) c6))
  go_simp
  refine hK.out _ _ SX.out (fun hS => ?_)
  clear hK K g0 gf
  refine wpAnyH_done (by kernel_rfl) ?_ _
  have E1 := Lib.hid (show (m.ls ++ [x]).length = nl + 1 by rw [List.length_append, HNL.out]; rfl)
  have M6 := Lib.hid (mn_set (T6'.out.below G3.out T6'.out.lt) HM32.out (some ⟨g6, 0, none⟩) c6 (m.ls ++ [x]))
  rw [E1.out] at M6
  have K6 := Lib.hid (show MnA.Ok (X3.setCell ⟨b6, 32, none⟩ (.slice (some ⟨g6, 0, none⟩) (nl + 1) c6)) ⟨m.base, some ⟨g6, 0, none⟩, c6, m.ls ++ [x]⟩ from ⟨HM32.out, HMB.out, Kind.row_own (K := KLn) (te := 35) (base := w1.heap.size) (by rw [E1.out]; exact ownsRow_setCell_other O3.out (by intro h; have h1 := own_base O3.out h; have h2 := T6'.out.lt; simp only at h1; omega) _) (fun y hy => by
   rcases List.mem_append.1 hy with h | h
   ·exact LnA.below (HROW.out.2.2.2.2 y h) (BW.out _ SX.out)
   ·rw [List.mem_singleton.1 h]; exact XOK.out _ SX.out)⟩)
  generalize X3.setCell ⟨b6, 32, none⟩ (.slice (some ⟨g6, 0, none⟩) (nl + 1) c6) = w900 at *
  obtain ⟨m6, hm6⟩ : ∃ q, (⟨m.base, some ⟨g6, 0, none⟩, c6, m.ls ++ [x]⟩ : MnA) = q := ⟨_, rfl⟩
  rw [hm6] at M6 K6
  have V6 := Lib.hid (show mmay m6.m = false from by rw [← hm6]; exact HTW.out _ _)
  clear hm6
  have B501 := Lib.hid (BW.out _ SX.out)
  have T502 := Lib.hid (T1'.out.below SX.out hb1.out)
  have F503 := Lib.hid ((show MnA.Ok w m from HWM.out).below (BW.out _ SX.out) (Nat.le_refl _))
  have L504 := Lib.hid (MnA.len K6.out)
  clear SX
  have M505 := Lib.hid (T502.out.mn LM.out)
  have SZ505 := Lib.hid (mn_size F503.out)
  have SQ505 := Lib.hid (show mnA0.cs.toArray.size = m.cs.toArray.size by rw [mnA0_size, List.size_toArray]; exact (MnA.len F503.out).symm)
  have SO505 := Lib.hid (mn_ones m)
  have D7 := Lib.hid (RowAt.new w900 m.cs.toArray 26)
  have C32 := MnAt.c32 (show MnAt (w900.alloc (.cells m.cs.toArray 26)) w.heap.size m from T502.out.old (.cells m.cs.toArray 26)) HM32.out
  rw [HNL.out] at C32
  have SLU := HSLU.out (w900.alloc (.cells m.cs.toArray 26))
  have hsub := HSUB.out
  have ET := Lib.hid (show (m.ls.take N).length = N by rw [List.length_take, HNL.out]; have := HN1.out; omega)
  have N7 := Lib.hid (mn_set D7.out HM32.out m.A m.c (m.ls.take N))
  rw [ET.out] at N7
  have hb501 := ((Below.refl w900.heap.size w900).alloc (Nat.le_refl _) (.cells m.cs.toArray 26)).setCell (p := ⟨w900.heap.size, 32, none⟩) (Nat.le_refl _) (.slice m.A N m.c)
  have ST7 := Lib.hid (store_mnL D7.out HM32.out m.A N m.c)
  have T507 := Lib.hid (T502.out.below hb501 T502.out.lt)
  have T508 := Lib.hid (M6.out.below hb501 M6.out.lt)
  have F509 := Lib.hid (F503.out.below hb501 (Nat.le_refl _))
  have F510 := Lib.hid (K6.out.below hb501 (Nat.le_refl _))
  have B511 := Lib.hid (B501.out.trans (hb501.mono B501.out.size))
  clear hb501
  obtain ⟨m7, hm7⟩ : ∃ q, (⟨m.base, m.A, m.c, m.ls.take N⟩ : MnA) = q := ⟨_, rfl⟩
  rw [hm7] at N7
  have K7 := Lib.hid (show MnA.Ok ((w900.alloc (.cells m.cs.toArray 26)).setCell ⟨w900.heap.size, 32, none⟩ (.slice m.A N m.c)) m7 from by rw [← hm7]; exact ⟨HM32.out, HMB.out, Kind.row_take F509.out.2.2 N⟩)
  have V7 := Lib.hid (show mmay m7.m = true from by rw [← hm7]; exact HLS7.out _ _)
  clear hm7
  have L512 := Lib.hid (MnA.len K7.out)
  have M513 := Lib.hid (T507.out.mn LM.out)
  have SZ513 := Lib.hid (mn_size F509.out)
  have SQ513 := Lib.hid (show mnA0.cs.toArray.size = m.cs.toArray.size by rw [mnA0_size, List.size_toArray]; exact (MnA.len F509.out).symm)
  have SO513 := Lib.hid (mn_ones m)
  have D8 := Lib.hid (RowAt.new ((w900.alloc (.cells m.cs.toArray 26)).setCell ⟨w900.heap.size, 32, none⟩ (.slice m.A N m.c)) m.cs.toArray 26)
  have c54 := MnAt.c32 (show MnAt (((w900.alloc (.cells m.cs.toArray 26)).setCell ⟨w900.heap.size, 32, none⟩ (.slice m.A N m.c)).alloc (.cells m.cs.toArray 26)) w.heap.size m from T507.out.old (.cells m.cs.toArray 26)) HM32.out
  rw [HNL.out] at c54
  have HR8 := Lib.hid (Kind.row_below F509.out.2.2 ((Below.refl ((w900.alloc (.cells m.cs.toArray 26)).setCell ⟨w900.heap.size, 32, none⟩ (.slice m.A N m.c)).heap.size ((w900.alloc (.cells m.cs.toArray 26)).setCell ⟨w900.heap.size, 32, none⟩ (.slice m.A N m.c))).alloc (Nat.le_refl _) (.cells m.cs.toArray 26)) (Nat.le_refl _))
  obtain ⟨i0, hi, hz0, hz1, hz2⟩ := info_parts infoLn
  have HI := Lib.hid hi
  have HZ0 := Lib.hid hz0
  have HZ1 := Lib.hid hz1
  have HZ2 := Lib.hid hz2
  clear hi hz0 hz1 hz2
  go_wp2_with (first | ((with_reducible refine wpList_load_at (o := ⟨some 45, .load 26 (.tmp 1), _, _, _, _⟩) ?e1 26 (.tmp 1) ?e2 ⟨w.heap.size, 0, none⟩ ?e3 _ M505.out ?_); (case e1 => rfl); (case e2 => rfl); (case e3 => rfl)) | ((with_reducible refine wpList_store_new (o := ⟨none, .store 26 (.tmp 7) (.tmp 45), _, _, _, _⟩) ?e1 26 (.tmp 7) (.tmp 45) ?e2 ?e3 mnA0.cs.toArray m.cs.toArray ?e4 SZ505.out SQ505.out SO505.out ?_); (case e1 => rfl); (case e2 => rfl); (case e3 => (first | rfl | exact congrArg (fun q => Value.pointer (some ⟨q, 0, none⟩)) (World.size_alloc _ _).symm)); (case e4 => rfl)) | ((with_reducible refine wpList_store_run (o := ⟨none, .store 24 (.tmp 51) (.tmp 50), _, _, _, _⟩) ?e1 24 (.tmp 51) (.tmp 50) ?e2 ⟨w900.heap.size, 32, none⟩ _ ?e3 ?e4 ST7.out ?_); (case e1 => rfl); (case e2 => rfl); (case e3 => (first | rfl | exact congrArg (fun q => Value.pointer (some ⟨q, 32, none⟩)) (World.size_alloc _ _).symm)); (case e4 => rfl); generalize ((w900.alloc (.cells m.cs.toArray 26)).setCell ⟨w900.heap.size, 32, none⟩ (.slice m.A N m.c)) = w901 at *) | ((with_reducible refine wpList_load_at (o := ⟨some 52, .load 26 (.tmp 1), _, _, _, _⟩) ?e1 26 (.tmp 1) ?e2 ⟨w.heap.size, 0, none⟩ ?e3 _ M513.out ?_); (case e1 => rfl); (case e2 => rfl); (case e3 => rfl)) | ((with_reducible refine wpList_store_new (o := ⟨none, .store 26 (.tmp 8) (.tmp 52), _, _, _, _⟩) ?e1 26 (.tmp 8) (.tmp 52) ?e2 ?e3 mnA0.cs.toArray m.cs.toArray ?e4 SZ513.out SQ513.out SO513.out ?_); (case e1 => rfl); (case e2 => rfl); (case e3 => (first | rfl | exact congrArg (fun q => Value.pointer (some ⟨q, 0, none⟩)) (World.size_alloc _ _).symm)); (case e4 => rfl)) | (at_builtin; refine wpList_append_K (K := KLn) _ rfl _ _ 24 rfl (w901.alloc (.cells m.cs.toArray 26)).heap.size 35 i0 _ 56 Tryz.underlying24 HI.out HZ0.out HZ1.out HZ2.out (by decide) (by decide) (.slice none 0 0) 0 [] rfl (World.ownsRow_nil _ _ _ _) m.A nl m.c m.ls rfl HR8.out HNL.out (by have := HL10.out; omega) (Nat.le_refl _) ?_; intro v8 w902 ho8 hg8; rw [Nat.zero_add, List.nil_append] at ho8; obtain ⟨g8, c8, hv8⟩ := ownsRow_succ (k := N) (by rw [← HN1.out]; exact ho8); rw [← HN1.out] at hv8; subst hv8; have O8 := Lib.hid ho8; have hb94 := ((Below.refl w901.heap.size w901).alloc (Nat.le_refl _) (.cells m.cs.toArray 26)).grown hg8 (by rw [World.size_alloc]; omega) (by intro k hk; cases hk); have D8w := Lib.hid (D8.out.below ((Below.refl (w901.alloc (.cells m.cs.toArray 26)).heap.size (w901.alloc (.cells m.cs.toArray 26))).grown hg8 (Nat.le_refl _) (by intro k hk; cases hk)) D8.out.lt); have ST8 := Lib.hid (store_mnL D8w.out HM32.out (some ⟨g8, 0, none⟩) nl c8); have N8 := Lib.hid (mn_set D8w.out HM32.out (some ⟨g8, 0, none⟩) c8 m.ls); rw [HNL.out] at N8; have hb95 := hb94.setCell (p := ⟨w901.heap.size, 32, none⟩) (Nat.le_refl _) (.slice (some ⟨g8, 0, none⟩) nl c8); clear ho8 hb94; have O85 := Lib.hid (ownsRow_setCell_other (a := ⟨w901.heap.size, 32, none⟩) O8.out (by intro h; have h1 := own_base O8.out h; rw [World.size_alloc] at h1; simp only at h1; omega) (.slice (some ⟨g8, 0, none⟩) nl c8)); have hs95 := Lib.hid hb95; have T515 := Lib.hid (T507.out.below hb95 T507.out.lt); have T516 := Lib.hid (T508.out.below hb95 T508.out.lt); have T517 := Lib.hid (N7.out.below hb95 N7.out.lt); have F518 := Lib.hid (F509.out.below hb95 (Nat.le_refl _)); have F519 := Lib.hid (F510.out.below hb95 (Nat.le_refl _)); have F520 := Lib.hid (K7.out.below hb95 (Nat.le_refl _)); have B521 := Lib.hid (B511.out.trans (hb95.mono B511.out.size)); clear hb95; have c57 := MnAt.c32 (show MnAt (w902.setCell ⟨w901.heap.size, 32, none⟩ (.slice (some ⟨g8, 0, none⟩) nl c8)) w.heap.size m from T515.out) HM32.out; rw [HNL.out] at c57; have ix61 := IX.out (w902.setCell ⟨w901.heap.size, 32, none⟩ (.slice (some ⟨g8, 0, none⟩) nl c8)); have L62 := Lib.hid (load_lnL (HFL.out (w902.setCell ⟨w901.heap.size, 32, none⟩ (.slice (some ⟨g8, 0, none⟩) nl c8)) B521.out) YL.out); have SZ9 := Lib.hid (ln_size HXO.out); have SQ9 := Lib.hid (show (KLn.cs lnA0).toArray.size = (KLn.cs x).toArray.size by rw [lnA0_size, List.size_toArray]; exact YL.out.symm); have SO9 := Lib.hid (ln_ones x); have E9 := Lib.hid (RowAt.new (w902.setCell ⟨w901.heap.size, 32, none⟩ (.slice (some ⟨g8, 0, none⟩) nl c8)) (KLn.cs x).toArray 35); have l18 := ln_c18 (Kind.at_blk (K := KLn) (x := x) E9.out) HZX.out; rw [Nat.zero_add, HNE.out] at l18; have l16 := ln_c16 (Kind.at_blk (K := KLn) (x := x) E9.out) HZX.out; rw [Nat.zero_add] at l16; have l17 := ln_c17 (Kind.at_blk (K := KLn) (x := x) E9.out) HZX.out; rw [Nat.zero_add] at l17; obtain ⟨m8, hm8⟩ : ∃ q, (⟨m.base, some ⟨g8, 0, none⟩, c8, m.ls⟩ : MnA) = q := ⟨_, rfl⟩; rw [hm8] at N8; have K8 := Lib.hid (show MnA.Ok (w902.setCell ⟨w901.heap.size, 32, none⟩ (.slice (some ⟨g8, 0, none⟩) nl c8)) m8 from by rw [← hm8]; exact ⟨HM32.out, HMB.out, Kind.row_own (K := KLn) (te := 35) (base := (w901.alloc (.cells m.cs.toArray 26)).heap.size) (by rw [HNL.out]; exact O85.out) (fun y hy => LnA.below (HROW.out.2.2.2.2 y hy) B521.out)⟩); have V8 := Lib.hid (show mmay m8.m = true from by rw [← hm8]; exact PV.out); have L8 := Lib.hid (MnA.len K8.out); have ST9 := Lib.hid (store_lnF E9.out HZX.out x.A 0 x.c); have N9 := Lib.hid (ln_set E9.out HZX.out x.A x.c (x.es.take 0)); rw [HTK.out] at N9; obtain ⟨x9, hx9⟩ : ∃ q, (⟨x.z, x.n, x.r, x.A, x.c, x.es.take 0⟩ : LnA) = q := ⟨_, rfl⟩; rw [hx9] at N9; have OK9 := Lib.hid (show LnA.Ok w x9 from by rw [← hx9]; exact ⟨HXO.out.1, HXO.out.2.1, HXO.out.2.2.1, HXO.out.2.2.2.1, Kind.row_take HXO.out.2.2.2.2 0⟩); have YL9 := Lib.hid (LnA.len OK9.out); have sle := HSLE.out ((w902.setCell ⟨w901.heap.size, 32, none⟩ (.slice (some ⟨g8, 0, none⟩) nl c8)).alloc (.cells (KLn.cs x).toArray 35)); have hsub2 := HSUB2.out; have hb97 := ((Below.refl (w902.setCell ⟨w901.heap.size, 32, none⟩ (.slice (some ⟨g8, 0, none⟩) nl c8)).heap.size (w902.setCell ⟨w901.heap.size, 32, none⟩ (.slice (some ⟨g8, 0, none⟩) nl c8))).alloc (Nat.le_refl _) (.cells (KLn.cs x).toArray 35)).setCell (p := ⟨(w902.setCell ⟨w901.heap.size, 32, none⟩ (.slice (some ⟨g8, 0, none⟩) nl c8)).heap.size, 18, none⟩) (Nat.le_refl _) (.slice x.A 0 x.c); have O87 := Lib.hid (ownsRow_setCell_other (a := ⟨(w902.setCell ⟨w901.heap.size, 32, none⟩ (.slice (some ⟨g8, 0, none⟩) nl c8)).heap.size, 18, none⟩) (O85.out.alloc (.cells (KLn.cs x).toArray 35)) (by intro h; have h1 := (O85.out.lt _ h).2; simp only at h1; omega) (.slice x.A 0 x.c)); have hs97 := Lib.hid hb97; have T522 := Lib.hid (T515.out.below hb97 T515.out.lt); have T523 := Lib.hid (T516.out.below hb97 T516.out.lt); have T524 := Lib.hid (T517.out.below hb97 T517.out.lt); have T525 := Lib.hid (N8.out.below hb97 N8.out.lt); have F526 := Lib.hid (F518.out.below hb97 (Nat.le_refl _)); have F527 := Lib.hid (F519.out.below hb97 (Nat.le_refl _)); have F528 := Lib.hid (F520.out.below hb97 (Nat.le_refl _)); have F529 := Lib.hid (K8.out.below hb97 (Nat.le_refl _)); have B530 := Lib.hid (B521.out.trans (hb97.mono B521.out.size)); clear hb97; have c88 := MnAt.c32 (show MnAt (((w902.setCell ⟨w901.heap.size, 32, none⟩ (.slice (some ⟨g8, 0, none⟩) nl c8)).alloc (.cells (KLn.cs x).toArray 35)).setCell ⟨(w902.setCell ⟨w901.heap.size, 32, none⟩ (.slice (some ⟨g8, 0, none⟩) nl c8)).heap.size, 18, none⟩ (.slice x.A 0 x.c)) w901.heap.size m8 from T525.out) (by rw [← hm8]; exact HM32.out); rw [← hm8] at c88; dsimp only at c88; rw [HNL.out] at c88; have R8 := Lib.hid (show KLn.row (((w902.setCell ⟨w901.heap.size, 32, none⟩ (.slice (some ⟨g8, 0, none⟩) nl c8)).alloc (.cells (KLn.cs x).toArray 35)).setCell ⟨(w902.setCell ⟨w901.heap.size, 32, none⟩ (.slice (some ⟨g8, 0, none⟩) nl c8)).heap.size, 18, none⟩ (.slice x.A 0 x.c)) (some ⟨g8, 0, none⟩) c8 m.ls from Kind.row_own (K := KLn) (te := 35) (base := (w901.alloc (.cells m.cs.toArray 26)).heap.size) (by rw [HNL.out]; exact O87.out) (fun y hy => LnA.below (HROW.out.2.2.2.2 y hy) B530.out)); obtain ⟨b8, o8, hA8, hb8w, hx8, hi8⟩ := ln_row R8.out (by rw [HNL.out]; exact HPOS.out); obtain ⟨rfl, rfl⟩ : g8 = b8 ∧ 0 = o8 := (by cases hA8; exact ⟨rfl, rfl⟩); have ix92 := hi8 N HLT.out N rfl (((w902.setCell ⟨w901.heap.size, 32, none⟩ (.slice (some ⟨g8, 0, none⟩) nl c8)).alloc (.cells (KLn.cs x).toArray 35)).setCell ⟨(w902.setCell ⟨w901.heap.size, 32, none⟩ (.slice (some ⟨g8, 0, none⟩) nl c8)).heap.size, 18, none⟩ (.slice x.A 0 x.c)); rw [HNL.out] at ix92; clear hi8 hx8 hb8w hA8; have L91 := Lib.hid (load_lnL (Kind.at_blk (K := KLn) (x := x9) N9.out) YL9.out); obtain ⟨w905, hst9, ho9, hg9⟩ := own_putG (K := KLn) (te := 35) (P := Tryz.prog) (base := (w901.alloc (.cells m.cs.toArray 26)).heap.size) (w := (((w902.setCell ⟨w901.heap.size, 32, none⟩ (.slice (some ⟨g8, 0, none⟩) nl c8)).alloc (.cells (KLn.cs x).toArray 35)).setCell ⟨(w902.setCell ⟨w901.heap.size, 32, none⟩ (.slice (some ⟨g8, 0, none⟩) nl c8)).heap.size, 18, none⟩ (.slice x.A 0 x.c))) (g := g8) (cap := c8) (n := nl) (a := m.ls.take N) (b := []) (p := x) (q := x9) (k := N) (by rw [List.length_take, HNL.out]; have := HN1.out; omega) (by have h := O87.out; rw [HSN.out] at h; exact h) (fun y hy => LnA.len (HROW.out.2.2.2.2 y (by rw [HSN.out]; exact hy))) YL9.out (fun w => sizeLn w); have ST15 := Lib.hid hst9; have HO9 := Lib.hid ho9; have HG9 := Lib.hid hg9; clear hst9 ho9 hg9; have HB9a := Lib.hid ((Below.refl (w901.alloc (.cells m.cs.toArray 26)).heap.size (((w902.setCell ⟨w901.heap.size, 32, none⟩ (.slice (some ⟨g8, 0, none⟩) nl c8)).alloc (.cells (KLn.cs x).toArray 35)).setCell ⟨(w902.setCell ⟨w901.heap.size, 32, none⟩ (.slice (some ⟨g8, 0, none⟩) nl c8)).heap.size, 18, none⟩ (.slice x.A 0 x.c))).grown HG9.out (Nat.le_of_lt (Nat.lt_of_le_of_lt (own_base O87.out rfl) ((O87.out.lt _ rfl).2))) (fun k hk => own_base O87.out hk)); have HB915 := Lib.hid (hs95.out.trans ((hs97.out.mono hs95.out.size).trans (HB9a.out.mono (by rw [World.size_alloc]; omega)))); have B531 := Lib.hid (B511.out.trans (HB915.out.mono B511.out.size)); have T532 := Lib.hid (T507.out.below HB915.out T507.out.lt); have T533 := Lib.hid (T508.out.below HB915.out T508.out.lt); have T534 := Lib.hid (N7.out.below HB915.out N7.out.lt); have F535 := Lib.hid (F509.out.below HB915.out (Nat.le_refl _)); have F536 := Lib.hid (F510.out.below HB915.out (Nat.le_refl _)); have F537 := Lib.hid (K7.out.below HB915.out (Nat.le_refl _)); have EL9 := Lib.hid (show (m.ls.take N ++ [x9]).length = nl by rw [List.length_append, List.length_take, HNL.out]; have := HN1.out; simp only [List.length_singleton]; omega); have N8w := Lib.hid (T525.out.below HB9a.out (by rw [World.size_alloc]; omega)); rw [← hm8] at N8w; have N95 := Lib.hid (show RowAt 26 w905 w901.heap.size (MnA.cs ⟨m.base, some ⟨g8, 0, none⟩, c8, m.ls.take N ++ [x9]⟩).toArray from by have h := N8w.out; unfold MnA.cs at h ⊢; dsimp only at h ⊢; rw [EL9.out]; rw [HNL.out] at h; exact h); have K95 := Lib.hid (show MnA.Ok w905 ⟨m.base, some ⟨g8, 0, none⟩, c8, m.ls.take N ++ [x9]⟩ from ⟨HM32.out, HMB.out, Kind.row_own (K := KLn) (te := 35) (base := (w901.alloc (.cells m.cs.toArray 26)).heap.size) (by rw [EL9.out]; exact HO9.out) (fun y hy => by rcases List.mem_append.1 hy with h | h; exact LnA.below (HROW.out.2.2.2.2 y (List.mem_of_mem_take h)) B531.out; rw [List.mem_singleton.1 h]; exact LnA.below OK9.out B531.out)⟩); have V95 := Lib.hid (show mmay (MnA.m ⟨m.base, some ⟨g8, 0, none⟩, c8, m.ls.take N ++ [x9]⟩) = true from by rw [← hx9]; exact HEN8.out _ _ _ _); obtain ⟨m9, hm9⟩ : ∃ q, (⟨m.base, some ⟨g8, 0, none⟩, c8, m.ls.take N ++ [x9]⟩ : MnA) = q := ⟨_, rfl⟩; rw [hm9] at N95 K95 V95; clear hm9; have L95 := Lib.hid (MnA.len K95.out); have M538 := Lib.hid (T533.out.mn L504.out)) | ((with_reducible refine wpList_store_run (o := ⟨none, .store 24 (.tmp 56) (.tmp 55), _, _, _, _⟩) ?e1 24 (.tmp 56) (.tmp 55) ?e2 ⟨w901.heap.size, 32, none⟩ _ ?e3 ?e4 ST8.out ?_); (case e1 => rfl); (case e2 => rfl); (case e3 => (first | rfl | exact congrArg (fun q => Value.pointer (some ⟨q, 32, none⟩)) (World.size_alloc _ _).symm)); (case e4 => rfl); generalize (w902.setCell ⟨w901.heap.size, 32, none⟩ (.slice (some ⟨g8, 0, none⟩) nl c8)) = w903 at *) | ((with_reducible refine wpList_load_at (o := ⟨some 62, .load 35 (.tmp 61), _, _, _, _⟩) ?e1 35 (.tmp 61) ?e2 ⟨b9, off9 + N * 19, none⟩ ?e3 _ L62.out ?_); (case e1 => rfl); (case e2 => rfl); (case e3 => rfl)) | ((with_reducible refine wpList_store_new (o := ⟨none, .store 35 (.tmp 9) (.tmp 62), _, _, _, _⟩) ?e1 35 (.tmp 9) (.tmp 62) ?e2 ?e3 (KLn.cs lnA0).toArray (KLn.cs x).toArray ?e4 SZ9.out SQ9.out SO9.out ?_); (case e1 => rfl); (case e2 => rfl); (case e3 => (first | rfl | exact congrArg (fun q => Value.pointer (some ⟨q, 0, none⟩)) (World.size_alloc _ _).symm)); (case e4 => rfl)) | ((with_reducible refine wpList_neqM (o := ⟨some 76, .binOp .neq 32 (.tmp 74) (.tmp 75) 32, _, _, _, _⟩) ?e1 32 (.tmp 74) (.tmp 75) 32 ?e2 ?e3 ?e4 guardStM (HEQ.out _) ?_); (case e1 => rfl); (case e2 => rfl); (case e3 => rfl); (case e4 => rfl)) | ((with_reducible refine wpList_store_run (o := ⟨none, .store 33 (.tmp 86) (.tmp 85), _, _, _, _⟩) ?e1 33 (.tmp 86) (.tmp 85) ?e2 ⟨w903.heap.size, 18, none⟩ _ ?e3 ?e4 ST9.out ?_); (case e1 => rfl); (case e2 => rfl); (case e3 => (first | rfl | exact congrArg (fun q => Value.pointer (some ⟨q, 18, none⟩)) (World.size_alloc _ _).symm)); (case e4 => rfl); generalize ((w903.alloc (.cells (KLn.cs x).toArray 35)).setCell ⟨w903.heap.size, 18, none⟩ (.slice x.A 0 x.c)) = w904 at *) | ((with_reducible refine wpList_load_at (o := ⟨some 91, .load 35 (.tmp 9), _, _, _, _⟩) ?e1 35 (.tmp 9) ?e2 ⟨w903.heap.size, 0, none⟩ ?e3 _ L91.out ?_); (case e1 => rfl); (case e2 => rfl); (case e3 => rfl)) | ((with_reducible refine wpList_store_run (o := ⟨none, .store 35 (.tmp 92) (.tmp 91), _, _, _, _⟩) ?e1 35 (.tmp 92) (.tmp 91) ?e2 ⟨g8, N * KLn.n, none⟩ (KLn.v x9) ?e3 ?e4 ST15.out ?_); (case e1 => rfl); (case e2 => rfl); (case e3 => (first | rfl | exact congrArg (fun q => Value.pointer (some ⟨g8, q, none⟩)) (Nat.zero_add _))); (case e4 => rfl)) | ((with_reducible refine wpList_load_at (o := ⟨some 93, .load 26 (.tmp 6), _, _, _, _⟩) ?e1 26 (.tmp 6) ?e2 ⟨b6, 0, none⟩ ?e3 _ M538.out ?_); (case e1 => rfl); (case e2 => rfl); (case e3 => rfl)) | fail)
  clear c57 ix61 l16 l17 l18 c54 C32 SLU hsub c88 ix92 sle hsub2
  have C539 := Lib.hid ((show Calls Tryz.prog 6 #[.agg m6.cs.toArray] w905 fun e w' => e = .returned (.bool (mmay m6.m)) ∧ Below (w905).heap.size w905 w' from pmay12_any m6 w905 F536.out))
  rw [V6.out] at C539
  refine C539.out.mono ?_
  rintro e w540 ⟨rfl, hb541⟩
  have T542 := Lib.hid (T532.out.below hb541 T532.out.lt)
  have T543 := Lib.hid (T533.out.below hb541 T533.out.lt)
  have T544 := Lib.hid (T534.out.below hb541 T534.out.lt)
  have T545 := Lib.hid (N95.out.below hb541 N95.out.lt)
  have F546 := Lib.hid (F535.out.below hb541 (Nat.le_refl _))
  have F547 := Lib.hid (F536.out.below hb541 (Nat.le_refl _))
  have F548 := Lib.hid (F537.out.below hb541 (Nat.le_refl _))
  have F549 := Lib.hid (K95.out.below hb541 (Nat.le_refl _))
  have B550 := Lib.hid (B531.out.trans (hb541.mono B531.out.size))
  clear hb541
  have M551 := Lib.hid (T544.out.mn L512.out)
  have C552 := Lib.hid ((show Calls Tryz.prog 6 #[.agg m7.cs.toArray] w540 fun e w' => e = .returned (.bool (mmay m7.m)) ∧ Below (w540).heap.size w540 w' from pmay12_any m7 w540 F548.out))
  rw [V7.out] at C552
  go_wp2_with (first | ((with_reducible refine wpList_load_at (o := ⟨some 97, .load 26 (.tmp 7), _, _, _, _⟩) ?e1 26 (.tmp 7) ?e2 ⟨w900.heap.size, 0, none⟩ ?e3 _ M551.out ?_); (case e1 => rfl); (case e2 => rfl); (case e3 => rfl)))
  refine C552.out.mono ?_
  rintro e w553 ⟨rfl, hb554⟩
  have T555 := Lib.hid (T542.out.below hb554 T542.out.lt)
  have T556 := Lib.hid (T543.out.below hb554 T543.out.lt)
  have T557 := Lib.hid (T544.out.below hb554 T544.out.lt)
  have T558 := Lib.hid (T545.out.below hb554 T545.out.lt)
  have F559 := Lib.hid (F546.out.below hb554 (Nat.le_refl _))
  have F560 := Lib.hid (F547.out.below hb554 (Nat.le_refl _))
  have F561 := Lib.hid (F548.out.below hb554 (Nat.le_refl _))
  have F562 := Lib.hid (F549.out.below hb554 (Nat.le_refl _))
  have B563 := Lib.hid (B550.out.trans (hb554.mono B550.out.size))
  clear hb554
  have M564 := Lib.hid (T558.out.mn L95.out)
  have C565 := Lib.hid ((show Calls Tryz.prog 6 #[.agg m9.cs.toArray] w553 fun e w' => e = .returned (.bool (mmay m9.m)) ∧ Below (w553).heap.size w553 w' from pmay12_any m9 w553 F562.out))
  rw [V95.out] at C565
  go_wp2_with (first | ((with_reducible refine wpList_load_at (o := ⟨some 101, .load 26 (.tmp 8), _, _, _, _⟩) ?e1 26 (.tmp 8) ?e2 ⟨w901.heap.size, 0, none⟩ ?e3 _ M564.out ?_); (case e1 => rfl); (case e2 => rfl); (case e3 => rfl)))
  refine C565.out.mono ?_
  rintro e w566 ⟨rfl, hb567⟩
  have T568 := Lib.hid (T555.out.below hb567 T555.out.lt)
  have T569 := Lib.hid (T556.out.below hb567 T556.out.lt)
  have T570 := Lib.hid (T557.out.below hb567 T557.out.lt)
  have T571 := Lib.hid (T558.out.below hb567 T558.out.lt)
  have F572 := Lib.hid (F559.out.below hb567 (Nat.le_refl _))
  have F573 := Lib.hid (F560.out.below hb567 (Nat.le_refl _))
  have F574 := Lib.hid (F561.out.below hb567 (Nat.le_refl _))
  have F575 := Lib.hid (F562.out.below hb567 (Nat.le_refl _))
  have B576 := Lib.hid (B563.out.trans (hb567.mono B563.out.size))
  clear hb567
  have c106 := MnAt.c32 (show MnAt w566 w.heap.size m from T568.out) HM32.out
  rw [HNL.out] at c106
  have t10 : (nl : Int) ≤ 10 := by have := HL10.out; omega
  go_wp2
  go_ret
  exact ⟨rfl, B576.out⟩
 ·refine step_bsliceK (K := KLn) rfl (.tmp 41) rfl x rfl YL.out Tryz.underlying24 sizeLn zeroLn nLn ?_
  have G1 := Lib.hid (G0.out.alloc G0.out.size (.cells (KLn.cs x).toArray 35))
  have R1 := Lib.hid (row_one (K := KLn) (x := x) (X := X0) (te := 35) YL.out (XOK.out _ (G1.out.mono HB6.out)))
  refine hK.out _ _ (G1.out.mono HB6.out) (fun hS => ?_)
  clear hK K
  try simp only [Act.put, Z2, Z3, Z4]
  refine wpAnyH_ready (rs := [2]) (by kernel_rfl) (by simp) (AllReadyH.cons (o := ⟨some 35, _, _, _, _, _⟩) rfl (fun K hK => ?_) AllReadyH.nil)
  obtain ⟨i0, hi, hz0, hz1, hz2⟩ := info_parts infoLn
  refine step_append_rowK (K := KLn) (o := ⟨some 35, _, _, _, _, _⟩) rfl _ _ 24 rfl w1.heap.size 35 i0 _ 56 Tryz.underlying24 hi hz0 hz1 hz2 (by decide) (by decide) (.slice none 0 0) 0 [] rfl (World.ownsRow_nil _ _ _ _) m.A nl m.c m.ls rfl (HRW.out _ (G1.out.mono HB6.out)) HNL.out HPOS.out (by have := HL10.out; omega) G1.out.size ?_
  intro v2 X2 ho2 hg2
  rw [Nat.zero_add, List.nil_append] at ho2
  have O2 := Lib.hid ho2
  have G2 := Lib.hid (G1.out.grown hg2 G1.out.size (by intro k hk; cases hk))
  have R2 := Lib.hid (Kind.row_below R1.out ((Below.refl _ _).grown hg2 (Nat.le_refl _) (by intro k hk; cases hk)) (Nat.le_refl _))
  refine hK.out _ _ (G2.out.mono HB6.out) (fun hS => ?_)
  clear hK K
  try simp only [Act.put, Z2, Z3, Z4]
  refine wpAnyH_ready (rs := [10]) (by kernel_rfl) (by simp) (AllReadyH.cons (o := ⟨some 43, _, _, _, _, _⟩) rfl (fun K hK => ?_) AllReadyH.nil)
  obtain ⟨i0, hi, hz0, hz1, hz2⟩ := info_parts infoLn
  refine step_append_rowK (K := KLn) (o := ⟨some 43, _, _, _, _, _⟩) rfl _ _ 24 rfl w1.heap.size 35 i0 _ 56 Tryz.underlying24 hi hz0 hz1 hz2 (by decide) (by decide) v2 nl m.ls rfl O2.out (some ⟨X0.heap.size, 0, none⟩) 1 1 [x] rfl R2.out rfl (by decide) (by have := HL10.out; omega) G2.out.size ?_
  intro v3 X3 ho3 hg3
  have G3 := Lib.hid (G2.out.grown hg3 G2.out.size (fun k hk => own_base O2.out hk))
  obtain ⟨g6, c6, rfl⟩ := ownsRow_succ ho3
  have O3 := Lib.hid ho3
  clear ho3 hg3
  refine hK.out _ _ (G3.out.mono HB6.out) (fun hS => ?_)
  clear hK K
  try simp only [Act.put, Z2, Z3, Z4]
  refine wpHv (i := 11) (oi := ⟨some 44, _, _, _, _, _⟩) (v := ?_) rfl ?_ hS ?_; rotate_left; (focus (intro w9 hSw; go_simp; try with_reducible rfl)); simp only [Act.put, Z2, Z3, Z4]
  refine wpAnyH_ready (rs := [12]) (by kernel_rfl) (by simp) (AllReadyH.cons (o := ⟨none, _, _, _, _, _⟩) rfl (fun K hK => ?_) AllReadyH.nil)
  have g0 := MnAt.c32 (show MnAt X3 b6 m from T6'.out.below G3.out T6'.out.lt) HM32.out
  have gf : X3.frozen? ⟨b6, 32, none⟩ = false := frozen_of_row _ _ _ _ _ (T6'.out.below G3.out T6'.out.lt)
  have SX := Lib.hid (Below.setCell (p := ⟨b6, 32, none⟩) (G3.out.mono HB6.out) (Nat.le_refl _) (.slice (some ⟨g6, 0, none⟩) (nl + 1) c6))
  go_simp
  refine hK.out _ _ SX.out (fun hS => ?_)
  clear hK K g0 gf
  refine wpAnyH_done (by kernel_rfl) ?_ _
  have E1 := Lib.hid (show (m.ls ++ [x]).length = nl + 1 by rw [List.length_append, HNL.out]; rfl)
  have M6 := Lib.hid (mn_set (T6'.out.below G3.out T6'.out.lt) HM32.out (some ⟨g6, 0, none⟩) c6 (m.ls ++ [x]))
  rw [E1.out] at M6
  have K6 := Lib.hid (show MnA.Ok (X3.setCell ⟨b6, 32, none⟩ (.slice (some ⟨g6, 0, none⟩) (nl + 1) c6)) ⟨m.base, some ⟨g6, 0, none⟩, c6, m.ls ++ [x]⟩ from ⟨HM32.out, HMB.out, Kind.row_own (K := KLn) (te := 35) (base := w1.heap.size) (by rw [E1.out]; exact ownsRow_setCell_other O3.out (by intro h; have h1 := own_base O3.out h; have h2 := T6'.out.lt; simp only at h1; omega) _) (fun y hy => by
   rcases List.mem_append.1 hy with h | h
   ·exact LnA.below (HROW.out.2.2.2.2 y h) (BW.out _ SX.out)
   ·rw [List.mem_singleton.1 h]; exact XOK.out _ SX.out)⟩)
  generalize X3.setCell ⟨b6, 32, none⟩ (.slice (some ⟨g6, 0, none⟩) (nl + 1) c6) = w900 at *
  obtain ⟨m6, hm6⟩ : ∃ q, (⟨m.base, some ⟨g6, 0, none⟩, c6, m.ls ++ [x]⟩ : MnA) = q := ⟨_, rfl⟩
  rw [hm6] at M6 K6
  have V6 := Lib.hid (show mmay m6.m = false from by rw [← hm6]; exact HTW.out _ _)
  clear hm6
  have B501 := Lib.hid (BW.out _ SX.out)
  have T502 := Lib.hid (T1'.out.below SX.out hb1.out)
  have F503 := Lib.hid ((show MnA.Ok w m from HWM.out).below (BW.out _ SX.out) (Nat.le_refl _))
  have L504 := Lib.hid (MnA.len K6.out)
  clear SX
  have M505 := Lib.hid (T502.out.mn LM.out)
  have SZ505 := Lib.hid (mn_size F503.out)
  have SQ505 := Lib.hid (show mnA0.cs.toArray.size = m.cs.toArray.size by rw [mnA0_size, List.size_toArray]; exact (MnA.len F503.out).symm)
  have SO505 := Lib.hid (mn_ones m)
  have D7 := Lib.hid (RowAt.new w900 m.cs.toArray 26)
  have C32 := MnAt.c32 (show MnAt (w900.alloc (.cells m.cs.toArray 26)) w.heap.size m from T502.out.old (.cells m.cs.toArray 26)) HM32.out
  rw [HNL.out] at C32
  have SLU := HSLU.out (w900.alloc (.cells m.cs.toArray 26))
  have hsub := HSUB.out
  have ET := Lib.hid (show (m.ls.take N).length = N by rw [List.length_take, HNL.out]; have := HN1.out; omega)
  have N7 := Lib.hid (mn_set D7.out HM32.out m.A m.c (m.ls.take N))
  rw [ET.out] at N7
  have hb501 := ((Below.refl w900.heap.size w900).alloc (Nat.le_refl _) (.cells m.cs.toArray 26)).setCell (p := ⟨w900.heap.size, 32, none⟩) (Nat.le_refl _) (.slice m.A N m.c)
  have ST7 := Lib.hid (store_mnL D7.out HM32.out m.A N m.c)
  have T507 := Lib.hid (T502.out.below hb501 T502.out.lt)
  have T508 := Lib.hid (M6.out.below hb501 M6.out.lt)
  have F509 := Lib.hid (F503.out.below hb501 (Nat.le_refl _))
  have F510 := Lib.hid (K6.out.below hb501 (Nat.le_refl _))
  have B511 := Lib.hid (B501.out.trans (hb501.mono B501.out.size))
  clear hb501
  obtain ⟨m7, hm7⟩ : ∃ q, (⟨m.base, m.A, m.c, m.ls.take N⟩ : MnA) = q := ⟨_, rfl⟩
  rw [hm7] at N7
  have K7 := Lib.hid (show MnA.Ok ((w900.alloc (.cells m.cs.toArray 26)).setCell ⟨w900.heap.size, 32, none⟩ (.slice m.A N m.c)) m7 from by rw [← hm7]; exact ⟨HM32.out, HMB.out, Kind.row_take F509.out.2.2 N⟩)
  have V7 := Lib.hid (show mmay m7.m = true from by rw [← hm7]; exact HLS7.out _ _)
  clear hm7
  have L512 := Lib.hid (MnA.len K7.out)
  have M513 := Lib.hid (T507.out.mn LM.out)
  have SZ513 := Lib.hid (mn_size F509.out)
  have SQ513 := Lib.hid (show mnA0.cs.toArray.size = m.cs.toArray.size by rw [mnA0_size, List.size_toArray]; exact (MnA.len F509.out).symm)
  have SO513 := Lib.hid (mn_ones m)
  have D8 := Lib.hid (RowAt.new ((w900.alloc (.cells m.cs.toArray 26)).setCell ⟨w900.heap.size, 32, none⟩ (.slice m.A N m.c)) m.cs.toArray 26)
  have c54 := MnAt.c32 (show MnAt (((w900.alloc (.cells m.cs.toArray 26)).setCell ⟨w900.heap.size, 32, none⟩ (.slice m.A N m.c)).alloc (.cells m.cs.toArray 26)) w.heap.size m from T507.out.old (.cells m.cs.toArray 26)) HM32.out
  rw [HNL.out] at c54
  have HR8 := Lib.hid (Kind.row_below F509.out.2.2 ((Below.refl ((w900.alloc (.cells m.cs.toArray 26)).setCell ⟨w900.heap.size, 32, none⟩ (.slice m.A N m.c)).heap.size ((w900.alloc (.cells m.cs.toArray 26)).setCell ⟨w900.heap.size, 32, none⟩ (.slice m.A N m.c))).alloc (Nat.le_refl _) (.cells m.cs.toArray 26)) (Nat.le_refl _))
  obtain ⟨i0, hi, hz0, hz1, hz2⟩ := info_parts infoLn
  have HI := Lib.hid hi
  have HZ0 := Lib.hid hz0
  have HZ1 := Lib.hid hz1
  have HZ2 := Lib.hid hz2
  clear hi hz0 hz1 hz2
  go_wp2_with (first | ((with_reducible refine wpList_load_at (o := ⟨some 45, .load 26 (.tmp 1), _, _, _, _⟩) ?e1 26 (.tmp 1) ?e2 ⟨w.heap.size, 0, none⟩ ?e3 _ M505.out ?_); (case e1 => rfl); (case e2 => rfl); (case e3 => rfl)) | ((with_reducible refine wpList_store_new (o := ⟨none, .store 26 (.tmp 7) (.tmp 45), _, _, _, _⟩) ?e1 26 (.tmp 7) (.tmp 45) ?e2 ?e3 mnA0.cs.toArray m.cs.toArray ?e4 SZ505.out SQ505.out SO505.out ?_); (case e1 => rfl); (case e2 => rfl); (case e3 => (first | rfl | exact congrArg (fun q => Value.pointer (some ⟨q, 0, none⟩)) (World.size_alloc _ _).symm)); (case e4 => rfl)) | ((with_reducible refine wpList_store_run (o := ⟨none, .store 24 (.tmp 51) (.tmp 50), _, _, _, _⟩) ?e1 24 (.tmp 51) (.tmp 50) ?e2 ⟨w900.heap.size, 32, none⟩ _ ?e3 ?e4 ST7.out ?_); (case e1 => rfl); (case e2 => rfl); (case e3 => (first | rfl | exact congrArg (fun q => Value.pointer (some ⟨q, 32, none⟩)) (World.size_alloc _ _).symm)); (case e4 => rfl); generalize ((w900.alloc (.cells m.cs.toArray 26)).setCell ⟨w900.heap.size, 32, none⟩ (.slice m.A N m.c)) = w901 at *) | ((with_reducible refine wpList_load_at (o := ⟨some 52, .load 26 (.tmp 1), _, _, _, _⟩) ?e1 26 (.tmp 1) ?e2 ⟨w.heap.size, 0, none⟩ ?e3 _ M513.out ?_); (case e1 => rfl); (case e2 => rfl); (case e3 => rfl)) | ((with_reducible refine wpList_store_new (o := ⟨none, .store 26 (.tmp 8) (.tmp 52), _, _, _, _⟩) ?e1 26 (.tmp 8) (.tmp 52) ?e2 ?e3 mnA0.cs.toArray m.cs.toArray ?e4 SZ513.out SQ513.out SO513.out ?_); (case e1 => rfl); (case e2 => rfl); (case e3 => (first | rfl | exact congrArg (fun q => Value.pointer (some ⟨q, 0, none⟩)) (World.size_alloc _ _).symm)); (case e4 => rfl)) | (at_builtin; refine wpList_append_K (K := KLn) _ rfl _ _ 24 rfl (w901.alloc (.cells m.cs.toArray 26)).heap.size 35 i0 _ 56 Tryz.underlying24 HI.out HZ0.out HZ1.out HZ2.out (by decide) (by decide) (.slice none 0 0) 0 [] rfl (World.ownsRow_nil _ _ _ _) m.A nl m.c m.ls rfl HR8.out HNL.out (by have := HL10.out; omega) (Nat.le_refl _) ?_; intro v8 w902 ho8 hg8; rw [Nat.zero_add, List.nil_append] at ho8; obtain ⟨g8, c8, hv8⟩ := ownsRow_succ (k := N) (by rw [← HN1.out]; exact ho8); rw [← HN1.out] at hv8; subst hv8; have O8 := Lib.hid ho8; have hb94 := ((Below.refl w901.heap.size w901).alloc (Nat.le_refl _) (.cells m.cs.toArray 26)).grown hg8 (by rw [World.size_alloc]; omega) (by intro k hk; cases hk); have D8w := Lib.hid (D8.out.below ((Below.refl (w901.alloc (.cells m.cs.toArray 26)).heap.size (w901.alloc (.cells m.cs.toArray 26))).grown hg8 (Nat.le_refl _) (by intro k hk; cases hk)) D8.out.lt); have ST8 := Lib.hid (store_mnL D8w.out HM32.out (some ⟨g8, 0, none⟩) nl c8); have N8 := Lib.hid (mn_set D8w.out HM32.out (some ⟨g8, 0, none⟩) c8 m.ls); rw [HNL.out] at N8; have hb95 := hb94.setCell (p := ⟨w901.heap.size, 32, none⟩) (Nat.le_refl _) (.slice (some ⟨g8, 0, none⟩) nl c8); clear ho8 hb94; have O85 := Lib.hid (ownsRow_setCell_other (a := ⟨w901.heap.size, 32, none⟩) O8.out (by intro h; have h1 := own_base O8.out h; rw [World.size_alloc] at h1; simp only at h1; omega) (.slice (some ⟨g8, 0, none⟩) nl c8)); have hs95 := Lib.hid hb95; have T515 := Lib.hid (T507.out.below hb95 T507.out.lt); have T516 := Lib.hid (T508.out.below hb95 T508.out.lt); have T517 := Lib.hid (N7.out.below hb95 N7.out.lt); have F518 := Lib.hid (F509.out.below hb95 (Nat.le_refl _)); have F519 := Lib.hid (F510.out.below hb95 (Nat.le_refl _)); have F520 := Lib.hid (K7.out.below hb95 (Nat.le_refl _)); have B521 := Lib.hid (B511.out.trans (hb95.mono B511.out.size)); clear hb95; have c57 := MnAt.c32 (show MnAt (w902.setCell ⟨w901.heap.size, 32, none⟩ (.slice (some ⟨g8, 0, none⟩) nl c8)) w.heap.size m from T515.out) HM32.out; rw [HNL.out] at c57; have ix61 := IX.out (w902.setCell ⟨w901.heap.size, 32, none⟩ (.slice (some ⟨g8, 0, none⟩) nl c8)); have L62 := Lib.hid (load_lnL (HFL.out (w902.setCell ⟨w901.heap.size, 32, none⟩ (.slice (some ⟨g8, 0, none⟩) nl c8)) B521.out) YL.out); have SZ9 := Lib.hid (ln_size HXO.out); have SQ9 := Lib.hid (show (KLn.cs lnA0).toArray.size = (KLn.cs x).toArray.size by rw [lnA0_size, List.size_toArray]; exact YL.out.symm); have SO9 := Lib.hid (ln_ones x); have E9 := Lib.hid (RowAt.new (w902.setCell ⟨w901.heap.size, 32, none⟩ (.slice (some ⟨g8, 0, none⟩) nl c8)) (KLn.cs x).toArray 35); have l18 := ln_c18 (Kind.at_blk (K := KLn) (x := x) E9.out) HZX.out; rw [Nat.zero_add, HNE.out] at l18; have l16 := ln_c16 (Kind.at_blk (K := KLn) (x := x) E9.out) HZX.out; rw [Nat.zero_add] at l16; have l17 := ln_c17 (Kind.at_blk (K := KLn) (x := x) E9.out) HZX.out; rw [Nat.zero_add] at l17; obtain ⟨m8, hm8⟩ : ∃ q, (⟨m.base, some ⟨g8, 0, none⟩, c8, m.ls⟩ : MnA) = q := ⟨_, rfl⟩; rw [hm8] at N8; have K8 := Lib.hid (show MnA.Ok (w902.setCell ⟨w901.heap.size, 32, none⟩ (.slice (some ⟨g8, 0, none⟩) nl c8)) m8 from by rw [← hm8]; exact ⟨HM32.out, HMB.out, Kind.row_own (K := KLn) (te := 35) (base := (w901.alloc (.cells m.cs.toArray 26)).heap.size) (by rw [HNL.out]; exact O85.out) (fun y hy => LnA.below (HROW.out.2.2.2.2 y hy) B521.out)⟩); have V8 := Lib.hid (show mmay m8.m = true from by rw [← hm8]; exact PV.out); have L8 := Lib.hid (MnA.len K8.out); have ST9 := Lib.hid (store_lnF E9.out HZX.out x.A 0 x.c); have N9 := Lib.hid (ln_set E9.out HZX.out x.A x.c (x.es.take 0)); rw [HTK.out] at N9; obtain ⟨x9, hx9⟩ : ∃ q, (⟨x.z, x.n, x.r, x.A, x.c, x.es.take 0⟩ : LnA) = q := ⟨_, rfl⟩; rw [hx9] at N9; have OK9 := Lib.hid (show LnA.Ok w x9 from by rw [← hx9]; exact ⟨HXO.out.1, HXO.out.2.1, HXO.out.2.2.1, HXO.out.2.2.2.1, Kind.row_take HXO.out.2.2.2.2 0⟩); have YL9 := Lib.hid (LnA.len OK9.out); have sle := HSLE.out ((w902.setCell ⟨w901.heap.size, 32, none⟩ (.slice (some ⟨g8, 0, none⟩) nl c8)).alloc (.cells (KLn.cs x).toArray 35)); have hsub2 := HSUB2.out; have hb97 := ((Below.refl (w902.setCell ⟨w901.heap.size, 32, none⟩ (.slice (some ⟨g8, 0, none⟩) nl c8)).heap.size (w902.setCell ⟨w901.heap.size, 32, none⟩ (.slice (some ⟨g8, 0, none⟩) nl c8))).alloc (Nat.le_refl _) (.cells (KLn.cs x).toArray 35)).setCell (p := ⟨(w902.setCell ⟨w901.heap.size, 32, none⟩ (.slice (some ⟨g8, 0, none⟩) nl c8)).heap.size, 18, none⟩) (Nat.le_refl _) (.slice x.A 0 x.c); have O87 := Lib.hid (ownsRow_setCell_other (a := ⟨(w902.setCell ⟨w901.heap.size, 32, none⟩ (.slice (some ⟨g8, 0, none⟩) nl c8)).heap.size, 18, none⟩) (O85.out.alloc (.cells (KLn.cs x).toArray 35)) (by intro h; have h1 := (O85.out.lt _ h).2; simp only at h1; omega) (.slice x.A 0 x.c)); have hs97 := Lib.hid hb97; have T522 := Lib.hid (T515.out.below hb97 T515.out.lt); have T523 := Lib.hid (T516.out.below hb97 T516.out.lt); have T524 := Lib.hid (T517.out.below hb97 T517.out.lt); have T525 := Lib.hid (N8.out.below hb97 N8.out.lt); have F526 := Lib.hid (F518.out.below hb97 (Nat.le_refl _)); have F527 := Lib.hid (F519.out.below hb97 (Nat.le_refl _)); have F528 := Lib.hid (F520.out.below hb97 (Nat.le_refl _)); have F529 := Lib.hid (K8.out.below hb97 (Nat.le_refl _)); have B530 := Lib.hid (B521.out.trans (hb97.mono B521.out.size)); clear hb97; have c88 := MnAt.c32 (show MnAt (((w902.setCell ⟨w901.heap.size, 32, none⟩ (.slice (some ⟨g8, 0, none⟩) nl c8)).alloc (.cells (KLn.cs x).toArray 35)).setCell ⟨(w902.setCell ⟨w901.heap.size, 32, none⟩ (.slice (some ⟨g8, 0, none⟩) nl c8)).heap.size, 18, none⟩ (.slice x.A 0 x.c)) w901.heap.size m8 from T525.out) (by rw [← hm8]; exact HM32.out); rw [← hm8] at c88; dsimp only at c88; rw [HNL.out] at c88; have R8 := Lib.hid (show KLn.row (((w902.setCell ⟨w901.heap.size, 32, none⟩ (.slice (some ⟨g8, 0, none⟩) nl c8)).alloc (.cells (KLn.cs x).toArray 35)).setCell ⟨(w902.setCell ⟨w901.heap.size, 32, none⟩ (.slice (some ⟨g8, 0, none⟩) nl c8)).heap.size, 18, none⟩ (.slice x.A 0 x.c)) (some ⟨g8, 0, none⟩) c8 m.ls from Kind.row_own (K := KLn) (te := 35) (base := (w901.alloc (.cells m.cs.toArray 26)).heap.size) (by rw [HNL.out]; exact O87.out) (fun y hy => LnA.below (HROW.out.2.2.2.2 y hy) B530.out)); obtain ⟨b8, o8, hA8, hb8w, hx8, hi8⟩ := ln_row R8.out (by rw [HNL.out]; exact HPOS.out); obtain ⟨rfl, rfl⟩ : g8 = b8 ∧ 0 = o8 := (by cases hA8; exact ⟨rfl, rfl⟩); have ix92 := hi8 N HLT.out N rfl (((w902.setCell ⟨w901.heap.size, 32, none⟩ (.slice (some ⟨g8, 0, none⟩) nl c8)).alloc (.cells (KLn.cs x).toArray 35)).setCell ⟨(w902.setCell ⟨w901.heap.size, 32, none⟩ (.slice (some ⟨g8, 0, none⟩) nl c8)).heap.size, 18, none⟩ (.slice x.A 0 x.c)); rw [HNL.out] at ix92; clear hi8 hx8 hb8w hA8; have L91 := Lib.hid (load_lnL (Kind.at_blk (K := KLn) (x := x9) N9.out) YL9.out); obtain ⟨w905, hst9, ho9, hg9⟩ := own_putG (K := KLn) (te := 35) (P := Tryz.prog) (base := (w901.alloc (.cells m.cs.toArray 26)).heap.size) (w := (((w902.setCell ⟨w901.heap.size, 32, none⟩ (.slice (some ⟨g8, 0, none⟩) nl c8)).alloc (.cells (KLn.cs x).toArray 35)).setCell ⟨(w902.setCell ⟨w901.heap.size, 32, none⟩ (.slice (some ⟨g8, 0, none⟩) nl c8)).heap.size, 18, none⟩ (.slice x.A 0 x.c))) (g := g8) (cap := c8) (n := nl) (a := m.ls.take N) (b := []) (p := x) (q := x9) (k := N) (by rw [List.length_take, HNL.out]; have := HN1.out; omega) (by have h := O87.out; rw [HSN.out] at h; exact h) (fun y hy => LnA.len (HROW.out.2.2.2.2 y (by rw [HSN.out]; exact hy))) YL9.out (fun w => sizeLn w); have ST15 := Lib.hid hst9; have HO9 := Lib.hid ho9; have HG9 := Lib.hid hg9; clear hst9 ho9 hg9; have HB9a := Lib.hid ((Below.refl (w901.alloc (.cells m.cs.toArray 26)).heap.size (((w902.setCell ⟨w901.heap.size, 32, none⟩ (.slice (some ⟨g8, 0, none⟩) nl c8)).alloc (.cells (KLn.cs x).toArray 35)).setCell ⟨(w902.setCell ⟨w901.heap.size, 32, none⟩ (.slice (some ⟨g8, 0, none⟩) nl c8)).heap.size, 18, none⟩ (.slice x.A 0 x.c))).grown HG9.out (Nat.le_of_lt (Nat.lt_of_le_of_lt (own_base O87.out rfl) ((O87.out.lt _ rfl).2))) (fun k hk => own_base O87.out hk)); have HB915 := Lib.hid (hs95.out.trans ((hs97.out.mono hs95.out.size).trans (HB9a.out.mono (by rw [World.size_alloc]; omega)))); have B531 := Lib.hid (B511.out.trans (HB915.out.mono B511.out.size)); have T532 := Lib.hid (T507.out.below HB915.out T507.out.lt); have T533 := Lib.hid (T508.out.below HB915.out T508.out.lt); have T534 := Lib.hid (N7.out.below HB915.out N7.out.lt); have F535 := Lib.hid (F509.out.below HB915.out (Nat.le_refl _)); have F536 := Lib.hid (F510.out.below HB915.out (Nat.le_refl _)); have F537 := Lib.hid (K7.out.below HB915.out (Nat.le_refl _)); have EL9 := Lib.hid (show (m.ls.take N ++ [x9]).length = nl by rw [List.length_append, List.length_take, HNL.out]; have := HN1.out; simp only [List.length_singleton]; omega); have N8w := Lib.hid (T525.out.below HB9a.out (by rw [World.size_alloc]; omega)); rw [← hm8] at N8w; have N95 := Lib.hid (show RowAt 26 w905 w901.heap.size (MnA.cs ⟨m.base, some ⟨g8, 0, none⟩, c8, m.ls.take N ++ [x9]⟩).toArray from by have h := N8w.out; unfold MnA.cs at h ⊢; dsimp only at h ⊢; rw [EL9.out]; rw [HNL.out] at h; exact h); have K95 := Lib.hid (show MnA.Ok w905 ⟨m.base, some ⟨g8, 0, none⟩, c8, m.ls.take N ++ [x9]⟩ from ⟨HM32.out, HMB.out, Kind.row_own (K := KLn) (te := 35) (base := (w901.alloc (.cells m.cs.toArray 26)).heap.size) (by rw [EL9.out]; exact HO9.out) (fun y hy => by rcases List.mem_append.1 hy with h | h; exact LnA.below (HROW.out.2.2.2.2 y (List.mem_of_mem_take h)) B531.out; rw [List.mem_singleton.1 h]; exact LnA.below OK9.out B531.out)⟩); have V95 := Lib.hid (show mmay (MnA.m ⟨m.base, some ⟨g8, 0, none⟩, c8, m.ls.take N ++ [x9]⟩) = true from by rw [← hx9]; exact HEN8.out _ _ _ _); obtain ⟨m9, hm9⟩ : ∃ q, (⟨m.base, some ⟨g8, 0, none⟩, c8, m.ls.take N ++ [x9]⟩ : MnA) = q := ⟨_, rfl⟩; rw [hm9] at N95 K95 V95; clear hm9; have L95 := Lib.hid (MnA.len K95.out); have M538 := Lib.hid (T533.out.mn L504.out)) | ((with_reducible refine wpList_store_run (o := ⟨none, .store 24 (.tmp 56) (.tmp 55), _, _, _, _⟩) ?e1 24 (.tmp 56) (.tmp 55) ?e2 ⟨w901.heap.size, 32, none⟩ _ ?e3 ?e4 ST8.out ?_); (case e1 => rfl); (case e2 => rfl); (case e3 => (first | rfl | exact congrArg (fun q => Value.pointer (some ⟨q, 32, none⟩)) (World.size_alloc _ _).symm)); (case e4 => rfl); generalize (w902.setCell ⟨w901.heap.size, 32, none⟩ (.slice (some ⟨g8, 0, none⟩) nl c8)) = w903 at *) | ((with_reducible refine wpList_load_at (o := ⟨some 62, .load 35 (.tmp 61), _, _, _, _⟩) ?e1 35 (.tmp 61) ?e2 ⟨b9, off9 + N * 19, none⟩ ?e3 _ L62.out ?_); (case e1 => rfl); (case e2 => rfl); (case e3 => rfl)) | ((with_reducible refine wpList_store_new (o := ⟨none, .store 35 (.tmp 9) (.tmp 62), _, _, _, _⟩) ?e1 35 (.tmp 9) (.tmp 62) ?e2 ?e3 (KLn.cs lnA0).toArray (KLn.cs x).toArray ?e4 SZ9.out SQ9.out SO9.out ?_); (case e1 => rfl); (case e2 => rfl); (case e3 => (first | rfl | exact congrArg (fun q => Value.pointer (some ⟨q, 0, none⟩)) (World.size_alloc _ _).symm)); (case e4 => rfl)) | ((with_reducible refine wpList_neqM (o := ⟨some 76, .binOp .neq 32 (.tmp 74) (.tmp 75) 32, _, _, _, _⟩) ?e1 32 (.tmp 74) (.tmp 75) 32 ?e2 ?e3 ?e4 guardStM (HEQ.out _) ?_); (case e1 => rfl); (case e2 => rfl); (case e3 => rfl); (case e4 => rfl)) | ((with_reducible refine wpList_store_run (o := ⟨none, .store 33 (.tmp 86) (.tmp 85), _, _, _, _⟩) ?e1 33 (.tmp 86) (.tmp 85) ?e2 ⟨w903.heap.size, 18, none⟩ _ ?e3 ?e4 ST9.out ?_); (case e1 => rfl); (case e2 => rfl); (case e3 => (first | rfl | exact congrArg (fun q => Value.pointer (some ⟨q, 18, none⟩)) (World.size_alloc _ _).symm)); (case e4 => rfl); generalize ((w903.alloc (.cells (KLn.cs x).toArray 35)).setCell ⟨w903.heap.size, 18, none⟩ (.slice x.A 0 x.c)) = w904 at *) | ((with_reducible refine wpList_load_at (o := ⟨some 91, .load 35 (.tmp 9), _, _, _, _⟩) ?e1 35 (.tmp 9) ?e2 ⟨w903.heap.size, 0, none⟩ ?e3 _ L91.out ?_); (case e1 => rfl); (case e2 => rfl); (case e3 => rfl)) | ((with_reducible refine wpList_store_run (o := ⟨none, .store 35 (.tmp 92) (.tmp 91), _, _, _, _⟩) ?e1 35 (.tmp 92) (.tmp 91) ?e2 ⟨g8, N * KLn.n, none⟩ (KLn.v x9) ?e3 ?e4 ST15.out ?_); (case e1 => rfl); (case e2 => rfl); (case e3 => (first | rfl | exact congrArg (fun q => Value.pointer (some ⟨g8, q, none⟩)) (Nat.zero_add _))); (case e4 => rfl)) | ((with_reducible refine wpList_load_at (o := ⟨some 93, .load 26 (.tmp 6), _, _, _, _⟩) ?e1 26 (.tmp 6) ?e2 ⟨b6, 0, none⟩ ?e3 _ M538.out ?_); (case e1 => rfl); (case e2 => rfl); (case e3 => rfl)) | fail)
  clear c57 ix61 l16 l17 l18 c54 C32 SLU hsub c88 ix92 sle hsub2
  have C539 := Lib.hid ((show Calls Tryz.prog 6 #[.agg m6.cs.toArray] w905 fun e w' => e = .returned (.bool (mmay m6.m)) ∧ Below (w905).heap.size w905 w' from pmay12_any m6 w905 F536.out))
  rw [V6.out] at C539
  refine C539.out.mono ?_
  rintro e w540 ⟨rfl, hb541⟩
  have T542 := Lib.hid (T532.out.below hb541 T532.out.lt)
  have T543 := Lib.hid (T533.out.below hb541 T533.out.lt)
  have T544 := Lib.hid (T534.out.below hb541 T534.out.lt)
  have T545 := Lib.hid (N95.out.below hb541 N95.out.lt)
  have F546 := Lib.hid (F535.out.below hb541 (Nat.le_refl _))
  have F547 := Lib.hid (F536.out.below hb541 (Nat.le_refl _))
  have F548 := Lib.hid (F537.out.below hb541 (Nat.le_refl _))
  have F549 := Lib.hid (K95.out.below hb541 (Nat.le_refl _))
  have B550 := Lib.hid (B531.out.trans (hb541.mono B531.out.size))
  clear hb541
  have M551 := Lib.hid (T544.out.mn L512.out)
  have C552 := Lib.hid ((show Calls Tryz.prog 6 #[.agg m7.cs.toArray] w540 fun e w' => e = .returned (.bool (mmay m7.m)) ∧ Below (w540).heap.size w540 w' from pmay12_any m7 w540 F548.out))
  rw [V7.out] at C552
  go_wp2_with (first | ((with_reducible refine wpList_load_at (o := ⟨some 97, .load 26 (.tmp 7), _, _, _, _⟩) ?e1 26 (.tmp 7) ?e2 ⟨w900.heap.size, 0, none⟩ ?e3 _ M551.out ?_); (case e1 => rfl); (case e2 => rfl); (case e3 => rfl)))
  refine C552.out.mono ?_
  rintro e w553 ⟨rfl, hb554⟩
  have T555 := Lib.hid (T542.out.below hb554 T542.out.lt)
  have T556 := Lib.hid (T543.out.below hb554 T543.out.lt)
  have T557 := Lib.hid (T544.out.below hb554 T544.out.lt)
  have T558 := Lib.hid (T545.out.below hb554 T545.out.lt)
  have F559 := Lib.hid (F546.out.below hb554 (Nat.le_refl _))
  have F560 := Lib.hid (F547.out.below hb554 (Nat.le_refl _))
  have F561 := Lib.hid (F548.out.below hb554 (Nat.le_refl _))
  have F562 := Lib.hid (F549.out.below hb554 (Nat.le_refl _))
  have B563 := Lib.hid (B550.out.trans (hb554.mono B550.out.size))
  clear hb554
  have M564 := Lib.hid (T558.out.mn L95.out)
  have C565 := Lib.hid ((show Calls Tryz.prog 6 #[.agg m9.cs.toArray] w553 fun e w' => e = .returned (.bool (mmay m9.m)) ∧ Below (w553).heap.size w553 w' from pmay12_any m9 w553 F562.out))
  rw [V95.out] at C565
  go_wp2_with (first | ((with_reducible refine wpList_load_at (o := ⟨some 101, .load 26 (.tmp 8), _, _, _, _⟩) ?e1 26 (.tmp 8) ?e2 ⟨w901.heap.size, 0, none⟩ ?e3 _ M564.out ?_); (case e1 => rfl); (case e2 => rfl); (case e3 => rfl)))
  refine C565.out.mono ?_
  rintro e w566 ⟨rfl, hb567⟩
  have T568 := Lib.hid (T555.out.below hb567 T555.out.lt)
  have T569 := Lib.hid (T556.out.below hb567 T556.out.lt)
  have T570 := Lib.hid (T557.out.below hb567 T557.out.lt)
  have T571 := Lib.hid (T558.out.below hb567 T558.out.lt)
  have F572 := Lib.hid (F559.out.below hb567 (Nat.le_refl _))
  have F573 := Lib.hid (F560.out.below hb567 (Nat.le_refl _))
  have F574 := Lib.hid (F561.out.below hb567 (Nat.le_refl _))
  have F575 := Lib.hid (F562.out.below hb567 (Nat.le_refl _))
  have B576 := Lib.hid (B563.out.trans (hb567.mono B563.out.size))
  clear hb567
  have c106 := MnAt.c32 (show MnAt w566 w.heap.size m from T568.out) HM32.out
  rw [HNL.out] at c106
  have t10 : (nl : Int) ≤ 10 := by have := HL10.out; omega
  go_wp2
  go_ret
  exact ⟨rfl, B576.out⟩
set_option maxHeartbeats 16000000 in
theorem mfw_someA (m : MnA) (w : World) (hlaid : Laid w) (wm : m.Ok w) (N : Nat) (ne kk : Nat) (hk : ne = kk + 1) (hk0 : 0 < kk) (p : mfew m.m = true) (q : mmay m.m = true) (r : m.ls.length = N + 1) (en : (m.ls.getD N lnA0).es.length = ne) :
  Calls Tryz.prog 3 #[.agg m.cs.toArray] w fun e w' => e = .returned (.bool true) ∧ Below w.heap.size w w' := by
 have HLA := Lib.hid (fun (X : World) (hX : Below w.heap.size w X) => hlaid.below hX (Nat.le_refl _))
 have Fm := Lib.hid wm
 have LM := Lib.hid (MnA.len wm)
 have HM32 := Lib.hid wm.1
 obtain ⟨nl, hnl⟩ : ∃ n, m.ls.length = n := ⟨_, rfl⟩
 have HNL := Lib.hid hnl
 have hnb : nl ≤ 9223372036854775807 := by
  have a1 := wm.2.2.1
  have a2 := wm.2.2.2.1
  simp only [maxLen] at a2
  omega
 have HNE := Lib.hid en
 have t2 : (1 : Int) < (ne : Int) := by omega
 have HSUB2 := Lib.hid (show IntKind.i64.wrap ((ne : Int) - 1) = kk by rw [IntKind.wrap_i64]; have h8 := (Kind.row_ok wm.2.2 (show N < m.ls.length by omega)).2.2.2.2.1; have h9 := (Kind.row_ok wm.2.2 (show N < m.ls.length by omega)).2.2.2.2.2.1; simp only [maxLen] at h9; change (m.ls.getD N lnA0).es.length ≤ (m.ls.getD N lnA0).c at h8; change (m.ls.getD N lnA0).c ≤ _ at h9; omega)
 have HSLE := Lib.hid (fun X : World => slice_upto (P := Tryz.prog) (ts := 33) Tryz.underlying33 (fun w => sizeEn w) (m.ls.getD N lnA0).A ne (m.ls.getD N lnA0).c kk (by have h8 := (show LnA.Ok w (m.ls.getD N lnA0) from Kind.row_ok wm.2.2 (show N < m.ls.length by omega)).2.2.2.2.1; omega) (kk : Int) rfl X)
 have HEN8 := Lib.hid (fun (A B : Option Addr) (c d : Nat) => mmay_entryA r q (k := kk) (en.trans hk) (.inl hk0) A B c d)
 have HTK := Lib.hid (show ((m.ls.getD N lnA0).es.take kk).length = kk by rw [List.length_take, en]; omega)
 have HSN := Lib.hid (snoc_getD (d := lnA0) r)
 have hbs : ∀ w : World, (Instr.build 32 #[]).run Tryz.prog w = .ok (.agg #[.int .i64 0, .int .i64 0]) w := fun w => run_build w _ _ _ (by kernel_rfl)
 have PM := Lib.hid p
 have PV := Lib.hid q
 have h1 : nl = N + 1 := hnl.symm.trans r
 have t1 : ¬ (nl : Int) = 0 := by omega
 have HPOS := Lib.hid (show 0 < nl by omega)
 have HSUB := Lib.hid (show IntKind.i64.wrap ((nl : Int) - 1) = N by rw [IntKind.wrap_i64]; omega)
 have HLT := Lib.hid (show N < m.ls.length by omega)
 have HN1 := Lib.hid h1
 have HR := Lib.hid (fun h0 => ln_row wm.2.2 h0)
 have HROW := Lib.hid wm.2.2
 have HMB := Lib.hid wm.2.1
 have HL10 := Lib.hid (show nl ≤ 10 by have h8 := mmay_size q; rw [show m.m.ls = m.ls.map (·.x) from rfl, List.length_map] at h8; omega)
 have HWM := Lib.hid wm
 have HTW := Lib.hid (fun (A : Option Addr) (c : Nat) => mmay_twiceA r A c)
 have HLS7 := Lib.hid (fun (A : Option Addr) (c : Nat) => mmay_lessA r q A c)
 have HSLU := Lib.hid (fun X : World => slice_upto (P := Tryz.prog) (ts := 24) Tryz.underlying24 (fun w => sizeLn w) m.A nl m.c N (by have h8 := wm.2.2.1; omega) (N : Int) rfl X)
 have HXO := Lib.hid (show LnA.Ok w (m.ls.getD N lnA0) from Kind.row_ok wm.2.2 HLT.out)
 have hzm := zeroMn
 rw [show mnA0.v = .agg mnA0.cs.toArray from rfl] at hzm
 have hzl := zeroLn
 rw [show KLn.v lnA0 = .agg (KLn.cs lnA0).toArray from rfl] at hzl
 have hzne : ¬ mnA0.cs.toArray = #[] := by decide
 have hzne3 : ¬ (KLn.cs lnA0).toArray = #[] := by decide
 clear hlaid wm p q r hnl h1 en hk hk0
 have B1 := Lib.hid (Below.refl w.heap.size w)
 have T2n := RowAt.new w m.cs.toArray 26
 have T2 := Lib.hid T2n
 clear T2n
 have B3 := Lib.hid (B1.out.alloc B1.out.size (.cells m.cs.toArray 26))
 have F4 := Lib.hid (Fm.out.below B3.out (Nat.le_refl _))
 go_enter Tryz.func3, Tryz.ntmps3
 have C5 := Lib.hid (mnAwake (w.alloc (.cells m.cs.toArray 26)) (HLA.out _ B3.out))
 go_wp2_with fail
 refine C5.out.mono ?_
 rintro e w6 ⟨rfl, hb7⟩
 have T8 := Lib.hid (T2.out.below hb7 T2.out.lt)
 have F9 := Lib.hid (F4.out.below hb7 (Nat.le_refl _))
 have B10 := Lib.hid (B3.out.trans (hb7.mono B3.out.size))
 clear hb7
 have M11 := Lib.hid (T8.out.mn LM.out)
 have C12 := Lib.hid (rfew12_any m w6 F9.out)
 rw [PM.out] at C12
 go_wp2_with (first | ((with_reducible refine wpList_load_at (o := ⟨some 11, .load 26 (.tmp 1), _, _, _, _⟩) ?e1 26 (.tmp 1) ?e2 ⟨w.heap.size, 0, none⟩ ?e3 _ M11.out ?_); (case e1 => rfl); (case e2 => rfl); (case e3 => rfl)))
 refine C12.out.mono ?_
 rintro e w13 ⟨rfl, hb14⟩
 have T15 := Lib.hid (T8.out.below hb14 T8.out.lt)
 have F16 := Lib.hid (F9.out.below hb14 (Nat.le_refl _))
 have B17 := Lib.hid (B10.out.trans (hb14.mono B10.out.size))
 clear hb14
 have c32 := MnAt.c32 (show MnAt w13 w.heap.size m from T15.out) HM32.out
 rw [HNL.out] at c32
 have M18 := Lib.hid (T15.out.mn LM.out)
 have C19 := Lib.hid (pmay12_any m w13 F16.out)
 rw [PV.out] at C19
 go_wp2_with (first | ((with_reducible refine wpList_load_at (o := ⟨some 23, .load 26 (.tmp 1), _, _, _, _⟩) ?e1 26 (.tmp 1) ?e2 ⟨w.heap.size, 0, none⟩ ?e3 _ M18.out ?_); (case e1 => rfl); (case e2 => rfl); (case e3 => rfl)))
 refine C19.out.mono ?_
 rintro e w20 ⟨rfl, hb21⟩
 have T22 := Lib.hid (T15.out.below hb21 T15.out.lt)
 have F23 := Lib.hid (F16.out.below hb21 (Nat.le_refl _))
 have B24 := Lib.hid (B17.out.trans (hb21.mono B17.out.size))
 clear hb21
 clear c32
 have M25 := Lib.hid (T22.out.mn LM.out)
 have hb1 := Lib.hid T22.out.lt
 have hb6 := Lib.hid B24.out.size
 have SZ25 := Lib.hid (mn_size F23.out)
 have SQ25 := Lib.hid (show mnA0.cs.toArray.size = m.cs.toArray.size by rw [mnA0_size, List.size_toArray]; exact (MnA.len F23.out).symm)
 have SO25 := Lib.hid (mn_ones m)
 have L27 := Lib.hid (MnA.len F23.out)
 have hb28 := (Below.refl w20.heap.size w20).alloc (Nat.le_refl _) (.cells m.cs.toArray 26)
 have T29 := Lib.hid (RowAt.new w20 m.cs.toArray 26)
 have T30 := Lib.hid (T22.out.below hb28 T22.out.lt)
 have F31 := Lib.hid (F23.out.below hb28 (Nat.le_refl _))
 have F32 := Lib.hid (F23.out.below hb28 (Nat.le_refl _))
 have B33 := Lib.hid (B24.out.trans (hb28.mono B24.out.size))
 clear hb28
 have T1' := Lib.hid T30.out
 have T6' := Lib.hid T29.out
 have HB1 := Lib.hid B33.out
 go_wp2_with (first | ((with_reducible refine wpList_load_at (o := ⟨some 32, .load 26 (.tmp 1), _, _, _, _⟩) ?e1 26 (.tmp 1) ?e2 ⟨w.heap.size, 0, none⟩ ?e3 _ M25.out ?_); (case e1 => rfl); (case e2 => rfl); (case e3 => rfl)) | ((with_reducible refine wpList_store_new (o := ⟨none, .store 26 (.tmp 6) (.tmp 32), _, _, _, _⟩) ?e1 26 (.tmp 6) (.tmp 32) ?e2 ?e3 mnA0.cs.toArray m.cs.toArray ?e4 SZ25.out SQ25.out SO25.out ?_); (case e1 => rfl); (case e2 => rfl); (case e3 => (first | rfl | exact congrArg (fun q => Value.pointer (some ⟨q, 0, none⟩)) (World.size_alloc _ _).symm)); (case e4 => rfl)))
 generalize ((w20.alloc (.cells m.cs.toArray 26))) = w1 at *
 generalize hq6 : w20.heap.size = b6 at *
 have Q6 := Lib.hid hq6
 have FC32 := Lib.hid (fun X (hX : Below b6 w1 X) => MnAt.c32 (show MnAt X w.heap.size m from T1'.out.below hX hb1.out) HM32.out)
 rw [HNL.out] at FC32
 have BW := Lib.hid (fun X (hX : Below b6 w1 X) => HB1.out.trans (hX.mono hb6.out))
 obtain ⟨b9, off9, hA9, hb9w, hx9, hi9⟩ := HR.out (by rw [HNL.out]; exact HPOS.out)
 have IX := Lib.hid (hi9 N HLT.out N rfl)
 rw [← hA9, HNL.out] at IX
 have FLN := Lib.hid (fun X (hX : Below b6 w1 X) => Kind.at_same (hx9 N HLT.out) ((BW.out X hX).block b9 hb9w))
 have HFL := Lib.hid (fun X (hX : Below w.heap.size w X) => Kind.at_same (hx9 N HLT.out) (hX.block b9 hb9w))
 have HRW := Lib.hid (fun X (hX : Below b6 w1 X) => show KLn.row X m.A m.c m.ls from Kind.row_below HROW.out (BW.out X hX) (Nat.le_refl _))
 clear hx9 hi9 hA9 hb9w hq6
 generalize m.ls.getD N lnA0 = x at *
 have HB6 := Lib.hid (Nat.le_of_lt T6'.out.lt)
 have XOK := Lib.hid (fun X (hX : Below b6 w1 X) => LnA.below HXO.out (BW.out X hX))
 have YL := Lib.hid (LnA.len HXO.out)
 have HZX := Lib.hid HXO.out.1
 refine wp_region_held_drew (S := fun X => Below b6 w1 X) (by kernel_rfl) (((Below.refl _ _).drew).mono (Nat.le_of_lt T6'.out.lt)) (fun hS => ?_)
 have S0 := Lib.hid hS
 have G0 := Lib.hid ((Below.refl w1.heap.size w1).drew)
 generalize World.drew _ = X0 at *
 refine wpHv (i := 0) (oi := ⟨some 33, _, _, _, _, _⟩) (v := ?_) rfl ?_ hS ?_; rotate_left; (focus (intro w9 hSw; go_simp; try with_reducible rfl)); simp only [Act.put, Z2, Z3, Z4]
 refine wpHv (i := 1) (oi := ⟨some 34, _, _, _, _, _⟩) (v := ?_) rfl ?_ hS ?_; rotate_left; (focus (intro w9 hSw; have q0 := FC32.out w9 hSw; go_simp; try with_reducible rfl)); simp only [Act.put, Z2, Z3, Z4]
 refine wpHv (i := 3) (oi := ⟨some 36, _, _, _, _, _⟩) (v := ?_) rfl ?_ hS ?_; rotate_left; (focus (intro w9 hSw; go_simp; try with_reducible rfl)); simp only [Act.put, Z2, Z3, Z4]
 refine wpHv (i := 4) (oi := ⟨some 37, _, _, _, _, _⟩) (v := ?_) rfl ?_ hS ?_; rotate_left; (focus (intro w9 hSw; have q0 := FC32.out w9 hSw; go_simp; try with_reducible rfl)); simp only [Act.put, Z2, Z3, Z4]
 refine wpHv (i := 5) (oi := ⟨some 38, _, _, _, _, _⟩) (v := ?_) rfl ?_ hS ?_; rotate_left; (focus (intro w9 hSw; go_simp; try with_reducible rfl)); simp only [Act.put, Z2, Z3, Z4]
 refine wpHv (i := 6) (oi := ⟨some 39, _, _, _, _, _⟩) (v := (.int .i64 N)) rfl ?_ hS ?_; (focus (intro w9 hSw; first | (go_simp; done) | (go_simp; omega) | (go_simp; exact HSUB.out) | (go_simp; rw [HSUB.out]))); simp only [Act.put, Z2, Z3, Z4]
 refine wpHv (i := 7) (oi := ⟨some 40, _, _, _, _, _⟩) (v := ?_) rfl ?_ hS ?_; rotate_left; (focus (intro w9 hSw; have q0 := IX.out w9; go_simp; try with_reducible rfl)); simp only [Act.put, Z2, Z3, Z4]
 refine wpHv (i := 8) (oi := ⟨some 41, _, _, _, _, _⟩) (v := (.agg (KLn.cs x).toArray)) rfl ?_ hS ?_; (focus (intro w9 hSw; exact exec_load_at 35 _ rfl _ rfl (load_lnL (FLN.out w9 hSw) YL.out))); simp only [Act.put, Z2, Z3, Z4]
 refine wpAnyH_ready (rs := [2, 9]) (by kernel_rfl) (by simp) (AllReadyH.cons (o := ⟨some 35, _, _, _, _, _⟩) rfl (fun K hK => ?_) (AllReadyH.cons (o := ⟨some 42, _, _, _, _, _⟩) rfl (fun K hK => ?_) AllReadyH.nil))
 ·obtain ⟨i0, hi, hz0, hz1, hz2⟩ := info_parts infoLn
  refine step_append_rowK (K := KLn) (o := ⟨some 35, _, _, _, _, _⟩) rfl _ _ 24 rfl w1.heap.size 35 i0 _ 56 Tryz.underlying24 hi hz0 hz1 hz2 (by decide) (by decide) (.slice none 0 0) 0 [] rfl (World.ownsRow_nil _ _ _ _) m.A nl m.c m.ls rfl (HRW.out _ (G0.out.mono HB6.out)) HNL.out HPOS.out (by have := HL10.out; omega) G0.out.size ?_
  intro v1 X1 ho1 hg1
  rw [Nat.zero_add, List.nil_append] at ho1
  have O1 := Lib.hid ho1
  have G1 := Lib.hid (G0.out.grown hg1 G0.out.size (by intro k hk; cases hk))
  refine hK.out _ _ (G1.out.mono HB6.out) (fun hS => ?_)
  clear hK K
  try simp only [Act.put, Z2, Z3, Z4]
  refine wpAnyH_ready (rs := [9]) (by kernel_rfl) (by simp) (AllReadyH.cons (o := ⟨some 42, _, _, _, _, _⟩) rfl (fun K hK => ?_) AllReadyH.nil)
  refine step_bsliceK (K := KLn) rfl (.tmp 41) rfl x rfl YL.out Tryz.underlying24 sizeLn zeroLn nLn ?_
  have G2 := Lib.hid (G1.out.alloc G1.out.size (.cells (KLn.cs x).toArray 35))
  have R2 := Lib.hid (row_one (K := KLn) (x := x) (X := X1) (te := 35) YL.out (XOK.out _ (G2.out.mono HB6.out)))
  have O2 := Lib.hid (O1.out.alloc (.cells (KLn.cs x).toArray 35))
  refine hK.out _ _ (G2.out.mono HB6.out) (fun hS => ?_)
  clear hK K
  try simp only [Act.put, Z2, Z3, Z4]
  refine wpAnyH_ready (rs := [10]) (by kernel_rfl) (by simp) (AllReadyH.cons (o := ⟨some 43, _, _, _, _, _⟩) rfl (fun K hK => ?_) AllReadyH.nil)
  obtain ⟨i0, hi, hz0, hz1, hz2⟩ := info_parts infoLn
  refine step_append_rowK (K := KLn) (o := ⟨some 43, _, _, _, _, _⟩) rfl _ _ 24 rfl w1.heap.size 35 i0 _ 56 Tryz.underlying24 hi hz0 hz1 hz2 (by decide) (by decide) v1 nl m.ls rfl O2.out (some ⟨X1.heap.size, 0, none⟩) 1 1 [x] rfl R2.out rfl (by decide) (by have := HL10.out; omega) G2.out.size ?_
  intro v3 X3 ho3 hg3
  have G3 := Lib.hid (G2.out.grown hg3 G2.out.size (fun k hk => own_base O2.out hk))
  obtain ⟨g6, c6, rfl⟩ := ownsRow_succ ho3
  have O3 := Lib.hid ho3
  clear ho3 hg3
  refine hK.out _ _ (G3.out.mono HB6.out) (fun hS => ?_)
  clear hK K
  try simp only [Act.put, Z2, Z3, Z4]
  refine wpHv (i := 11) (oi := ⟨some 44, _, _, _, _, _⟩) (v := ?_) rfl ?_ hS ?_; rotate_left; (focus (intro w9 hSw; go_simp; try with_reducible rfl)); simp only [Act.put, Z2, Z3, Z4]
  refine wpAnyH_ready (rs := [12]) (by kernel_rfl) (by simp) (AllReadyH.cons (o := ⟨none, _, _, _, _, _⟩) rfl (fun K hK => ?_) AllReadyH.nil)
  have g0 := MnAt.c32 (show MnAt X3 b6 m from T6'.out.below G3.out T6'.out.lt) HM32.out
  have gf : X3.frozen? ⟨b6, 32, none⟩ = false := frozen_of_row _ _ _ _ _ (T6'.out.below G3.out T6'.out.lt)
  have SX := Lib.hid (Below.setCell (p := ⟨b6, 32, none⟩) (G3.out.mono HB6.out) (Nat.le_refl _) (.slice (some ⟨g6, 0, none⟩) (nl + 1) c6))
  go_simp
  refine hK.out _ _ SX.out (fun hS => ?_)
  clear hK K g0 gf
  refine wpAnyH_done (by kernel_rfl) ?_ _
  have E1 := Lib.hid (show (m.ls ++ [x]).length = nl + 1 by rw [List.length_append, HNL.out]; rfl)
  have M6 := Lib.hid (mn_set (T6'.out.below G3.out T6'.out.lt) HM32.out (some ⟨g6, 0, none⟩) c6 (m.ls ++ [x]))
  rw [E1.out] at M6
  have K6 := Lib.hid (show MnA.Ok (X3.setCell ⟨b6, 32, none⟩ (.slice (some ⟨g6, 0, none⟩) (nl + 1) c6)) ⟨m.base, some ⟨g6, 0, none⟩, c6, m.ls ++ [x]⟩ from ⟨HM32.out, HMB.out, Kind.row_own (K := KLn) (te := 35) (base := w1.heap.size) (by rw [E1.out]; exact ownsRow_setCell_other O3.out (by intro h; have h1 := own_base O3.out h; have h2 := T6'.out.lt; simp only at h1; omega) _) (fun y hy => by
   rcases List.mem_append.1 hy with h | h
   ·exact LnA.below (HROW.out.2.2.2.2 y h) (BW.out _ SX.out)
   ·rw [List.mem_singleton.1 h]; exact XOK.out _ SX.out)⟩)
  generalize X3.setCell ⟨b6, 32, none⟩ (.slice (some ⟨g6, 0, none⟩) (nl + 1) c6) = w900 at *
  obtain ⟨m6, hm6⟩ : ∃ q, (⟨m.base, some ⟨g6, 0, none⟩, c6, m.ls ++ [x]⟩ : MnA) = q := ⟨_, rfl⟩
  rw [hm6] at M6 K6
  have V6 := Lib.hid (show mmay m6.m = false from by rw [← hm6]; exact HTW.out _ _)
  clear hm6
  have B501 := Lib.hid (BW.out _ SX.out)
  have T502 := Lib.hid (T1'.out.below SX.out hb1.out)
  have F503 := Lib.hid ((show MnA.Ok w m from HWM.out).below (BW.out _ SX.out) (Nat.le_refl _))
  have L504 := Lib.hid (MnA.len K6.out)
  clear SX
  have M505 := Lib.hid (T502.out.mn LM.out)
  have SZ505 := Lib.hid (mn_size F503.out)
  have SQ505 := Lib.hid (show mnA0.cs.toArray.size = m.cs.toArray.size by rw [mnA0_size, List.size_toArray]; exact (MnA.len F503.out).symm)
  have SO505 := Lib.hid (mn_ones m)
  have D7 := Lib.hid (RowAt.new w900 m.cs.toArray 26)
  have C32 := MnAt.c32 (show MnAt (w900.alloc (.cells m.cs.toArray 26)) w.heap.size m from T502.out.old (.cells m.cs.toArray 26)) HM32.out
  rw [HNL.out] at C32
  have SLU := HSLU.out (w900.alloc (.cells m.cs.toArray 26))
  have hsub := HSUB.out
  have ET := Lib.hid (show (m.ls.take N).length = N by rw [List.length_take, HNL.out]; have := HN1.out; omega)
  have N7 := Lib.hid (mn_set D7.out HM32.out m.A m.c (m.ls.take N))
  rw [ET.out] at N7
  have hb501 := ((Below.refl w900.heap.size w900).alloc (Nat.le_refl _) (.cells m.cs.toArray 26)).setCell (p := ⟨w900.heap.size, 32, none⟩) (Nat.le_refl _) (.slice m.A N m.c)
  have ST7 := Lib.hid (store_mnL D7.out HM32.out m.A N m.c)
  have T507 := Lib.hid (T502.out.below hb501 T502.out.lt)
  have T508 := Lib.hid (M6.out.below hb501 M6.out.lt)
  have F509 := Lib.hid (F503.out.below hb501 (Nat.le_refl _))
  have F510 := Lib.hid (K6.out.below hb501 (Nat.le_refl _))
  have B511 := Lib.hid (B501.out.trans (hb501.mono B501.out.size))
  clear hb501
  obtain ⟨m7, hm7⟩ : ∃ q, (⟨m.base, m.A, m.c, m.ls.take N⟩ : MnA) = q := ⟨_, rfl⟩
  rw [hm7] at N7
  have K7 := Lib.hid (show MnA.Ok ((w900.alloc (.cells m.cs.toArray 26)).setCell ⟨w900.heap.size, 32, none⟩ (.slice m.A N m.c)) m7 from by rw [← hm7]; exact ⟨HM32.out, HMB.out, Kind.row_take F509.out.2.2 N⟩)
  have V7 := Lib.hid (show mmay m7.m = true from by rw [← hm7]; exact HLS7.out _ _)
  clear hm7
  have L512 := Lib.hid (MnA.len K7.out)
  have M513 := Lib.hid (T507.out.mn LM.out)
  have SZ513 := Lib.hid (mn_size F509.out)
  have SQ513 := Lib.hid (show mnA0.cs.toArray.size = m.cs.toArray.size by rw [mnA0_size, List.size_toArray]; exact (MnA.len F509.out).symm)
  have SO513 := Lib.hid (mn_ones m)
  have D8 := Lib.hid (RowAt.new ((w900.alloc (.cells m.cs.toArray 26)).setCell ⟨w900.heap.size, 32, none⟩ (.slice m.A N m.c)) m.cs.toArray 26)
  have c54 := MnAt.c32 (show MnAt (((w900.alloc (.cells m.cs.toArray 26)).setCell ⟨w900.heap.size, 32, none⟩ (.slice m.A N m.c)).alloc (.cells m.cs.toArray 26)) w.heap.size m from T507.out.old (.cells m.cs.toArray 26)) HM32.out
  rw [HNL.out] at c54
  have HR8 := Lib.hid (Kind.row_below F509.out.2.2 ((Below.refl ((w900.alloc (.cells m.cs.toArray 26)).setCell ⟨w900.heap.size, 32, none⟩ (.slice m.A N m.c)).heap.size ((w900.alloc (.cells m.cs.toArray 26)).setCell ⟨w900.heap.size, 32, none⟩ (.slice m.A N m.c))).alloc (Nat.le_refl _) (.cells m.cs.toArray 26)) (Nat.le_refl _))
  obtain ⟨i0, hi, hz0, hz1, hz2⟩ := info_parts infoLn
  have HI := Lib.hid hi
  have HZ0 := Lib.hid hz0
  have HZ1 := Lib.hid hz1
  have HZ2 := Lib.hid hz2
  clear hi hz0 hz1 hz2
  go_wp2_with (first | ((with_reducible refine wpList_load_at (o := ⟨some 45, .load 26 (.tmp 1), _, _, _, _⟩) ?e1 26 (.tmp 1) ?e2 ⟨w.heap.size, 0, none⟩ ?e3 _ M505.out ?_); (case e1 => rfl); (case e2 => rfl); (case e3 => rfl)) | ((with_reducible refine wpList_store_new (o := ⟨none, .store 26 (.tmp 7) (.tmp 45), _, _, _, _⟩) ?e1 26 (.tmp 7) (.tmp 45) ?e2 ?e3 mnA0.cs.toArray m.cs.toArray ?e4 SZ505.out SQ505.out SO505.out ?_); (case e1 => rfl); (case e2 => rfl); (case e3 => (first | rfl | exact congrArg (fun q => Value.pointer (some ⟨q, 0, none⟩)) (World.size_alloc _ _).symm)); (case e4 => rfl)) | ((with_reducible refine wpList_store_run (o := ⟨none, .store 24 (.tmp 51) (.tmp 50), _, _, _, _⟩) ?e1 24 (.tmp 51) (.tmp 50) ?e2 ⟨w900.heap.size, 32, none⟩ _ ?e3 ?e4 ST7.out ?_); (case e1 => rfl); (case e2 => rfl); (case e3 => (first | rfl | exact congrArg (fun q => Value.pointer (some ⟨q, 32, none⟩)) (World.size_alloc _ _).symm)); (case e4 => rfl); generalize ((w900.alloc (.cells m.cs.toArray 26)).setCell ⟨w900.heap.size, 32, none⟩ (.slice m.A N m.c)) = w901 at *) | ((with_reducible refine wpList_load_at (o := ⟨some 52, .load 26 (.tmp 1), _, _, _, _⟩) ?e1 26 (.tmp 1) ?e2 ⟨w.heap.size, 0, none⟩ ?e3 _ M513.out ?_); (case e1 => rfl); (case e2 => rfl); (case e3 => rfl)) | ((with_reducible refine wpList_store_new (o := ⟨none, .store 26 (.tmp 8) (.tmp 52), _, _, _, _⟩) ?e1 26 (.tmp 8) (.tmp 52) ?e2 ?e3 mnA0.cs.toArray m.cs.toArray ?e4 SZ513.out SQ513.out SO513.out ?_); (case e1 => rfl); (case e2 => rfl); (case e3 => (first | rfl | exact congrArg (fun q => Value.pointer (some ⟨q, 0, none⟩)) (World.size_alloc _ _).symm)); (case e4 => rfl)) | (at_builtin; refine wpList_append_K (K := KLn) _ rfl _ _ 24 rfl (w901.alloc (.cells m.cs.toArray 26)).heap.size 35 i0 _ 56 Tryz.underlying24 HI.out HZ0.out HZ1.out HZ2.out (by decide) (by decide) (.slice none 0 0) 0 [] rfl (World.ownsRow_nil _ _ _ _) m.A nl m.c m.ls rfl HR8.out HNL.out (by have := HL10.out; omega) (Nat.le_refl _) ?_; intro v8 w902 ho8 hg8; rw [Nat.zero_add, List.nil_append] at ho8; obtain ⟨g8, c8, hv8⟩ := ownsRow_succ (k := N) (by rw [← HN1.out]; exact ho8); rw [← HN1.out] at hv8; subst hv8; have O8 := Lib.hid ho8; have hb94 := ((Below.refl w901.heap.size w901).alloc (Nat.le_refl _) (.cells m.cs.toArray 26)).grown hg8 (by rw [World.size_alloc]; omega) (by intro k hk; cases hk); have D8w := Lib.hid (D8.out.below ((Below.refl (w901.alloc (.cells m.cs.toArray 26)).heap.size (w901.alloc (.cells m.cs.toArray 26))).grown hg8 (Nat.le_refl _) (by intro k hk; cases hk)) D8.out.lt); have ST8 := Lib.hid (store_mnL D8w.out HM32.out (some ⟨g8, 0, none⟩) nl c8); have N8 := Lib.hid (mn_set D8w.out HM32.out (some ⟨g8, 0, none⟩) c8 m.ls); rw [HNL.out] at N8; have hb95 := hb94.setCell (p := ⟨w901.heap.size, 32, none⟩) (Nat.le_refl _) (.slice (some ⟨g8, 0, none⟩) nl c8); clear ho8 hb94; have O85 := Lib.hid (ownsRow_setCell_other (a := ⟨w901.heap.size, 32, none⟩) O8.out (by intro h; have h1 := own_base O8.out h; rw [World.size_alloc] at h1; simp only at h1; omega) (.slice (some ⟨g8, 0, none⟩) nl c8)); have hs95 := Lib.hid hb95; have T515 := Lib.hid (T507.out.below hb95 T507.out.lt); have T516 := Lib.hid (T508.out.below hb95 T508.out.lt); have T517 := Lib.hid (N7.out.below hb95 N7.out.lt); have F518 := Lib.hid (F509.out.below hb95 (Nat.le_refl _)); have F519 := Lib.hid (F510.out.below hb95 (Nat.le_refl _)); have F520 := Lib.hid (K7.out.below hb95 (Nat.le_refl _)); have B521 := Lib.hid (B511.out.trans (hb95.mono B511.out.size)); clear hb95; have c57 := MnAt.c32 (show MnAt (w902.setCell ⟨w901.heap.size, 32, none⟩ (.slice (some ⟨g8, 0, none⟩) nl c8)) w.heap.size m from T515.out) HM32.out; rw [HNL.out] at c57; have ix61 := IX.out (w902.setCell ⟨w901.heap.size, 32, none⟩ (.slice (some ⟨g8, 0, none⟩) nl c8)); have L62 := Lib.hid (load_lnL (HFL.out (w902.setCell ⟨w901.heap.size, 32, none⟩ (.slice (some ⟨g8, 0, none⟩) nl c8)) B521.out) YL.out); have SZ9 := Lib.hid (ln_size HXO.out); have SQ9 := Lib.hid (show (KLn.cs lnA0).toArray.size = (KLn.cs x).toArray.size by rw [lnA0_size, List.size_toArray]; exact YL.out.symm); have SO9 := Lib.hid (ln_ones x); have E9 := Lib.hid (RowAt.new (w902.setCell ⟨w901.heap.size, 32, none⟩ (.slice (some ⟨g8, 0, none⟩) nl c8)) (KLn.cs x).toArray 35); have l18 := ln_c18 (Kind.at_blk (K := KLn) (x := x) E9.out) HZX.out; rw [Nat.zero_add, HNE.out] at l18; have l16 := ln_c16 (Kind.at_blk (K := KLn) (x := x) E9.out) HZX.out; rw [Nat.zero_add] at l16; have l17 := ln_c17 (Kind.at_blk (K := KLn) (x := x) E9.out) HZX.out; rw [Nat.zero_add] at l17; obtain ⟨m8, hm8⟩ : ∃ q, (⟨m.base, some ⟨g8, 0, none⟩, c8, m.ls⟩ : MnA) = q := ⟨_, rfl⟩; rw [hm8] at N8; have K8 := Lib.hid (show MnA.Ok (w902.setCell ⟨w901.heap.size, 32, none⟩ (.slice (some ⟨g8, 0, none⟩) nl c8)) m8 from by rw [← hm8]; exact ⟨HM32.out, HMB.out, Kind.row_own (K := KLn) (te := 35) (base := (w901.alloc (.cells m.cs.toArray 26)).heap.size) (by rw [HNL.out]; exact O85.out) (fun y hy => LnA.below (HROW.out.2.2.2.2 y hy) B521.out)⟩); have V8 := Lib.hid (show mmay m8.m = true from by rw [← hm8]; exact PV.out); have L8 := Lib.hid (MnA.len K8.out); have ST9 := Lib.hid (store_lnF E9.out HZX.out x.A kk x.c); have N9 := Lib.hid (ln_set E9.out HZX.out x.A x.c (x.es.take kk)); rw [HTK.out] at N9; obtain ⟨x9, hx9⟩ : ∃ q, (⟨x.z, x.n, x.r, x.A, x.c, x.es.take kk⟩ : LnA) = q := ⟨_, rfl⟩; rw [hx9] at N9; have OK9 := Lib.hid (show LnA.Ok w x9 from by rw [← hx9]; exact ⟨HXO.out.1, HXO.out.2.1, HXO.out.2.2.1, HXO.out.2.2.2.1, Kind.row_take HXO.out.2.2.2.2 kk⟩); have YL9 := Lib.hid (LnA.len OK9.out); have sle := HSLE.out ((w902.setCell ⟨w901.heap.size, 32, none⟩ (.slice (some ⟨g8, 0, none⟩) nl c8)).alloc (.cells (KLn.cs x).toArray 35)); have hsub2 := HSUB2.out; have hb97 := ((Below.refl (w902.setCell ⟨w901.heap.size, 32, none⟩ (.slice (some ⟨g8, 0, none⟩) nl c8)).heap.size (w902.setCell ⟨w901.heap.size, 32, none⟩ (.slice (some ⟨g8, 0, none⟩) nl c8))).alloc (Nat.le_refl _) (.cells (KLn.cs x).toArray 35)).setCell (p := ⟨(w902.setCell ⟨w901.heap.size, 32, none⟩ (.slice (some ⟨g8, 0, none⟩) nl c8)).heap.size, 18, none⟩) (Nat.le_refl _) (.slice x.A kk x.c); have O87 := Lib.hid (ownsRow_setCell_other (a := ⟨(w902.setCell ⟨w901.heap.size, 32, none⟩ (.slice (some ⟨g8, 0, none⟩) nl c8)).heap.size, 18, none⟩) (O85.out.alloc (.cells (KLn.cs x).toArray 35)) (by intro h; have h1 := (O85.out.lt _ h).2; simp only at h1; omega) (.slice x.A kk x.c)); have hs97 := Lib.hid hb97; have T522 := Lib.hid (T515.out.below hb97 T515.out.lt); have T523 := Lib.hid (T516.out.below hb97 T516.out.lt); have T524 := Lib.hid (T517.out.below hb97 T517.out.lt); have T525 := Lib.hid (N8.out.below hb97 N8.out.lt); have F526 := Lib.hid (F518.out.below hb97 (Nat.le_refl _)); have F527 := Lib.hid (F519.out.below hb97 (Nat.le_refl _)); have F528 := Lib.hid (F520.out.below hb97 (Nat.le_refl _)); have F529 := Lib.hid (K8.out.below hb97 (Nat.le_refl _)); have B530 := Lib.hid (B521.out.trans (hb97.mono B521.out.size)); clear hb97; have c88 := MnAt.c32 (show MnAt (((w902.setCell ⟨w901.heap.size, 32, none⟩ (.slice (some ⟨g8, 0, none⟩) nl c8)).alloc (.cells (KLn.cs x).toArray 35)).setCell ⟨(w902.setCell ⟨w901.heap.size, 32, none⟩ (.slice (some ⟨g8, 0, none⟩) nl c8)).heap.size, 18, none⟩ (.slice x.A kk x.c)) w901.heap.size m8 from T525.out) (by rw [← hm8]; exact HM32.out); rw [← hm8] at c88; dsimp only at c88; rw [HNL.out] at c88; have R8 := Lib.hid (show KLn.row (((w902.setCell ⟨w901.heap.size, 32, none⟩ (.slice (some ⟨g8, 0, none⟩) nl c8)).alloc (.cells (KLn.cs x).toArray 35)).setCell ⟨(w902.setCell ⟨w901.heap.size, 32, none⟩ (.slice (some ⟨g8, 0, none⟩) nl c8)).heap.size, 18, none⟩ (.slice x.A kk x.c)) (some ⟨g8, 0, none⟩) c8 m.ls from Kind.row_own (K := KLn) (te := 35) (base := (w901.alloc (.cells m.cs.toArray 26)).heap.size) (by rw [HNL.out]; exact O87.out) (fun y hy => LnA.below (HROW.out.2.2.2.2 y hy) B530.out)); obtain ⟨b8, o8, hA8, hb8w, hx8, hi8⟩ := ln_row R8.out (by rw [HNL.out]; exact HPOS.out); obtain ⟨rfl, rfl⟩ : g8 = b8 ∧ 0 = o8 := (by cases hA8; exact ⟨rfl, rfl⟩); have ix92 := hi8 N HLT.out N rfl (((w902.setCell ⟨w901.heap.size, 32, none⟩ (.slice (some ⟨g8, 0, none⟩) nl c8)).alloc (.cells (KLn.cs x).toArray 35)).setCell ⟨(w902.setCell ⟨w901.heap.size, 32, none⟩ (.slice (some ⟨g8, 0, none⟩) nl c8)).heap.size, 18, none⟩ (.slice x.A kk x.c)); rw [HNL.out] at ix92; clear hi8 hx8 hb8w hA8; have L91 := Lib.hid (load_lnL (Kind.at_blk (K := KLn) (x := x9) N9.out) YL9.out); obtain ⟨w905, hst9, ho9, hg9⟩ := own_putG (K := KLn) (te := 35) (P := Tryz.prog) (base := (w901.alloc (.cells m.cs.toArray 26)).heap.size) (w := (((w902.setCell ⟨w901.heap.size, 32, none⟩ (.slice (some ⟨g8, 0, none⟩) nl c8)).alloc (.cells (KLn.cs x).toArray 35)).setCell ⟨(w902.setCell ⟨w901.heap.size, 32, none⟩ (.slice (some ⟨g8, 0, none⟩) nl c8)).heap.size, 18, none⟩ (.slice x.A kk x.c))) (g := g8) (cap := c8) (n := nl) (a := m.ls.take N) (b := []) (p := x) (q := x9) (k := N) (by rw [List.length_take, HNL.out]; have := HN1.out; omega) (by have h := O87.out; rw [HSN.out] at h; exact h) (fun y hy => LnA.len (HROW.out.2.2.2.2 y (by rw [HSN.out]; exact hy))) YL9.out (fun w => sizeLn w); have ST15 := Lib.hid hst9; have HO9 := Lib.hid ho9; have HG9 := Lib.hid hg9; clear hst9 ho9 hg9; have HB9a := Lib.hid ((Below.refl (w901.alloc (.cells m.cs.toArray 26)).heap.size (((w902.setCell ⟨w901.heap.size, 32, none⟩ (.slice (some ⟨g8, 0, none⟩) nl c8)).alloc (.cells (KLn.cs x).toArray 35)).setCell ⟨(w902.setCell ⟨w901.heap.size, 32, none⟩ (.slice (some ⟨g8, 0, none⟩) nl c8)).heap.size, 18, none⟩ (.slice x.A kk x.c))).grown HG9.out (Nat.le_of_lt (Nat.lt_of_le_of_lt (own_base O87.out rfl) ((O87.out.lt _ rfl).2))) (fun k hk => own_base O87.out hk)); have HB915 := Lib.hid (hs95.out.trans ((hs97.out.mono hs95.out.size).trans (HB9a.out.mono (by rw [World.size_alloc]; omega)))); have B531 := Lib.hid (B511.out.trans (HB915.out.mono B511.out.size)); have T532 := Lib.hid (T507.out.below HB915.out T507.out.lt); have T533 := Lib.hid (T508.out.below HB915.out T508.out.lt); have T534 := Lib.hid (N7.out.below HB915.out N7.out.lt); have F535 := Lib.hid (F509.out.below HB915.out (Nat.le_refl _)); have F536 := Lib.hid (F510.out.below HB915.out (Nat.le_refl _)); have F537 := Lib.hid (K7.out.below HB915.out (Nat.le_refl _)); have EL9 := Lib.hid (show (m.ls.take N ++ [x9]).length = nl by rw [List.length_append, List.length_take, HNL.out]; have := HN1.out; simp only [List.length_singleton]; omega); have N8w := Lib.hid (T525.out.below HB9a.out (by rw [World.size_alloc]; omega)); rw [← hm8] at N8w; have N95 := Lib.hid (show RowAt 26 w905 w901.heap.size (MnA.cs ⟨m.base, some ⟨g8, 0, none⟩, c8, m.ls.take N ++ [x9]⟩).toArray from by have h := N8w.out; unfold MnA.cs at h ⊢; dsimp only at h ⊢; rw [EL9.out]; rw [HNL.out] at h; exact h); have K95 := Lib.hid (show MnA.Ok w905 ⟨m.base, some ⟨g8, 0, none⟩, c8, m.ls.take N ++ [x9]⟩ from ⟨HM32.out, HMB.out, Kind.row_own (K := KLn) (te := 35) (base := (w901.alloc (.cells m.cs.toArray 26)).heap.size) (by rw [EL9.out]; exact HO9.out) (fun y hy => by rcases List.mem_append.1 hy with h | h; exact LnA.below (HROW.out.2.2.2.2 y (List.mem_of_mem_take h)) B531.out; rw [List.mem_singleton.1 h]; exact LnA.below OK9.out B531.out)⟩); have V95 := Lib.hid (show mmay (MnA.m ⟨m.base, some ⟨g8, 0, none⟩, c8, m.ls.take N ++ [x9]⟩) = true from by rw [← hx9]; exact HEN8.out _ _ _ _); obtain ⟨m9, hm9⟩ : ∃ q, (⟨m.base, some ⟨g8, 0, none⟩, c8, m.ls.take N ++ [x9]⟩ : MnA) = q := ⟨_, rfl⟩; rw [hm9] at N95 K95 V95; clear hm9; have L95 := Lib.hid (MnA.len K95.out); have M538 := Lib.hid (T533.out.mn L504.out)) | ((with_reducible refine wpList_store_run (o := ⟨none, .store 24 (.tmp 56) (.tmp 55), _, _, _, _⟩) ?e1 24 (.tmp 56) (.tmp 55) ?e2 ⟨w901.heap.size, 32, none⟩ _ ?e3 ?e4 ST8.out ?_); (case e1 => rfl); (case e2 => rfl); (case e3 => (first | rfl | exact congrArg (fun q => Value.pointer (some ⟨q, 32, none⟩)) (World.size_alloc _ _).symm)); (case e4 => rfl); generalize (w902.setCell ⟨w901.heap.size, 32, none⟩ (.slice (some ⟨g8, 0, none⟩) nl c8)) = w903 at *) | ((with_reducible refine wpList_load_at (o := ⟨some 62, .load 35 (.tmp 61), _, _, _, _⟩) ?e1 35 (.tmp 61) ?e2 ⟨b9, off9 + N * 19, none⟩ ?e3 _ L62.out ?_); (case e1 => rfl); (case e2 => rfl); (case e3 => rfl)) | ((with_reducible refine wpList_store_new (o := ⟨none, .store 35 (.tmp 9) (.tmp 62), _, _, _, _⟩) ?e1 35 (.tmp 9) (.tmp 62) ?e2 ?e3 (KLn.cs lnA0).toArray (KLn.cs x).toArray ?e4 SZ9.out SQ9.out SO9.out ?_); (case e1 => rfl); (case e2 => rfl); (case e3 => (first | rfl | exact congrArg (fun q => Value.pointer (some ⟨q, 0, none⟩)) (World.size_alloc _ _).symm)); (case e4 => rfl)) | ((with_reducible refine wpList_store_run (o := ⟨none, .store 33 (.tmp 86) (.tmp 85), _, _, _, _⟩) ?e1 33 (.tmp 86) (.tmp 85) ?e2 ⟨w903.heap.size, 18, none⟩ _ ?e3 ?e4 ST9.out ?_); (case e1 => rfl); (case e2 => rfl); (case e3 => (first | rfl | exact congrArg (fun q => Value.pointer (some ⟨q, 18, none⟩)) (World.size_alloc _ _).symm)); (case e4 => rfl); generalize ((w903.alloc (.cells (KLn.cs x).toArray 35)).setCell ⟨w903.heap.size, 18, none⟩ (.slice x.A kk x.c)) = w904 at *) | ((with_reducible refine wpList_load_at (o := ⟨some 91, .load 35 (.tmp 9), _, _, _, _⟩) ?e1 35 (.tmp 9) ?e2 ⟨w903.heap.size, 0, none⟩ ?e3 _ L91.out ?_); (case e1 => rfl); (case e2 => rfl); (case e3 => rfl)) | ((with_reducible refine wpList_store_run (o := ⟨none, .store 35 (.tmp 92) (.tmp 91), _, _, _, _⟩) ?e1 35 (.tmp 92) (.tmp 91) ?e2 ⟨g8, N * KLn.n, none⟩ (KLn.v x9) ?e3 ?e4 ST15.out ?_); (case e1 => rfl); (case e2 => rfl); (case e3 => (first | rfl | exact congrArg (fun q => Value.pointer (some ⟨g8, q, none⟩)) (Nat.zero_add _))); (case e4 => rfl)) | ((with_reducible refine wpList_load_at (o := ⟨some 93, .load 26 (.tmp 6), _, _, _, _⟩) ?e1 26 (.tmp 6) ?e2 ⟨b6, 0, none⟩ ?e3 _ M538.out ?_); (case e1 => rfl); (case e2 => rfl); (case e3 => rfl)) | fail)
  clear c57 ix61 l16 l17 l18 c54 C32 SLU hsub c88 ix92 sle hsub2
  have C539 := Lib.hid ((show Calls Tryz.prog 6 #[.agg m6.cs.toArray] w905 fun e w' => e = .returned (.bool (mmay m6.m)) ∧ Below (w905).heap.size w905 w' from pmay12_any m6 w905 F536.out))
  rw [V6.out] at C539
  refine C539.out.mono ?_
  rintro e w540 ⟨rfl, hb541⟩
  have T542 := Lib.hid (T532.out.below hb541 T532.out.lt)
  have T543 := Lib.hid (T533.out.below hb541 T533.out.lt)
  have T544 := Lib.hid (T534.out.below hb541 T534.out.lt)
  have T545 := Lib.hid (N95.out.below hb541 N95.out.lt)
  have F546 := Lib.hid (F535.out.below hb541 (Nat.le_refl _))
  have F547 := Lib.hid (F536.out.below hb541 (Nat.le_refl _))
  have F548 := Lib.hid (F537.out.below hb541 (Nat.le_refl _))
  have F549 := Lib.hid (K95.out.below hb541 (Nat.le_refl _))
  have B550 := Lib.hid (B531.out.trans (hb541.mono B531.out.size))
  clear hb541
  have M551 := Lib.hid (T544.out.mn L512.out)
  have C552 := Lib.hid ((show Calls Tryz.prog 6 #[.agg m7.cs.toArray] w540 fun e w' => e = .returned (.bool (mmay m7.m)) ∧ Below (w540).heap.size w540 w' from pmay12_any m7 w540 F548.out))
  rw [V7.out] at C552
  go_wp2_with (first | ((with_reducible refine wpList_load_at (o := ⟨some 97, .load 26 (.tmp 7), _, _, _, _⟩) ?e1 26 (.tmp 7) ?e2 ⟨w900.heap.size, 0, none⟩ ?e3 _ M551.out ?_); (case e1 => rfl); (case e2 => rfl); (case e3 => rfl)))
  refine C552.out.mono ?_
  rintro e w553 ⟨rfl, hb554⟩
  have T555 := Lib.hid (T542.out.below hb554 T542.out.lt)
  have T556 := Lib.hid (T543.out.below hb554 T543.out.lt)
  have T557 := Lib.hid (T544.out.below hb554 T544.out.lt)
  have T558 := Lib.hid (T545.out.below hb554 T545.out.lt)
  have F559 := Lib.hid (F546.out.below hb554 (Nat.le_refl _))
  have F560 := Lib.hid (F547.out.below hb554 (Nat.le_refl _))
  have F561 := Lib.hid (F548.out.below hb554 (Nat.le_refl _))
  have F562 := Lib.hid (F549.out.below hb554 (Nat.le_refl _))
  have B563 := Lib.hid (B550.out.trans (hb554.mono B550.out.size))
  clear hb554
  have M564 := Lib.hid (T558.out.mn L95.out)
  have C565 := Lib.hid ((show Calls Tryz.prog 6 #[.agg m9.cs.toArray] w553 fun e w' => e = .returned (.bool (mmay m9.m)) ∧ Below (w553).heap.size w553 w' from pmay12_any m9 w553 F562.out))
  rw [V95.out] at C565
  go_wp2_with (first | ((with_reducible refine wpList_load_at (o := ⟨some 101, .load 26 (.tmp 8), _, _, _, _⟩) ?e1 26 (.tmp 8) ?e2 ⟨w901.heap.size, 0, none⟩ ?e3 _ M564.out ?_); (case e1 => rfl); (case e2 => rfl); (case e3 => rfl)))
  refine C565.out.mono ?_
  rintro e w566 ⟨rfl, hb567⟩
  have T568 := Lib.hid (T555.out.below hb567 T555.out.lt)
  have T569 := Lib.hid (T556.out.below hb567 T556.out.lt)
  have T570 := Lib.hid (T557.out.below hb567 T557.out.lt)
  have T571 := Lib.hid (T558.out.below hb567 T558.out.lt)
  have F572 := Lib.hid (F559.out.below hb567 (Nat.le_refl _))
  have F573 := Lib.hid (F560.out.below hb567 (Nat.le_refl _))
  have F574 := Lib.hid (F561.out.below hb567 (Nat.le_refl _))
  have F575 := Lib.hid (F562.out.below hb567 (Nat.le_refl _))
  have B576 := Lib.hid (B563.out.trans (hb567.mono B563.out.size))
  clear hb567
  have c106 := MnAt.c32 (show MnAt w566 w.heap.size m from T568.out) HM32.out
  rw [HNL.out] at c106
  have t10 : (nl : Int) ≤ 10 := by have := HL10.out; omega
  go_wp2
  go_ret
  exact ⟨rfl, B576.out⟩
 ·refine step_bsliceK (K := KLn) rfl (.tmp 41) rfl x rfl YL.out Tryz.underlying24 sizeLn zeroLn nLn ?_
  have G1 := Lib.hid (G0.out.alloc G0.out.size (.cells (KLn.cs x).toArray 35))
  have R1 := Lib.hid (row_one (K := KLn) (x := x) (X := X0) (te := 35) YL.out (XOK.out _ (G1.out.mono HB6.out)))
  refine hK.out _ _ (G1.out.mono HB6.out) (fun hS => ?_)
  clear hK K
  try simp only [Act.put, Z2, Z3, Z4]
  refine wpAnyH_ready (rs := [2]) (by kernel_rfl) (by simp) (AllReadyH.cons (o := ⟨some 35, _, _, _, _, _⟩) rfl (fun K hK => ?_) AllReadyH.nil)
  obtain ⟨i0, hi, hz0, hz1, hz2⟩ := info_parts infoLn
  refine step_append_rowK (K := KLn) (o := ⟨some 35, _, _, _, _, _⟩) rfl _ _ 24 rfl w1.heap.size 35 i0 _ 56 Tryz.underlying24 hi hz0 hz1 hz2 (by decide) (by decide) (.slice none 0 0) 0 [] rfl (World.ownsRow_nil _ _ _ _) m.A nl m.c m.ls rfl (HRW.out _ (G1.out.mono HB6.out)) HNL.out HPOS.out (by have := HL10.out; omega) G1.out.size ?_
  intro v2 X2 ho2 hg2
  rw [Nat.zero_add, List.nil_append] at ho2
  have O2 := Lib.hid ho2
  have G2 := Lib.hid (G1.out.grown hg2 G1.out.size (by intro k hk; cases hk))
  have R2 := Lib.hid (Kind.row_below R1.out ((Below.refl _ _).grown hg2 (Nat.le_refl _) (by intro k hk; cases hk)) (Nat.le_refl _))
  refine hK.out _ _ (G2.out.mono HB6.out) (fun hS => ?_)
  clear hK K
  try simp only [Act.put, Z2, Z3, Z4]
  refine wpAnyH_ready (rs := [10]) (by kernel_rfl) (by simp) (AllReadyH.cons (o := ⟨some 43, _, _, _, _, _⟩) rfl (fun K hK => ?_) AllReadyH.nil)
  obtain ⟨i0, hi, hz0, hz1, hz2⟩ := info_parts infoLn
  refine step_append_rowK (K := KLn) (o := ⟨some 43, _, _, _, _, _⟩) rfl _ _ 24 rfl w1.heap.size 35 i0 _ 56 Tryz.underlying24 hi hz0 hz1 hz2 (by decide) (by decide) v2 nl m.ls rfl O2.out (some ⟨X0.heap.size, 0, none⟩) 1 1 [x] rfl R2.out rfl (by decide) (by have := HL10.out; omega) G2.out.size ?_
  intro v3 X3 ho3 hg3
  have G3 := Lib.hid (G2.out.grown hg3 G2.out.size (fun k hk => own_base O2.out hk))
  obtain ⟨g6, c6, rfl⟩ := ownsRow_succ ho3
  have O3 := Lib.hid ho3
  clear ho3 hg3
  refine hK.out _ _ (G3.out.mono HB6.out) (fun hS => ?_)
  clear hK K
  try simp only [Act.put, Z2, Z3, Z4]
  refine wpHv (i := 11) (oi := ⟨some 44, _, _, _, _, _⟩) (v := ?_) rfl ?_ hS ?_; rotate_left; (focus (intro w9 hSw; go_simp; try with_reducible rfl)); simp only [Act.put, Z2, Z3, Z4]
  refine wpAnyH_ready (rs := [12]) (by kernel_rfl) (by simp) (AllReadyH.cons (o := ⟨none, _, _, _, _, _⟩) rfl (fun K hK => ?_) AllReadyH.nil)
  have g0 := MnAt.c32 (show MnAt X3 b6 m from T6'.out.below G3.out T6'.out.lt) HM32.out
  have gf : X3.frozen? ⟨b6, 32, none⟩ = false := frozen_of_row _ _ _ _ _ (T6'.out.below G3.out T6'.out.lt)
  have SX := Lib.hid (Below.setCell (p := ⟨b6, 32, none⟩) (G3.out.mono HB6.out) (Nat.le_refl _) (.slice (some ⟨g6, 0, none⟩) (nl + 1) c6))
  go_simp
  refine hK.out _ _ SX.out (fun hS => ?_)
  clear hK K g0 gf
  refine wpAnyH_done (by kernel_rfl) ?_ _
  have E1 := Lib.hid (show (m.ls ++ [x]).length = nl + 1 by rw [List.length_append, HNL.out]; rfl)
  have M6 := Lib.hid (mn_set (T6'.out.below G3.out T6'.out.lt) HM32.out (some ⟨g6, 0, none⟩) c6 (m.ls ++ [x]))
  rw [E1.out] at M6
  have K6 := Lib.hid (show MnA.Ok (X3.setCell ⟨b6, 32, none⟩ (.slice (some ⟨g6, 0, none⟩) (nl + 1) c6)) ⟨m.base, some ⟨g6, 0, none⟩, c6, m.ls ++ [x]⟩ from ⟨HM32.out, HMB.out, Kind.row_own (K := KLn) (te := 35) (base := w1.heap.size) (by rw [E1.out]; exact ownsRow_setCell_other O3.out (by intro h; have h1 := own_base O3.out h; have h2 := T6'.out.lt; simp only at h1; omega) _) (fun y hy => by
   rcases List.mem_append.1 hy with h | h
   ·exact LnA.below (HROW.out.2.2.2.2 y h) (BW.out _ SX.out)
   ·rw [List.mem_singleton.1 h]; exact XOK.out _ SX.out)⟩)
  generalize X3.setCell ⟨b6, 32, none⟩ (.slice (some ⟨g6, 0, none⟩) (nl + 1) c6) = w900 at *
  obtain ⟨m6, hm6⟩ : ∃ q, (⟨m.base, some ⟨g6, 0, none⟩, c6, m.ls ++ [x]⟩ : MnA) = q := ⟨_, rfl⟩
  rw [hm6] at M6 K6
  have V6 := Lib.hid (show mmay m6.m = false from by rw [← hm6]; exact HTW.out _ _)
  clear hm6
  have B501 := Lib.hid (BW.out _ SX.out)
  have T502 := Lib.hid (T1'.out.below SX.out hb1.out)
  have F503 := Lib.hid ((show MnA.Ok w m from HWM.out).below (BW.out _ SX.out) (Nat.le_refl _))
  have L504 := Lib.hid (MnA.len K6.out)
  clear SX
  have M505 := Lib.hid (T502.out.mn LM.out)
  have SZ505 := Lib.hid (mn_size F503.out)
  have SQ505 := Lib.hid (show mnA0.cs.toArray.size = m.cs.toArray.size by rw [mnA0_size, List.size_toArray]; exact (MnA.len F503.out).symm)
  have SO505 := Lib.hid (mn_ones m)
  have D7 := Lib.hid (RowAt.new w900 m.cs.toArray 26)
  have C32 := MnAt.c32 (show MnAt (w900.alloc (.cells m.cs.toArray 26)) w.heap.size m from T502.out.old (.cells m.cs.toArray 26)) HM32.out
  rw [HNL.out] at C32
  have SLU := HSLU.out (w900.alloc (.cells m.cs.toArray 26))
  have hsub := HSUB.out
  have ET := Lib.hid (show (m.ls.take N).length = N by rw [List.length_take, HNL.out]; have := HN1.out; omega)
  have N7 := Lib.hid (mn_set D7.out HM32.out m.A m.c (m.ls.take N))
  rw [ET.out] at N7
  have hb501 := ((Below.refl w900.heap.size w900).alloc (Nat.le_refl _) (.cells m.cs.toArray 26)).setCell (p := ⟨w900.heap.size, 32, none⟩) (Nat.le_refl _) (.slice m.A N m.c)
  have ST7 := Lib.hid (store_mnL D7.out HM32.out m.A N m.c)
  have T507 := Lib.hid (T502.out.below hb501 T502.out.lt)
  have T508 := Lib.hid (M6.out.below hb501 M6.out.lt)
  have F509 := Lib.hid (F503.out.below hb501 (Nat.le_refl _))
  have F510 := Lib.hid (K6.out.below hb501 (Nat.le_refl _))
  have B511 := Lib.hid (B501.out.trans (hb501.mono B501.out.size))
  clear hb501
  obtain ⟨m7, hm7⟩ : ∃ q, (⟨m.base, m.A, m.c, m.ls.take N⟩ : MnA) = q := ⟨_, rfl⟩
  rw [hm7] at N7
  have K7 := Lib.hid (show MnA.Ok ((w900.alloc (.cells m.cs.toArray 26)).setCell ⟨w900.heap.size, 32, none⟩ (.slice m.A N m.c)) m7 from by rw [← hm7]; exact ⟨HM32.out, HMB.out, Kind.row_take F509.out.2.2 N⟩)
  have V7 := Lib.hid (show mmay m7.m = true from by rw [← hm7]; exact HLS7.out _ _)
  clear hm7
  have L512 := Lib.hid (MnA.len K7.out)
  have M513 := Lib.hid (T507.out.mn LM.out)
  have SZ513 := Lib.hid (mn_size F509.out)
  have SQ513 := Lib.hid (show mnA0.cs.toArray.size = m.cs.toArray.size by rw [mnA0_size, List.size_toArray]; exact (MnA.len F509.out).symm)
  have SO513 := Lib.hid (mn_ones m)
  have D8 := Lib.hid (RowAt.new ((w900.alloc (.cells m.cs.toArray 26)).setCell ⟨w900.heap.size, 32, none⟩ (.slice m.A N m.c)) m.cs.toArray 26)
  have c54 := MnAt.c32 (show MnAt (((w900.alloc (.cells m.cs.toArray 26)).setCell ⟨w900.heap.size, 32, none⟩ (.slice m.A N m.c)).alloc (.cells m.cs.toArray 26)) w.heap.size m from T507.out.old (.cells m.cs.toArray 26)) HM32.out
  rw [HNL.out] at c54
  have HR8 := Lib.hid (Kind.row_below F509.out.2.2 ((Below.refl ((w900.alloc (.cells m.cs.toArray 26)).setCell ⟨w900.heap.size, 32, none⟩ (.slice m.A N m.c)).heap.size ((w900.alloc (.cells m.cs.toArray 26)).setCell ⟨w900.heap.size, 32, none⟩ (.slice m.A N m.c))).alloc (Nat.le_refl _) (.cells m.cs.toArray 26)) (Nat.le_refl _))
  obtain ⟨i0, hi, hz0, hz1, hz2⟩ := info_parts infoLn
  have HI := Lib.hid hi
  have HZ0 := Lib.hid hz0
  have HZ1 := Lib.hid hz1
  have HZ2 := Lib.hid hz2
  clear hi hz0 hz1 hz2
  go_wp2_with (first | ((with_reducible refine wpList_load_at (o := ⟨some 45, .load 26 (.tmp 1), _, _, _, _⟩) ?e1 26 (.tmp 1) ?e2 ⟨w.heap.size, 0, none⟩ ?e3 _ M505.out ?_); (case e1 => rfl); (case e2 => rfl); (case e3 => rfl)) | ((with_reducible refine wpList_store_new (o := ⟨none, .store 26 (.tmp 7) (.tmp 45), _, _, _, _⟩) ?e1 26 (.tmp 7) (.tmp 45) ?e2 ?e3 mnA0.cs.toArray m.cs.toArray ?e4 SZ505.out SQ505.out SO505.out ?_); (case e1 => rfl); (case e2 => rfl); (case e3 => (first | rfl | exact congrArg (fun q => Value.pointer (some ⟨q, 0, none⟩)) (World.size_alloc _ _).symm)); (case e4 => rfl)) | ((with_reducible refine wpList_store_run (o := ⟨none, .store 24 (.tmp 51) (.tmp 50), _, _, _, _⟩) ?e1 24 (.tmp 51) (.tmp 50) ?e2 ⟨w900.heap.size, 32, none⟩ _ ?e3 ?e4 ST7.out ?_); (case e1 => rfl); (case e2 => rfl); (case e3 => (first | rfl | exact congrArg (fun q => Value.pointer (some ⟨q, 32, none⟩)) (World.size_alloc _ _).symm)); (case e4 => rfl); generalize ((w900.alloc (.cells m.cs.toArray 26)).setCell ⟨w900.heap.size, 32, none⟩ (.slice m.A N m.c)) = w901 at *) | ((with_reducible refine wpList_load_at (o := ⟨some 52, .load 26 (.tmp 1), _, _, _, _⟩) ?e1 26 (.tmp 1) ?e2 ⟨w.heap.size, 0, none⟩ ?e3 _ M513.out ?_); (case e1 => rfl); (case e2 => rfl); (case e3 => rfl)) | ((with_reducible refine wpList_store_new (o := ⟨none, .store 26 (.tmp 8) (.tmp 52), _, _, _, _⟩) ?e1 26 (.tmp 8) (.tmp 52) ?e2 ?e3 mnA0.cs.toArray m.cs.toArray ?e4 SZ513.out SQ513.out SO513.out ?_); (case e1 => rfl); (case e2 => rfl); (case e3 => (first | rfl | exact congrArg (fun q => Value.pointer (some ⟨q, 0, none⟩)) (World.size_alloc _ _).symm)); (case e4 => rfl)) | (at_builtin; refine wpList_append_K (K := KLn) _ rfl _ _ 24 rfl (w901.alloc (.cells m.cs.toArray 26)).heap.size 35 i0 _ 56 Tryz.underlying24 HI.out HZ0.out HZ1.out HZ2.out (by decide) (by decide) (.slice none 0 0) 0 [] rfl (World.ownsRow_nil _ _ _ _) m.A nl m.c m.ls rfl HR8.out HNL.out (by have := HL10.out; omega) (Nat.le_refl _) ?_; intro v8 w902 ho8 hg8; rw [Nat.zero_add, List.nil_append] at ho8; obtain ⟨g8, c8, hv8⟩ := ownsRow_succ (k := N) (by rw [← HN1.out]; exact ho8); rw [← HN1.out] at hv8; subst hv8; have O8 := Lib.hid ho8; have hb94 := ((Below.refl w901.heap.size w901).alloc (Nat.le_refl _) (.cells m.cs.toArray 26)).grown hg8 (by rw [World.size_alloc]; omega) (by intro k hk; cases hk); have D8w := Lib.hid (D8.out.below ((Below.refl (w901.alloc (.cells m.cs.toArray 26)).heap.size (w901.alloc (.cells m.cs.toArray 26))).grown hg8 (Nat.le_refl _) (by intro k hk; cases hk)) D8.out.lt); have ST8 := Lib.hid (store_mnL D8w.out HM32.out (some ⟨g8, 0, none⟩) nl c8); have N8 := Lib.hid (mn_set D8w.out HM32.out (some ⟨g8, 0, none⟩) c8 m.ls); rw [HNL.out] at N8; have hb95 := hb94.setCell (p := ⟨w901.heap.size, 32, none⟩) (Nat.le_refl _) (.slice (some ⟨g8, 0, none⟩) nl c8); clear ho8 hb94; have O85 := Lib.hid (ownsRow_setCell_other (a := ⟨w901.heap.size, 32, none⟩) O8.out (by intro h; have h1 := own_base O8.out h; rw [World.size_alloc] at h1; simp only at h1; omega) (.slice (some ⟨g8, 0, none⟩) nl c8)); have hs95 := Lib.hid hb95; have T515 := Lib.hid (T507.out.below hb95 T507.out.lt); have T516 := Lib.hid (T508.out.below hb95 T508.out.lt); have T517 := Lib.hid (N7.out.below hb95 N7.out.lt); have F518 := Lib.hid (F509.out.below hb95 (Nat.le_refl _)); have F519 := Lib.hid (F510.out.below hb95 (Nat.le_refl _)); have F520 := Lib.hid (K7.out.below hb95 (Nat.le_refl _)); have B521 := Lib.hid (B511.out.trans (hb95.mono B511.out.size)); clear hb95; have c57 := MnAt.c32 (show MnAt (w902.setCell ⟨w901.heap.size, 32, none⟩ (.slice (some ⟨g8, 0, none⟩) nl c8)) w.heap.size m from T515.out) HM32.out; rw [HNL.out] at c57; have ix61 := IX.out (w902.setCell ⟨w901.heap.size, 32, none⟩ (.slice (some ⟨g8, 0, none⟩) nl c8)); have L62 := Lib.hid (load_lnL (HFL.out (w902.setCell ⟨w901.heap.size, 32, none⟩ (.slice (some ⟨g8, 0, none⟩) nl c8)) B521.out) YL.out); have SZ9 := Lib.hid (ln_size HXO.out); have SQ9 := Lib.hid (show (KLn.cs lnA0).toArray.size = (KLn.cs x).toArray.size by rw [lnA0_size, List.size_toArray]; exact YL.out.symm); have SO9 := Lib.hid (ln_ones x); have E9 := Lib.hid (RowAt.new (w902.setCell ⟨w901.heap.size, 32, none⟩ (.slice (some ⟨g8, 0, none⟩) nl c8)) (KLn.cs x).toArray 35); have l18 := ln_c18 (Kind.at_blk (K := KLn) (x := x) E9.out) HZX.out; rw [Nat.zero_add, HNE.out] at l18; have l16 := ln_c16 (Kind.at_blk (K := KLn) (x := x) E9.out) HZX.out; rw [Nat.zero_add] at l16; have l17 := ln_c17 (Kind.at_blk (K := KLn) (x := x) E9.out) HZX.out; rw [Nat.zero_add] at l17; obtain ⟨m8, hm8⟩ : ∃ q, (⟨m.base, some ⟨g8, 0, none⟩, c8, m.ls⟩ : MnA) = q := ⟨_, rfl⟩; rw [hm8] at N8; have K8 := Lib.hid (show MnA.Ok (w902.setCell ⟨w901.heap.size, 32, none⟩ (.slice (some ⟨g8, 0, none⟩) nl c8)) m8 from by rw [← hm8]; exact ⟨HM32.out, HMB.out, Kind.row_own (K := KLn) (te := 35) (base := (w901.alloc (.cells m.cs.toArray 26)).heap.size) (by rw [HNL.out]; exact O85.out) (fun y hy => LnA.below (HROW.out.2.2.2.2 y hy) B521.out)⟩); have V8 := Lib.hid (show mmay m8.m = true from by rw [← hm8]; exact PV.out); have L8 := Lib.hid (MnA.len K8.out); have ST9 := Lib.hid (store_lnF E9.out HZX.out x.A kk x.c); have N9 := Lib.hid (ln_set E9.out HZX.out x.A x.c (x.es.take kk)); rw [HTK.out] at N9; obtain ⟨x9, hx9⟩ : ∃ q, (⟨x.z, x.n, x.r, x.A, x.c, x.es.take kk⟩ : LnA) = q := ⟨_, rfl⟩; rw [hx9] at N9; have OK9 := Lib.hid (show LnA.Ok w x9 from by rw [← hx9]; exact ⟨HXO.out.1, HXO.out.2.1, HXO.out.2.2.1, HXO.out.2.2.2.1, Kind.row_take HXO.out.2.2.2.2 kk⟩); have YL9 := Lib.hid (LnA.len OK9.out); have sle := HSLE.out ((w902.setCell ⟨w901.heap.size, 32, none⟩ (.slice (some ⟨g8, 0, none⟩) nl c8)).alloc (.cells (KLn.cs x).toArray 35)); have hsub2 := HSUB2.out; have hb97 := ((Below.refl (w902.setCell ⟨w901.heap.size, 32, none⟩ (.slice (some ⟨g8, 0, none⟩) nl c8)).heap.size (w902.setCell ⟨w901.heap.size, 32, none⟩ (.slice (some ⟨g8, 0, none⟩) nl c8))).alloc (Nat.le_refl _) (.cells (KLn.cs x).toArray 35)).setCell (p := ⟨(w902.setCell ⟨w901.heap.size, 32, none⟩ (.slice (some ⟨g8, 0, none⟩) nl c8)).heap.size, 18, none⟩) (Nat.le_refl _) (.slice x.A kk x.c); have O87 := Lib.hid (ownsRow_setCell_other (a := ⟨(w902.setCell ⟨w901.heap.size, 32, none⟩ (.slice (some ⟨g8, 0, none⟩) nl c8)).heap.size, 18, none⟩) (O85.out.alloc (.cells (KLn.cs x).toArray 35)) (by intro h; have h1 := (O85.out.lt _ h).2; simp only at h1; omega) (.slice x.A kk x.c)); have hs97 := Lib.hid hb97; have T522 := Lib.hid (T515.out.below hb97 T515.out.lt); have T523 := Lib.hid (T516.out.below hb97 T516.out.lt); have T524 := Lib.hid (T517.out.below hb97 T517.out.lt); have T525 := Lib.hid (N8.out.below hb97 N8.out.lt); have F526 := Lib.hid (F518.out.below hb97 (Nat.le_refl _)); have F527 := Lib.hid (F519.out.below hb97 (Nat.le_refl _)); have F528 := Lib.hid (F520.out.below hb97 (Nat.le_refl _)); have F529 := Lib.hid (K8.out.below hb97 (Nat.le_refl _)); have B530 := Lib.hid (B521.out.trans (hb97.mono B521.out.size)); clear hb97; have c88 := MnAt.c32 (show MnAt (((w902.setCell ⟨w901.heap.size, 32, none⟩ (.slice (some ⟨g8, 0, none⟩) nl c8)).alloc (.cells (KLn.cs x).toArray 35)).setCell ⟨(w902.setCell ⟨w901.heap.size, 32, none⟩ (.slice (some ⟨g8, 0, none⟩) nl c8)).heap.size, 18, none⟩ (.slice x.A kk x.c)) w901.heap.size m8 from T525.out) (by rw [← hm8]; exact HM32.out); rw [← hm8] at c88; dsimp only at c88; rw [HNL.out] at c88; have R8 := Lib.hid (show KLn.row (((w902.setCell ⟨w901.heap.size, 32, none⟩ (.slice (some ⟨g8, 0, none⟩) nl c8)).alloc (.cells (KLn.cs x).toArray 35)).setCell ⟨(w902.setCell ⟨w901.heap.size, 32, none⟩ (.slice (some ⟨g8, 0, none⟩) nl c8)).heap.size, 18, none⟩ (.slice x.A kk x.c)) (some ⟨g8, 0, none⟩) c8 m.ls from Kind.row_own (K := KLn) (te := 35) (base := (w901.alloc (.cells m.cs.toArray 26)).heap.size) (by rw [HNL.out]; exact O87.out) (fun y hy => LnA.below (HROW.out.2.2.2.2 y hy) B530.out)); obtain ⟨b8, o8, hA8, hb8w, hx8, hi8⟩ := ln_row R8.out (by rw [HNL.out]; exact HPOS.out); obtain ⟨rfl, rfl⟩ : g8 = b8 ∧ 0 = o8 := (by cases hA8; exact ⟨rfl, rfl⟩); have ix92 := hi8 N HLT.out N rfl (((w902.setCell ⟨w901.heap.size, 32, none⟩ (.slice (some ⟨g8, 0, none⟩) nl c8)).alloc (.cells (KLn.cs x).toArray 35)).setCell ⟨(w902.setCell ⟨w901.heap.size, 32, none⟩ (.slice (some ⟨g8, 0, none⟩) nl c8)).heap.size, 18, none⟩ (.slice x.A kk x.c)); rw [HNL.out] at ix92; clear hi8 hx8 hb8w hA8; have L91 := Lib.hid (load_lnL (Kind.at_blk (K := KLn) (x := x9) N9.out) YL9.out); obtain ⟨w905, hst9, ho9, hg9⟩ := own_putG (K := KLn) (te := 35) (P := Tryz.prog) (base := (w901.alloc (.cells m.cs.toArray 26)).heap.size) (w := (((w902.setCell ⟨w901.heap.size, 32, none⟩ (.slice (some ⟨g8, 0, none⟩) nl c8)).alloc (.cells (KLn.cs x).toArray 35)).setCell ⟨(w902.setCell ⟨w901.heap.size, 32, none⟩ (.slice (some ⟨g8, 0, none⟩) nl c8)).heap.size, 18, none⟩ (.slice x.A kk x.c))) (g := g8) (cap := c8) (n := nl) (a := m.ls.take N) (b := []) (p := x) (q := x9) (k := N) (by rw [List.length_take, HNL.out]; have := HN1.out; omega) (by have h := O87.out; rw [HSN.out] at h; exact h) (fun y hy => LnA.len (HROW.out.2.2.2.2 y (by rw [HSN.out]; exact hy))) YL9.out (fun w => sizeLn w); have ST15 := Lib.hid hst9; have HO9 := Lib.hid ho9; have HG9 := Lib.hid hg9; clear hst9 ho9 hg9; have HB9a := Lib.hid ((Below.refl (w901.alloc (.cells m.cs.toArray 26)).heap.size (((w902.setCell ⟨w901.heap.size, 32, none⟩ (.slice (some ⟨g8, 0, none⟩) nl c8)).alloc (.cells (KLn.cs x).toArray 35)).setCell ⟨(w902.setCell ⟨w901.heap.size, 32, none⟩ (.slice (some ⟨g8, 0, none⟩) nl c8)).heap.size, 18, none⟩ (.slice x.A kk x.c))).grown HG9.out (Nat.le_of_lt (Nat.lt_of_le_of_lt (own_base O87.out rfl) ((O87.out.lt _ rfl).2))) (fun k hk => own_base O87.out hk)); have HB915 := Lib.hid (hs95.out.trans ((hs97.out.mono hs95.out.size).trans (HB9a.out.mono (by rw [World.size_alloc]; omega)))); have B531 := Lib.hid (B511.out.trans (HB915.out.mono B511.out.size)); have T532 := Lib.hid (T507.out.below HB915.out T507.out.lt); have T533 := Lib.hid (T508.out.below HB915.out T508.out.lt); have T534 := Lib.hid (N7.out.below HB915.out N7.out.lt); have F535 := Lib.hid (F509.out.below HB915.out (Nat.le_refl _)); have F536 := Lib.hid (F510.out.below HB915.out (Nat.le_refl _)); have F537 := Lib.hid (K7.out.below HB915.out (Nat.le_refl _)); have EL9 := Lib.hid (show (m.ls.take N ++ [x9]).length = nl by rw [List.length_append, List.length_take, HNL.out]; have := HN1.out; simp only [List.length_singleton]; omega); have N8w := Lib.hid (T525.out.below HB9a.out (by rw [World.size_alloc]; omega)); rw [← hm8] at N8w; have N95 := Lib.hid (show RowAt 26 w905 w901.heap.size (MnA.cs ⟨m.base, some ⟨g8, 0, none⟩, c8, m.ls.take N ++ [x9]⟩).toArray from by have h := N8w.out; unfold MnA.cs at h ⊢; dsimp only at h ⊢; rw [EL9.out]; rw [HNL.out] at h; exact h); have K95 := Lib.hid (show MnA.Ok w905 ⟨m.base, some ⟨g8, 0, none⟩, c8, m.ls.take N ++ [x9]⟩ from ⟨HM32.out, HMB.out, Kind.row_own (K := KLn) (te := 35) (base := (w901.alloc (.cells m.cs.toArray 26)).heap.size) (by rw [EL9.out]; exact HO9.out) (fun y hy => by rcases List.mem_append.1 hy with h | h; exact LnA.below (HROW.out.2.2.2.2 y (List.mem_of_mem_take h)) B531.out; rw [List.mem_singleton.1 h]; exact LnA.below OK9.out B531.out)⟩); have V95 := Lib.hid (show mmay (MnA.m ⟨m.base, some ⟨g8, 0, none⟩, c8, m.ls.take N ++ [x9]⟩) = true from by rw [← hx9]; exact HEN8.out _ _ _ _); obtain ⟨m9, hm9⟩ : ∃ q, (⟨m.base, some ⟨g8, 0, none⟩, c8, m.ls.take N ++ [x9]⟩ : MnA) = q := ⟨_, rfl⟩; rw [hm9] at N95 K95 V95; clear hm9; have L95 := Lib.hid (MnA.len K95.out); have M538 := Lib.hid (T533.out.mn L504.out)) | ((with_reducible refine wpList_store_run (o := ⟨none, .store 24 (.tmp 56) (.tmp 55), _, _, _, _⟩) ?e1 24 (.tmp 56) (.tmp 55) ?e2 ⟨w901.heap.size, 32, none⟩ _ ?e3 ?e4 ST8.out ?_); (case e1 => rfl); (case e2 => rfl); (case e3 => (first | rfl | exact congrArg (fun q => Value.pointer (some ⟨q, 32, none⟩)) (World.size_alloc _ _).symm)); (case e4 => rfl); generalize (w902.setCell ⟨w901.heap.size, 32, none⟩ (.slice (some ⟨g8, 0, none⟩) nl c8)) = w903 at *) | ((with_reducible refine wpList_load_at (o := ⟨some 62, .load 35 (.tmp 61), _, _, _, _⟩) ?e1 35 (.tmp 61) ?e2 ⟨b9, off9 + N * 19, none⟩ ?e3 _ L62.out ?_); (case e1 => rfl); (case e2 => rfl); (case e3 => rfl)) | ((with_reducible refine wpList_store_new (o := ⟨none, .store 35 (.tmp 9) (.tmp 62), _, _, _, _⟩) ?e1 35 (.tmp 9) (.tmp 62) ?e2 ?e3 (KLn.cs lnA0).toArray (KLn.cs x).toArray ?e4 SZ9.out SQ9.out SO9.out ?_); (case e1 => rfl); (case e2 => rfl); (case e3 => (first | rfl | exact congrArg (fun q => Value.pointer (some ⟨q, 0, none⟩)) (World.size_alloc _ _).symm)); (case e4 => rfl)) | ((with_reducible refine wpList_store_run (o := ⟨none, .store 33 (.tmp 86) (.tmp 85), _, _, _, _⟩) ?e1 33 (.tmp 86) (.tmp 85) ?e2 ⟨w903.heap.size, 18, none⟩ _ ?e3 ?e4 ST9.out ?_); (case e1 => rfl); (case e2 => rfl); (case e3 => (first | rfl | exact congrArg (fun q => Value.pointer (some ⟨q, 18, none⟩)) (World.size_alloc _ _).symm)); (case e4 => rfl); generalize ((w903.alloc (.cells (KLn.cs x).toArray 35)).setCell ⟨w903.heap.size, 18, none⟩ (.slice x.A kk x.c)) = w904 at *) | ((with_reducible refine wpList_load_at (o := ⟨some 91, .load 35 (.tmp 9), _, _, _, _⟩) ?e1 35 (.tmp 9) ?e2 ⟨w903.heap.size, 0, none⟩ ?e3 _ L91.out ?_); (case e1 => rfl); (case e2 => rfl); (case e3 => rfl)) | ((with_reducible refine wpList_store_run (o := ⟨none, .store 35 (.tmp 92) (.tmp 91), _, _, _, _⟩) ?e1 35 (.tmp 92) (.tmp 91) ?e2 ⟨g8, N * KLn.n, none⟩ (KLn.v x9) ?e3 ?e4 ST15.out ?_); (case e1 => rfl); (case e2 => rfl); (case e3 => (first | rfl | exact congrArg (fun q => Value.pointer (some ⟨g8, q, none⟩)) (Nat.zero_add _))); (case e4 => rfl)) | ((with_reducible refine wpList_load_at (o := ⟨some 93, .load 26 (.tmp 6), _, _, _, _⟩) ?e1 26 (.tmp 6) ?e2 ⟨b6, 0, none⟩ ?e3 _ M538.out ?_); (case e1 => rfl); (case e2 => rfl); (case e3 => rfl)) | fail)
  clear c57 ix61 l16 l17 l18 c54 C32 SLU hsub c88 ix92 sle hsub2
  have C539 := Lib.hid ((show Calls Tryz.prog 6 #[.agg m6.cs.toArray] w905 fun e w' => e = .returned (.bool (mmay m6.m)) ∧ Below (w905).heap.size w905 w' from pmay12_any m6 w905 F536.out))
  rw [V6.out] at C539
  refine C539.out.mono ?_
  rintro e w540 ⟨rfl, hb541⟩
  have T542 := Lib.hid (T532.out.below hb541 T532.out.lt)
  have T543 := Lib.hid (T533.out.below hb541 T533.out.lt)
  have T544 := Lib.hid (T534.out.below hb541 T534.out.lt)
  have T545 := Lib.hid (N95.out.below hb541 N95.out.lt)
  have F546 := Lib.hid (F535.out.below hb541 (Nat.le_refl _))
  have F547 := Lib.hid (F536.out.below hb541 (Nat.le_refl _))
  have F548 := Lib.hid (F537.out.below hb541 (Nat.le_refl _))
  have F549 := Lib.hid (K95.out.below hb541 (Nat.le_refl _))
  have B550 := Lib.hid (B531.out.trans (hb541.mono B531.out.size))
  clear hb541
  have M551 := Lib.hid (T544.out.mn L512.out)
  have C552 := Lib.hid ((show Calls Tryz.prog 6 #[.agg m7.cs.toArray] w540 fun e w' => e = .returned (.bool (mmay m7.m)) ∧ Below (w540).heap.size w540 w' from pmay12_any m7 w540 F548.out))
  rw [V7.out] at C552
  go_wp2_with (first | ((with_reducible refine wpList_load_at (o := ⟨some 97, .load 26 (.tmp 7), _, _, _, _⟩) ?e1 26 (.tmp 7) ?e2 ⟨w900.heap.size, 0, none⟩ ?e3 _ M551.out ?_); (case e1 => rfl); (case e2 => rfl); (case e3 => rfl)))
  refine C552.out.mono ?_
  rintro e w553 ⟨rfl, hb554⟩
  have T555 := Lib.hid (T542.out.below hb554 T542.out.lt)
  have T556 := Lib.hid (T543.out.below hb554 T543.out.lt)
  have T557 := Lib.hid (T544.out.below hb554 T544.out.lt)
  have T558 := Lib.hid (T545.out.below hb554 T545.out.lt)
  have F559 := Lib.hid (F546.out.below hb554 (Nat.le_refl _))
  have F560 := Lib.hid (F547.out.below hb554 (Nat.le_refl _))
  have F561 := Lib.hid (F548.out.below hb554 (Nat.le_refl _))
  have F562 := Lib.hid (F549.out.below hb554 (Nat.le_refl _))
  have B563 := Lib.hid (B550.out.trans (hb554.mono B550.out.size))
  clear hb554
  have M564 := Lib.hid (T558.out.mn L95.out)
  have C565 := Lib.hid ((show Calls Tryz.prog 6 #[.agg m9.cs.toArray] w553 fun e w' => e = .returned (.bool (mmay m9.m)) ∧ Below (w553).heap.size w553 w' from pmay12_any m9 w553 F562.out))
  rw [V95.out] at C565
  go_wp2_with (first | ((with_reducible refine wpList_load_at (o := ⟨some 101, .load 26 (.tmp 8), _, _, _, _⟩) ?e1 26 (.tmp 8) ?e2 ⟨w901.heap.size, 0, none⟩ ?e3 _ M564.out ?_); (case e1 => rfl); (case e2 => rfl); (case e3 => rfl)))
  refine C565.out.mono ?_
  rintro e w566 ⟨rfl, hb567⟩
  have T568 := Lib.hid (T555.out.below hb567 T555.out.lt)
  have T569 := Lib.hid (T556.out.below hb567 T556.out.lt)
  have T570 := Lib.hid (T557.out.below hb567 T557.out.lt)
  have T571 := Lib.hid (T558.out.below hb567 T558.out.lt)
  have F572 := Lib.hid (F559.out.below hb567 (Nat.le_refl _))
  have F573 := Lib.hid (F560.out.below hb567 (Nat.le_refl _))
  have F574 := Lib.hid (F561.out.below hb567 (Nat.le_refl _))
  have F575 := Lib.hid (F562.out.below hb567 (Nat.le_refl _))
  have B576 := Lib.hid (B563.out.trans (hb567.mono B563.out.size))
  clear hb567
  have c106 := MnAt.c32 (show MnAt w566 w.heap.size m from T568.out) HM32.out
  rw [HNL.out] at c106
  have t10 : (nl : Int) ≤ 10 := by have := HL10.out; omega
  go_wp2
  go_ret
  exact ⟨rfl, B576.out⟩
theorem walk_manifestFew (m : MnA) (w : World) (hlaid : Laid w) (wm : m.Ok w) :
  Calls Tryz.prog 3 #[m.v] w fun e w' => e = .returned (.bool true) ∧ Below w.heap.size w w' := by
 show Calls Tryz.prog 3 #[.agg m.cs.toArray] w fun e w' => e = .returned (.bool true) ∧ Below w.heap.size w w'
 cases p : mfew m.m with
 | false => exact mfw_few m w hlaid wm p
 | true =>
  cases q : mmay m.m with
  | false => exact mfw_may m w hlaid wm p q
  | true =>
   by_cases r : m.ls.length = 0
   ·exact mfw_nil m w hlaid wm p q r
   ·obtain ⟨N, r⟩ : ∃ N, m.ls.length = N + 1 := ⟨m.ls.length - 1, by omega⟩
    by_cases h0 : (m.ls.getD N lnA0).es.length = 0
    ·exact mfw_someD m w hlaid wm N p q r h0
    ·by_cases h1 : (m.ls.getD N lnA0).es.length = 1
     ·by_cases dd : (m.ls.getD N lnA0).n = 0 ∧ (m.ls.getD N lnA0).r = 0
      ·exact mfw_someC m w hlaid wm N p q r h1 dd
      ·exact mfw_someB m w hlaid wm N p q r h1 dd
     ·exact mfw_someA m w hlaid wm N _ ((m.ls.getD N lnA0).es.length - 1) (by omega) (by omega) p q r rfl
end
end Go.Proofs.YtkjimhlpbgeagaaGreatDoor
