import Derived.Test.YtcmknbdeafcknaaGreatDoorCaAwake
import Derived.Test.YtcmknbdeafcknaaGreatDoorBkFew
import Derived.Test.YtcmknbdeafcknaaGreatDoorGArgs
import Derived.Test.YtcmknbdeafcknaaGreatDoorGUni
/-
  The law CanonSame: for every two books it answers true, and nothing that was there is written.
-/
namespace Go.Proofs.YtcmknbdeafcknaaGreatDoor
open Go.RowKit WM
set_option linter.unusedVariables false
set_option maxRecDepth 100000
set_option maxHeartbeats 8000000 in
theorem csame_s00 (a b : Bk) (w : World) (hlaid : Laid w) (wa : BkAt w a) (wb : BkAt w b) (va vb : Bool) (iA : fewB a.rs = va) (iB : fewB b.rs = vb) (iMA : bmay a.rs = false) (iMB : bmay b.rs = false) :
    Calls Tryz.prog 8 #[.agg #[.slice a.A a.xs.length a.c], .agg #[.slice b.A b.xs.length b.c]] w fun e w' => e = .returned (.bool true) ∧ Below w.heap.size w w' := by
  cases va <;> cases vb
  all_goals (
    have HLA := Lib.hid (fun (X : World) (hX : Below w.heap.size w X) => hlaid.below hX (Nat.le_refl _))
    have Fa := Lib.hid wa
    have Fb := Lib.hid wb
    have hoka := bk_ok wa
    have hok := bk_ok wb
    have PA := Lib.hid iA
    have PB := Lib.hid iB
    have MA := Lib.hid iMA
    have MB := Lib.hid iMB
    clear iA iB iMA iMB hlaid wa wb hok hoka
    have B1 := Lib.hid (Below.refl w.heap.size w)
    have T2n := BoAt.new w (.slice a.A a.xs.length a.c)
    have T2 := Lib.hid T2n
    clear T2n
    have B3 := Lib.hid (B1.out.alloc B1.out.size (.cells #[(.slice a.A a.xs.length a.c)] 24))
    have T4 := Lib.hid (T2.out.old (.cells #[(.slice b.A b.xs.length b.c)] 24))
    have T5n := BoAt.new (w.alloc (.cells #[(.slice a.A a.xs.length a.c)] 24)) (.slice b.A b.xs.length b.c)
    simp only [World.size_alloc] at T5n
    have T5 := Lib.hid T5n
    clear T5n
    have B6 := Lib.hid (B3.out.alloc B3.out.size (.cells #[(.slice b.A b.xs.length b.c)] 24))
    have F7 := Lib.hid (Fa.out.below B6.out (Nat.le_refl _))
    have F8 := Lib.hid (Fb.out.below B6.out (Nat.le_refl _))
    go_enter Tryz.func8, Tryz.ntmps8
    have C9 := Lib.hid (caAwake ((w.alloc (.cells #[(.slice a.A a.xs.length a.c)] 24)).alloc (.cells #[(.slice b.A b.xs.length b.c)] 24)) (HLA.out _ B6.out))
    go_wp2_with fail
    refine C9.out.mono ?_
    rintro e w10 ⟨rfl, hb11⟩
    have T12 := Lib.hid (T4.out.below hb11 T4.out.lt)
    have T13 := Lib.hid (T5.out.below hb11 T5.out.lt)
    have F14 := Lib.hid (F7.out.below hb11 (Nat.le_refl _))
    have F15 := Lib.hid (F8.out.below hb11 (Nat.le_refl _))
    have B16 := Lib.hid (B6.out.trans (hb11.mono B6.out.size))
    clear hb11
    have M17 := Lib.hid (T12.out.load)
    have C18 := Lib.hid (fewB_any a w10 F14.out)
    rw [PA.out] at C18
    go_wp2_with (first | ((with_reducible refine wpList_load_by (o := ⟨some 14, .load 24 (.tmp 2), _, _, _, _⟩) ?e1 24 (.tmp 2) ?e2 ⟨w.heap.size, 0, none⟩ ?e3 _ M17.out ?_); (case e1 => rfl); (case e2 => rfl); (case e3 => rfl)))
    refine C18.out.mono ?_
    rintro e w19 ⟨rfl, hb20⟩
    have T21 := Lib.hid (T12.out.below hb20 T12.out.lt)
    have T22 := Lib.hid (T13.out.below hb20 T13.out.lt)
    have F23 := Lib.hid (F14.out.below hb20 (Nat.le_refl _))
    have F24 := Lib.hid (F15.out.below hb20 (Nat.le_refl _))
    have B25 := Lib.hid (B16.out.trans (hb20.mono B16.out.size))
    clear hb20
    have M26 := Lib.hid (T22.out.load)
    have C27 := Lib.hid (fewB_any b w19 F24.out)
    rw [PB.out] at C27
    go_wp2_with (first | ((with_reducible refine wpList_load_by (o := ⟨some 16, .load 24 (.tmp 3), _, _, _, _⟩) ?e1 24 (.tmp 3) ?e2 ⟨(w.heap.size + 1), 0, none⟩ ?e3 _ M26.out ?_); (case e1 => rfl); (case e2 => rfl); (case e3 => rfl)))
    refine C27.out.mono ?_
    rintro e w28 ⟨rfl, hb29⟩
    have T30 := Lib.hid (T21.out.below hb29 T21.out.lt)
    have T31 := Lib.hid (T22.out.below hb29 T22.out.lt)
    have F32 := Lib.hid (F23.out.below hb29 (Nat.le_refl _))
    have F33 := Lib.hid (F24.out.below hb29 (Nat.le_refl _))
    have B34 := Lib.hid (B25.out.trans (hb29.mono B25.out.size))
    clear hb29
    have M35 := Lib.hid (T30.out.load)
    have c36 := put_book a w28 F32.out
    unfold PutPost at c36
    simp only [MA.out, Bool.false_eq_true, if_false] at c36
    have C37 := Lib.hid (c36)
    clear c36
    go_wp2_with (first | ((with_reducible refine wpList_load_by (o := ⟨some 19, .load 24 (.tmp 2), _, _, _, _⟩) ?e1 24 (.tmp 2) ?e2 ⟨w.heap.size, 0, none⟩ ?e3 _ M35.out ?_); (case e1 => rfl); (case e2 => rfl); (case e3 => rfl)))
    refine C37.out.mono ?_
    rintro e w38 ⟨rfl, hb39⟩
    have T40 := Lib.hid (T30.out.below hb39 T30.out.lt)
    have T41 := Lib.hid (T31.out.below hb39 T31.out.lt)
    have F42 := Lib.hid (F32.out.below hb39 (Nat.le_refl _))
    have F43 := Lib.hid (F33.out.below hb39 (Nat.le_refl _))
    have B44 := Lib.hid (B34.out.trans (hb39.mono B34.out.size))
    clear hb39
    have M45 := Lib.hid (T41.out.load)
    have c46 := put_book b w38 F43.out
    unfold PutPost at c46
    simp only [MB.out, Bool.false_eq_true, if_false] at c46
    have C47 := Lib.hid (c46)
    clear c46
    go_wp2_with (first | ((with_reducible refine wpList_load_by (o := ⟨some 24, .load 24 (.tmp 3), _, _, _, _⟩) ?e1 24 (.tmp 3) ?e2 ⟨(w.heap.size + 1), 0, none⟩ ?e3 _ M45.out ?_); (case e1 => rfl); (case e2 => rfl); (case e3 => rfl)))
    refine C47.out.mono ?_
    rintro e w48 ⟨rfl, hb49⟩
    have T50 := Lib.hid (T40.out.below hb49 T40.out.lt)
    have T51 := Lib.hid (T41.out.below hb49 T41.out.lt)
    have F52 := Lib.hid (F42.out.below hb49 (Nat.le_refl _))
    have F53 := Lib.hid (F43.out.below hb49 (Nat.le_refl _))
    have B54 := Lib.hid (B44.out.trans (hb49.mono B44.out.size))
    clear hb49
    go_wp2
    go_ret
    exact ⟨rfl, B54.out⟩)
set_option maxHeartbeats 8000000 in
theorem csame_s01 (a b : Bk) (w : World) (hlaid : Laid w) (wa : BkAt w a) (wb : BkAt w b) (va vb : Bool) (iA : fewB a.rs = va) (iB : fewB b.rs = vb) (iMA : bmay a.rs = false) (iMB : bmay b.rs = true) :
    Calls Tryz.prog 8 #[.agg #[.slice a.A a.xs.length a.c], .agg #[.slice b.A b.xs.length b.c]] w fun e w' => e = .returned (.bool true) ∧ Below w.heap.size w w' := by
  cases va <;> cases vb
  all_goals (
    have HLA := Lib.hid (fun (X : World) (hX : Below w.heap.size w X) => hlaid.below hX (Nat.le_refl _))
    have Fa := Lib.hid wa
    have Fb := Lib.hid wb
    have hoka := bk_ok wa
    have hok := bk_ok wb
    have PA := Lib.hid iA
    have PB := Lib.hid iB
    have MA := Lib.hid iMA
    have MB := Lib.hid iMB
    generalize hZ2 : benc b.rs = ZB at *
    have EB := Lib.hid hZ2
    clear hZ2
    clear iA iB iMA iMB hlaid wa wb hok hoka
    have B1 := Lib.hid (Below.refl w.heap.size w)
    have T2n := BoAt.new w (.slice a.A a.xs.length a.c)
    have T2 := Lib.hid T2n
    clear T2n
    have B3 := Lib.hid (B1.out.alloc B1.out.size (.cells #[(.slice a.A a.xs.length a.c)] 24))
    have T4 := Lib.hid (T2.out.old (.cells #[(.slice b.A b.xs.length b.c)] 24))
    have T5n := BoAt.new (w.alloc (.cells #[(.slice a.A a.xs.length a.c)] 24)) (.slice b.A b.xs.length b.c)
    simp only [World.size_alloc] at T5n
    have T5 := Lib.hid T5n
    clear T5n
    have B6 := Lib.hid (B3.out.alloc B3.out.size (.cells #[(.slice b.A b.xs.length b.c)] 24))
    have F7 := Lib.hid (Fa.out.below B6.out (Nat.le_refl _))
    have F8 := Lib.hid (Fb.out.below B6.out (Nat.le_refl _))
    go_enter Tryz.func8, Tryz.ntmps8
    have C9 := Lib.hid (caAwake ((w.alloc (.cells #[(.slice a.A a.xs.length a.c)] 24)).alloc (.cells #[(.slice b.A b.xs.length b.c)] 24)) (HLA.out _ B6.out))
    go_wp2_with fail
    refine C9.out.mono ?_
    rintro e w10 ⟨rfl, hb11⟩
    have T12 := Lib.hid (T4.out.below hb11 T4.out.lt)
    have T13 := Lib.hid (T5.out.below hb11 T5.out.lt)
    have F14 := Lib.hid (F7.out.below hb11 (Nat.le_refl _))
    have F15 := Lib.hid (F8.out.below hb11 (Nat.le_refl _))
    have B16 := Lib.hid (B6.out.trans (hb11.mono B6.out.size))
    clear hb11
    have M17 := Lib.hid (T12.out.load)
    have C18 := Lib.hid (fewB_any a w10 F14.out)
    rw [PA.out] at C18
    go_wp2_with (first | ((with_reducible refine wpList_load_by (o := ⟨some 14, .load 24 (.tmp 2), _, _, _, _⟩) ?e1 24 (.tmp 2) ?e2 ⟨w.heap.size, 0, none⟩ ?e3 _ M17.out ?_); (case e1 => rfl); (case e2 => rfl); (case e3 => rfl)))
    refine C18.out.mono ?_
    rintro e w19 ⟨rfl, hb20⟩
    have T21 := Lib.hid (T12.out.below hb20 T12.out.lt)
    have T22 := Lib.hid (T13.out.below hb20 T13.out.lt)
    have F23 := Lib.hid (F14.out.below hb20 (Nat.le_refl _))
    have F24 := Lib.hid (F15.out.below hb20 (Nat.le_refl _))
    have B25 := Lib.hid (B16.out.trans (hb20.mono B16.out.size))
    clear hb20
    have M26 := Lib.hid (T22.out.load)
    have C27 := Lib.hid (fewB_any b w19 F24.out)
    rw [PB.out] at C27
    go_wp2_with (first | ((with_reducible refine wpList_load_by (o := ⟨some 16, .load 24 (.tmp 3), _, _, _, _⟩) ?e1 24 (.tmp 3) ?e2 ⟨(w.heap.size + 1), 0, none⟩ ?e3 _ M26.out ?_); (case e1 => rfl); (case e2 => rfl); (case e3 => rfl)))
    refine C27.out.mono ?_
    rintro e w28 ⟨rfl, hb29⟩
    have T30 := Lib.hid (T21.out.below hb29 T21.out.lt)
    have T31 := Lib.hid (T22.out.below hb29 T22.out.lt)
    have F32 := Lib.hid (F23.out.below hb29 (Nat.le_refl _))
    have F33 := Lib.hid (F24.out.below hb29 (Nat.le_refl _))
    have B34 := Lib.hid (B25.out.trans (hb29.mono B25.out.size))
    clear hb29
    have M35 := Lib.hid (T30.out.load)
    have c36 := put_book a w28 F32.out
    unfold PutPost at c36
    simp only [MA.out, Bool.false_eq_true, if_false] at c36
    have C37 := Lib.hid (c36)
    clear c36
    go_wp2_with (first | ((with_reducible refine wpList_load_by (o := ⟨some 19, .load 24 (.tmp 2), _, _, _, _⟩) ?e1 24 (.tmp 2) ?e2 ⟨w.heap.size, 0, none⟩ ?e3 _ M35.out ?_); (case e1 => rfl); (case e2 => rfl); (case e3 => rfl)))
    refine C37.out.mono ?_
    rintro e w38 ⟨rfl, hb39⟩
    have T40 := Lib.hid (T30.out.below hb39 T30.out.lt)
    have T41 := Lib.hid (T31.out.below hb39 T31.out.lt)
    have F42 := Lib.hid (F32.out.below hb39 (Nat.le_refl _))
    have F43 := Lib.hid (F33.out.below hb39 (Nat.le_refl _))
    have B44 := Lib.hid (B34.out.trans (hb39.mono B34.out.size))
    clear hb39
    have M52 := Lib.hid (T41.out.load)
    have c53 := put_book b w38 F43.out
    unfold PutPost GivesT at c53
    simp only [MB.out, if_true] at c53
    rw [EB.out] at c53
    have C54 := Lib.hid (c53)
    clear c53
    go_wp2_with (first | ((with_reducible refine wpList_load_by (o := ⟨some 24, .load 24 (.tmp 3), _, _, _, _⟩) ?e1 24 (.tmp 3) ?e2 ⟨(w.heap.size + 1), 0, none⟩ ?e3 _ M52.out ?_); (case e1 => rfl); (case e2 => rfl); (case e3 => rfl)))
    refine C54.out.mono ?_
    rintro e w55 ⟨A45, n46, k47, rfl, h48, h49, h50, h51, hb56⟩
    have T57 := Lib.hid (T40.out.below hb56 T40.out.lt)
    have T58 := Lib.hid (T41.out.below hb56 T41.out.lt)
    have F59 := Lib.hid (F42.out.below hb56 (Nat.le_refl _))
    have F60 := Lib.hid (F43.out.below hb56 (Nat.le_refl _))
    have B61 := Lib.hid (B44.out.trans (hb56.mono B44.out.size))
    clear hb56
    have N62 := Lib.hid (h48)
    have N63 := Lib.hid (h49)
    have N64 := Lib.hid (h50)
    have Y65 := Lib.hid (BsAt.own h51)
    clear h48 h49 h50 h51
    go_wp2
    go_ret
    exact ⟨rfl, B61.out⟩)
set_option maxHeartbeats 8000000 in
theorem csame_s10 (a b : Bk) (w : World) (hlaid : Laid w) (wa : BkAt w a) (wb : BkAt w b) (va vb : Bool) (iA : fewB a.rs = va) (iB : fewB b.rs = vb) (iMA : bmay a.rs = true) (iMB : bmay b.rs = false) :
    Calls Tryz.prog 8 #[.agg #[.slice a.A a.xs.length a.c], .agg #[.slice b.A b.xs.length b.c]] w fun e w' => e = .returned (.bool true) ∧ Below w.heap.size w w' := by
  cases va <;> cases vb
  all_goals (
    have HLA := Lib.hid (fun (X : World) (hX : Below w.heap.size w X) => hlaid.below hX (Nat.le_refl _))
    have Fa := Lib.hid wa
    have Fb := Lib.hid wb
    have hoka := bk_ok wa
    have hok := bk_ok wb
    have PA := Lib.hid iA
    have PB := Lib.hid iB
    have MA := Lib.hid iMA
    have MB := Lib.hid iMB
    generalize hZ1 : benc a.rs = ZA at *
    have EA := Lib.hid hZ1
    clear hZ1
    clear iA iB iMA iMB hlaid wa wb hok hoka
    have B1 := Lib.hid (Below.refl w.heap.size w)
    have T2n := BoAt.new w (.slice a.A a.xs.length a.c)
    have T2 := Lib.hid T2n
    clear T2n
    have B3 := Lib.hid (B1.out.alloc B1.out.size (.cells #[(.slice a.A a.xs.length a.c)] 24))
    have T4 := Lib.hid (T2.out.old (.cells #[(.slice b.A b.xs.length b.c)] 24))
    have T5n := BoAt.new (w.alloc (.cells #[(.slice a.A a.xs.length a.c)] 24)) (.slice b.A b.xs.length b.c)
    simp only [World.size_alloc] at T5n
    have T5 := Lib.hid T5n
    clear T5n
    have B6 := Lib.hid (B3.out.alloc B3.out.size (.cells #[(.slice b.A b.xs.length b.c)] 24))
    have F7 := Lib.hid (Fa.out.below B6.out (Nat.le_refl _))
    have F8 := Lib.hid (Fb.out.below B6.out (Nat.le_refl _))
    go_enter Tryz.func8, Tryz.ntmps8
    have C9 := Lib.hid (caAwake ((w.alloc (.cells #[(.slice a.A a.xs.length a.c)] 24)).alloc (.cells #[(.slice b.A b.xs.length b.c)] 24)) (HLA.out _ B6.out))
    go_wp2_with fail
    refine C9.out.mono ?_
    rintro e w10 ⟨rfl, hb11⟩
    have T12 := Lib.hid (T4.out.below hb11 T4.out.lt)
    have T13 := Lib.hid (T5.out.below hb11 T5.out.lt)
    have F14 := Lib.hid (F7.out.below hb11 (Nat.le_refl _))
    have F15 := Lib.hid (F8.out.below hb11 (Nat.le_refl _))
    have B16 := Lib.hid (B6.out.trans (hb11.mono B6.out.size))
    clear hb11
    have M17 := Lib.hid (T12.out.load)
    have C18 := Lib.hid (fewB_any a w10 F14.out)
    rw [PA.out] at C18
    go_wp2_with (first | ((with_reducible refine wpList_load_by (o := ⟨some 14, .load 24 (.tmp 2), _, _, _, _⟩) ?e1 24 (.tmp 2) ?e2 ⟨w.heap.size, 0, none⟩ ?e3 _ M17.out ?_); (case e1 => rfl); (case e2 => rfl); (case e3 => rfl)))
    refine C18.out.mono ?_
    rintro e w19 ⟨rfl, hb20⟩
    have T21 := Lib.hid (T12.out.below hb20 T12.out.lt)
    have T22 := Lib.hid (T13.out.below hb20 T13.out.lt)
    have F23 := Lib.hid (F14.out.below hb20 (Nat.le_refl _))
    have F24 := Lib.hid (F15.out.below hb20 (Nat.le_refl _))
    have B25 := Lib.hid (B16.out.trans (hb20.mono B16.out.size))
    clear hb20
    have M26 := Lib.hid (T22.out.load)
    have C27 := Lib.hid (fewB_any b w19 F24.out)
    rw [PB.out] at C27
    go_wp2_with (first | ((with_reducible refine wpList_load_by (o := ⟨some 16, .load 24 (.tmp 3), _, _, _, _⟩) ?e1 24 (.tmp 3) ?e2 ⟨(w.heap.size + 1), 0, none⟩ ?e3 _ M26.out ?_); (case e1 => rfl); (case e2 => rfl); (case e3 => rfl)))
    refine C27.out.mono ?_
    rintro e w28 ⟨rfl, hb29⟩
    have T30 := Lib.hid (T21.out.below hb29 T21.out.lt)
    have T31 := Lib.hid (T22.out.below hb29 T22.out.lt)
    have F32 := Lib.hid (F23.out.below hb29 (Nat.le_refl _))
    have F33 := Lib.hid (F24.out.below hb29 (Nat.le_refl _))
    have B34 := Lib.hid (B25.out.trans (hb29.mono B25.out.size))
    clear hb29
    have M42 := Lib.hid (T30.out.load)
    have c43 := put_book a w28 F32.out
    unfold PutPost GivesT at c43
    simp only [MA.out, if_true] at c43
    rw [EA.out] at c43
    have C44 := Lib.hid (c43)
    clear c43
    go_wp2_with (first | ((with_reducible refine wpList_load_by (o := ⟨some 19, .load 24 (.tmp 2), _, _, _, _⟩) ?e1 24 (.tmp 2) ?e2 ⟨w.heap.size, 0, none⟩ ?e3 _ M42.out ?_); (case e1 => rfl); (case e2 => rfl); (case e3 => rfl)))
    refine C44.out.mono ?_
    rintro e w45 ⟨A35, n36, k37, rfl, h38, h39, h40, h41, hb46⟩
    have T47 := Lib.hid (T30.out.below hb46 T30.out.lt)
    have T48 := Lib.hid (T31.out.below hb46 T31.out.lt)
    have F49 := Lib.hid (F32.out.below hb46 (Nat.le_refl _))
    have F50 := Lib.hid (F33.out.below hb46 (Nat.le_refl _))
    have B51 := Lib.hid (B34.out.trans (hb46.mono B34.out.size))
    clear hb46
    have N52 := Lib.hid (h38)
    have N53 := Lib.hid (h39)
    have N54 := Lib.hid (h40)
    have Y55 := Lib.hid (BsAt.own h41)
    clear h38 h39 h40 h41
    have M56 := Lib.hid (T48.out.load)
    have c57 := put_book b w45 F50.out
    unfold PutPost at c57
    simp only [MB.out, Bool.false_eq_true, if_false] at c57
    have C58 := Lib.hid (c57)
    clear c57
    go_wp2_with (first | ((with_reducible refine wpList_load_by (o := ⟨some 24, .load 24 (.tmp 3), _, _, _, _⟩) ?e1 24 (.tmp 3) ?e2 ⟨(w.heap.size + 1), 0, none⟩ ?e3 _ M56.out ?_); (case e1 => rfl); (case e2 => rfl); (case e3 => rfl)))
    refine C58.out.mono ?_
    rintro e w59 ⟨rfl, hb60⟩
    have T61 := Lib.hid (T47.out.below hb60 T47.out.lt)
    have T62 := Lib.hid (T48.out.below hb60 T48.out.lt)
    have F63 := Lib.hid (F49.out.below hb60 (Nat.le_refl _))
    have F64 := Lib.hid (F50.out.below hb60 (Nat.le_refl _))
    have F65 := Lib.hid (Y55.out.below hb60 (Nat.le_refl _))
    have B66 := Lib.hid (B51.out.trans (hb60.mono B51.out.size))
    clear hb60
    go_wp2
    go_ret
    exact ⟨rfl, B66.out⟩)
set_option maxHeartbeats 8000000 in
theorem csame_s11 (a b : Bk) (w : World) (hlaid : Laid w) (wa : BkAt w a) (wb : BkAt w b) (va vb : Bool) (iA : fewB a.rs = va) (iB : fewB b.rs = vb) (iMA : bmay a.rs = true) (iMB : bmay b.rs = true) (iV : (va && vb) = false) :
    Calls Tryz.prog 8 #[.agg #[.slice a.A a.xs.length a.c], .agg #[.slice b.A b.xs.length b.c]] w fun e w' => e = .returned (.bool true) ∧ Below w.heap.size w w' := by
  cases va <;> cases vb
  all_goals first | (exact absurd iV (by decide)) | skip
  all_goals (
    have HLA := Lib.hid (fun (X : World) (hX : Below w.heap.size w X) => hlaid.below hX (Nat.le_refl _))
    have Fa := Lib.hid wa
    have Fb := Lib.hid wb
    have hoka := bk_ok wa
    have hok := bk_ok wb
    have PA := Lib.hid iA
    have PB := Lib.hid iB
    have MA := Lib.hid iMA
    have MB := Lib.hid iMB
    generalize hZ1 : benc a.rs = ZA at *
    have EA := Lib.hid hZ1
    clear hZ1
    generalize hZ2 : benc b.rs = ZB at *
    have EB := Lib.hid hZ2
    clear hZ2
    clear iA iB iMA iMB hlaid wa wb hok hoka
    have B1 := Lib.hid (Below.refl w.heap.size w)
    have T2n := BoAt.new w (.slice a.A a.xs.length a.c)
    have T2 := Lib.hid T2n
    clear T2n
    have B3 := Lib.hid (B1.out.alloc B1.out.size (.cells #[(.slice a.A a.xs.length a.c)] 24))
    have T4 := Lib.hid (T2.out.old (.cells #[(.slice b.A b.xs.length b.c)] 24))
    have T5n := BoAt.new (w.alloc (.cells #[(.slice a.A a.xs.length a.c)] 24)) (.slice b.A b.xs.length b.c)
    simp only [World.size_alloc] at T5n
    have T5 := Lib.hid T5n
    clear T5n
    have B6 := Lib.hid (B3.out.alloc B3.out.size (.cells #[(.slice b.A b.xs.length b.c)] 24))
    have F7 := Lib.hid (Fa.out.below B6.out (Nat.le_refl _))
    have F8 := Lib.hid (Fb.out.below B6.out (Nat.le_refl _))
    go_enter Tryz.func8, Tryz.ntmps8
    have C9 := Lib.hid (caAwake ((w.alloc (.cells #[(.slice a.A a.xs.length a.c)] 24)).alloc (.cells #[(.slice b.A b.xs.length b.c)] 24)) (HLA.out _ B6.out))
    go_wp2_with fail
    refine C9.out.mono ?_
    rintro e w10 ⟨rfl, hb11⟩
    have T12 := Lib.hid (T4.out.below hb11 T4.out.lt)
    have T13 := Lib.hid (T5.out.below hb11 T5.out.lt)
    have F14 := Lib.hid (F7.out.below hb11 (Nat.le_refl _))
    have F15 := Lib.hid (F8.out.below hb11 (Nat.le_refl _))
    have B16 := Lib.hid (B6.out.trans (hb11.mono B6.out.size))
    clear hb11
    have M17 := Lib.hid (T12.out.load)
    have C18 := Lib.hid (fewB_any a w10 F14.out)
    rw [PA.out] at C18
    go_wp2_with (first | ((with_reducible refine wpList_load_by (o := ⟨some 14, .load 24 (.tmp 2), _, _, _, _⟩) ?e1 24 (.tmp 2) ?e2 ⟨w.heap.size, 0, none⟩ ?e3 _ M17.out ?_); (case e1 => rfl); (case e2 => rfl); (case e3 => rfl)))
    refine C18.out.mono ?_
    rintro e w19 ⟨rfl, hb20⟩
    have T21 := Lib.hid (T12.out.below hb20 T12.out.lt)
    have T22 := Lib.hid (T13.out.below hb20 T13.out.lt)
    have F23 := Lib.hid (F14.out.below hb20 (Nat.le_refl _))
    have F24 := Lib.hid (F15.out.below hb20 (Nat.le_refl _))
    have B25 := Lib.hid (B16.out.trans (hb20.mono B16.out.size))
    clear hb20
    have M26 := Lib.hid (T22.out.load)
    have C27 := Lib.hid (fewB_any b w19 F24.out)
    rw [PB.out] at C27
    go_wp2_with (first | ((with_reducible refine wpList_load_by (o := ⟨some 16, .load 24 (.tmp 3), _, _, _, _⟩) ?e1 24 (.tmp 3) ?e2 ⟨(w.heap.size + 1), 0, none⟩ ?e3 _ M26.out ?_); (case e1 => rfl); (case e2 => rfl); (case e3 => rfl)))
    refine C27.out.mono ?_
    rintro e w28 ⟨rfl, hb29⟩
    have T30 := Lib.hid (T21.out.below hb29 T21.out.lt)
    have T31 := Lib.hid (T22.out.below hb29 T22.out.lt)
    have F32 := Lib.hid (F23.out.below hb29 (Nat.le_refl _))
    have F33 := Lib.hid (F24.out.below hb29 (Nat.le_refl _))
    have B34 := Lib.hid (B25.out.trans (hb29.mono B25.out.size))
    clear hb29
    have M42 := Lib.hid (T30.out.load)
    have c43 := put_book a w28 F32.out
    unfold PutPost GivesT at c43
    simp only [MA.out, if_true] at c43
    rw [EA.out] at c43
    have C44 := Lib.hid (c43)
    clear c43
    go_wp2_with (first | ((with_reducible refine wpList_load_by (o := ⟨some 19, .load 24 (.tmp 2), _, _, _, _⟩) ?e1 24 (.tmp 2) ?e2 ⟨w.heap.size, 0, none⟩ ?e3 _ M42.out ?_); (case e1 => rfl); (case e2 => rfl); (case e3 => rfl)))
    refine C44.out.mono ?_
    rintro e w45 ⟨A35, n36, k37, rfl, h38, h39, h40, h41, hb46⟩
    have T47 := Lib.hid (T30.out.below hb46 T30.out.lt)
    have T48 := Lib.hid (T31.out.below hb46 T31.out.lt)
    have F49 := Lib.hid (F32.out.below hb46 (Nat.le_refl _))
    have F50 := Lib.hid (F33.out.below hb46 (Nat.le_refl _))
    have B51 := Lib.hid (B34.out.trans (hb46.mono B34.out.size))
    clear hb46
    have N52 := Lib.hid (h38)
    have N53 := Lib.hid (h39)
    have N54 := Lib.hid (h40)
    have Y55 := Lib.hid (BsAt.own h41)
    clear h38 h39 h40 h41
    have M63 := Lib.hid (T48.out.load)
    have c64 := put_book b w45 F50.out
    unfold PutPost GivesT at c64
    simp only [MB.out, if_true] at c64
    rw [EB.out] at c64
    have C65 := Lib.hid (c64)
    clear c64
    go_wp2_with (first | ((with_reducible refine wpList_load_by (o := ⟨some 24, .load 24 (.tmp 3), _, _, _, _⟩) ?e1 24 (.tmp 3) ?e2 ⟨(w.heap.size + 1), 0, none⟩ ?e3 _ M63.out ?_); (case e1 => rfl); (case e2 => rfl); (case e3 => rfl)))
    refine C65.out.mono ?_
    rintro e w66 ⟨A56, n57, k58, rfl, h59, h60, h61, h62, hb67⟩
    have T68 := Lib.hid (T47.out.below hb67 T47.out.lt)
    have T69 := Lib.hid (T48.out.below hb67 T48.out.lt)
    have F70 := Lib.hid (F49.out.below hb67 (Nat.le_refl _))
    have F71 := Lib.hid (F50.out.below hb67 (Nat.le_refl _))
    have F72 := Lib.hid (Y55.out.below hb67 (Nat.le_refl _))
    have B73 := Lib.hid (B51.out.trans (hb67.mono B51.out.size))
    clear hb67
    have N74 := Lib.hid (h59)
    have N75 := Lib.hid (h60)
    have N76 := Lib.hid (h61)
    have Y77 := Lib.hid (BsAt.own h62)
    clear h59 h60 h61 h62
    go_wp2
    go_ret
    exact ⟨rfl, B73.out⟩)
set_option maxHeartbeats 8000000 in
theorem csame_yes (a b : Bk) (w : World) (hlaid : Laid w) (wa : BkAt w a) (wb : BkAt w b) (iA : fewB a.rs = true) (iB : fewB b.rs = true) (iMA : bmay a.rs = true) (iMB : bmay b.rs = true) (iS : bsame a.rs b.rs = true) :
    Calls Tryz.prog 8 #[.agg #[.slice a.A a.xs.length a.c], .agg #[.slice b.A b.xs.length b.c]] w fun e w' => e = .returned (.bool true) ∧ Below w.heap.size w w' := by
  have HLA := Lib.hid (fun (X : World) (hX : Below w.heap.size w X) => hlaid.below hX (Nat.le_refl _))
  have Fa := Lib.hid wa
  have Fb := Lib.hid wb
  have hoka := bk_ok wa
  have hok := bk_ok wb
  have PA := Lib.hid iA
  have PB := Lib.hid iB
  have MA := Lib.hid iMA
  have MB := Lib.hid iMB
  have SM := Lib.hid iS
  have hab := bsame_iff.1 iS
  have EXA := Lib.hid (show bbs a.rs = benc a.rs by unfold bbs; rw [iMA]; rfl)
  have EXB := Lib.hid (show bbs b.rs = benc a.rs by unfold bbs; rw [iMB, ← hab]; rfl)
  have EB0 : benc b.rs = benc a.rs := by rw [hab]
  generalize hZ1 : benc a.rs = ZA at *
  have EA := Lib.hid hZ1
  have EB := Lib.hid EB0
  have h4 : ((strOfNums ZA).toList == (strOfNums ZA).toList) = true := (str_beq _ _).2 rfl
  have HQ := fun w => eq_dig (SH.sum_bytes ZA) (SH.sum_bytes ZA) (SH.sum_len ZA) (SH.sum_len ZA) w
  simp only [beq_self_eq_true] at HQ
  clear hZ1 hab EB0 iS
  clear iA iB iMA iMB hlaid wa wb hok hoka
  have B1 := Lib.hid (Below.refl w.heap.size w)
  have T2n := BoAt.new w (.slice a.A a.xs.length a.c)
  have T2 := Lib.hid T2n
  clear T2n
  have B3 := Lib.hid (B1.out.alloc B1.out.size (.cells #[(.slice a.A a.xs.length a.c)] 24))
  have T4 := Lib.hid (T2.out.old (.cells #[(.slice b.A b.xs.length b.c)] 24))
  have T5n := BoAt.new (w.alloc (.cells #[(.slice a.A a.xs.length a.c)] 24)) (.slice b.A b.xs.length b.c)
  simp only [World.size_alloc] at T5n
  have T5 := Lib.hid T5n
  clear T5n
  have B6 := Lib.hid (B3.out.alloc B3.out.size (.cells #[(.slice b.A b.xs.length b.c)] 24))
  have F7 := Lib.hid (Fa.out.below B6.out (Nat.le_refl _))
  have F8 := Lib.hid (Fb.out.below B6.out (Nat.le_refl _))
  go_enter Tryz.func8, Tryz.ntmps8
  have C9 := Lib.hid (caAwake ((w.alloc (.cells #[(.slice a.A a.xs.length a.c)] 24)).alloc (.cells #[(.slice b.A b.xs.length b.c)] 24)) (HLA.out _ B6.out))
  go_wp2_with fail
  refine C9.out.mono ?_
  rintro e w10 ⟨rfl, hb11⟩
  have T12 := Lib.hid (T4.out.below hb11 T4.out.lt)
  have T13 := Lib.hid (T5.out.below hb11 T5.out.lt)
  have F14 := Lib.hid (F7.out.below hb11 (Nat.le_refl _))
  have F15 := Lib.hid (F8.out.below hb11 (Nat.le_refl _))
  have B16 := Lib.hid (B6.out.trans (hb11.mono B6.out.size))
  clear hb11
  have M17 := Lib.hid (T12.out.load)
  have C18 := Lib.hid (fewB_any a w10 F14.out)
  rw [PA.out] at C18
  go_wp2_with (first | ((with_reducible refine wpList_load_by (o := ⟨some 14, .load 24 (.tmp 2), _, _, _, _⟩) ?e1 24 (.tmp 2) ?e2 ⟨w.heap.size, 0, none⟩ ?e3 _ M17.out ?_); (case e1 => rfl); (case e2 => rfl); (case e3 => rfl)))
  refine C18.out.mono ?_
  rintro e w19 ⟨rfl, hb20⟩
  have T21 := Lib.hid (T12.out.below hb20 T12.out.lt)
  have T22 := Lib.hid (T13.out.below hb20 T13.out.lt)
  have F23 := Lib.hid (F14.out.below hb20 (Nat.le_refl _))
  have F24 := Lib.hid (F15.out.below hb20 (Nat.le_refl _))
  have B25 := Lib.hid (B16.out.trans (hb20.mono B16.out.size))
  clear hb20
  have M26 := Lib.hid (T22.out.load)
  have C27 := Lib.hid (fewB_any b w19 F24.out)
  rw [PB.out] at C27
  go_wp2_with (first | ((with_reducible refine wpList_load_by (o := ⟨some 16, .load 24 (.tmp 3), _, _, _, _⟩) ?e1 24 (.tmp 3) ?e2 ⟨(w.heap.size + 1), 0, none⟩ ?e3 _ M26.out ?_); (case e1 => rfl); (case e2 => rfl); (case e3 => rfl)))
  refine C27.out.mono ?_
  rintro e w28 ⟨rfl, hb29⟩
  have T30 := Lib.hid (T21.out.below hb29 T21.out.lt)
  have T31 := Lib.hid (T22.out.below hb29 T22.out.lt)
  have F32 := Lib.hid (F23.out.below hb29 (Nat.le_refl _))
  have F33 := Lib.hid (F24.out.below hb29 (Nat.le_refl _))
  have B34 := Lib.hid (B25.out.trans (hb29.mono B25.out.size))
  clear hb29
  have M42 := Lib.hid (T30.out.load)
  have c43 := put_book a w28 F32.out
  unfold PutPost GivesT at c43
  simp only [MA.out, if_true] at c43
  rw [EA.out] at c43
  have C44 := Lib.hid (c43)
  clear c43
  go_wp2_with (first | ((with_reducible refine wpList_load_by (o := ⟨some 19, .load 24 (.tmp 2), _, _, _, _⟩) ?e1 24 (.tmp 2) ?e2 ⟨w.heap.size, 0, none⟩ ?e3 _ M42.out ?_); (case e1 => rfl); (case e2 => rfl); (case e3 => rfl)))
  refine C44.out.mono ?_
  rintro e w45 ⟨A35, n36, k37, rfl, h38, h39, h40, h41, hb46⟩
  have T47 := Lib.hid (T30.out.below hb46 T30.out.lt)
  have T48 := Lib.hid (T31.out.below hb46 T31.out.lt)
  have F49 := Lib.hid (F32.out.below hb46 (Nat.le_refl _))
  have F50 := Lib.hid (F33.out.below hb46 (Nat.le_refl _))
  have B51 := Lib.hid (B34.out.trans (hb46.mono B34.out.size))
  clear hb46
  have N52 := Lib.hid (h38)
  have N53 := Lib.hid (h39)
  have N54 := Lib.hid (h40)
  have Y55 := Lib.hid (BsAt.own h41)
  clear h38 h39 h40 h41
  have M63 := Lib.hid (T48.out.load)
  have c64 := put_book b w45 F50.out
  unfold PutPost GivesT at c64
  simp only [MB.out, if_true] at c64
  rw [EB.out] at c64
  have C65 := Lib.hid (c64)
  clear c64
  go_wp2_with (first | ((with_reducible refine wpList_load_by (o := ⟨some 24, .load 24 (.tmp 3), _, _, _, _⟩) ?e1 24 (.tmp 3) ?e2 ⟨(w.heap.size + 1), 0, none⟩ ?e3 _ M63.out ?_); (case e1 => rfl); (case e2 => rfl); (case e3 => rfl)))
  refine C65.out.mono ?_
  rintro e w66 ⟨A56, n57, k58, rfl, h59, h60, h61, h62, hb67⟩
  have T68 := Lib.hid (T47.out.below hb67 T47.out.lt)
  have T69 := Lib.hid (T48.out.below hb67 T48.out.lt)
  have F70 := Lib.hid (F49.out.below hb67 (Nat.le_refl _))
  have F71 := Lib.hid (F50.out.below hb67 (Nat.le_refl _))
  have F72 := Lib.hid (Y55.out.below hb67 (Nat.le_refl _))
  have B73 := Lib.hid (B51.out.trans (hb67.mono B51.out.size))
  clear hb67
  have N74 := Lib.hid (h59)
  have N75 := Lib.hid (h60)
  have N76 := Lib.hid (h61)
  have Y77 := Lib.hid (BsAt.own h62)
  clear h59 h60 h61 h62
  have M78 := Lib.hid (T68.out.load)
  have M79 := Lib.hid (T69.out.load)
  have C80 := Lib.hid (bsame_any a b w66 F70.out F71.out)
  rw [SM.out] at C80
  go_wp2_with (first | ((with_reducible refine wpList_load_by (o := ⟨some 47, .load 24 (.tmp 2), _, _, _, _⟩) ?e1 24 (.tmp 2) ?e2 ⟨w.heap.size, 0, none⟩ ?e3 _ M78.out ?_); (case e1 => rfl); (case e2 => rfl); (case e3 => rfl)) | ((with_reducible refine wpList_load_by (o := ⟨some 48, .load 24 (.tmp 3), _, _, _, _⟩) ?e1 24 (.tmp 3) ?e2 ⟨(w.heap.size + 1), 0, none⟩ ?e3 _ M79.out ?_); (case e1 => rfl); (case e2 => rfl); (case e3 => rfl)))
  refine C80.out.mono ?_
  rintro e w81 ⟨rfl, hb82⟩
  have T83 := Lib.hid (T68.out.below hb82 T68.out.lt)
  have T84 := Lib.hid (T69.out.below hb82 T69.out.lt)
  have F85 := Lib.hid (F70.out.below hb82 (Nat.le_refl _))
  have F86 := Lib.hid (F71.out.below hb82 (Nat.le_refl _))
  have F87 := Lib.hid (F72.out.below hb82 (Nat.le_refl _))
  have F88 := Lib.hid (Y77.out.below hb82 (Nat.le_refl _))
  have B89 := Lib.hid (B73.out.trans (hb82.mono B73.out.size))
  clear hb82
  have U90 := Lib.hid (fun (w9 : World) (hS : Below w81.heap.size w81 w9) => digest_any a w9 (HLA.out _ (B89.out.trans (hS.mono B89.out.size))) (F85.out.below hS (Nat.le_refl _)))
  unfold DSumPost at U90
  rw [EXA.out] at U90
  have U91 := Lib.hid (fun (w9 : World) (hS : Below w81.heap.size w81 w9) => digest_any b w9 (HLA.out _ (B89.out.trans (hS.mono B89.out.size))) (F86.out.below hS (Nat.le_refl _)))
  unfold DSumPost at U91
  rw [EXB.out] at U91
  generalize bvals (SH.sum ZA) = DD at *
  go_wp2_with fail
  refine wp_region_G w81 (by kernel_rfl) ?_
  refine wpG_take (i := 0) (oi := ⟨some 50, _, _, _, _, _⟩) (v := ?_) rfl (by kernel_rfl) (by kernel_rfl) (by kernel_rfl) (Or.inl ⟨by rfl, unib_val ?_⟩) ?_; rotate_left; (focus (intro w9 hSw; go_simp; try with_reducible rfl)); simp only [Act.put, List.setIfInBounds_toArray, List.set_cons_zero, List.set_cons_succ]
  refine wpG_take (i := 1) (oi := ⟨some 51, _, _, _, _, _⟩) (v := (.string (strOfNums ZA))) rfl (by kernel_rfl) (by kernel_rfl) (by kernel_rfl) (Or.inl ⟨by rfl, unib_val ?_⟩) ?_; (focus (intro w9 hSw; have q0 := (F87.out.below hSw (Nat.le_refl _)).1.text (P := Tryz.prog) (len := n36) (cap := k37) N52.out 46 5 9 Tryz.underlying46 Tryz.underlying5 Tryz.underlying9; go_simp; try rfl)); simp only [Act.put, List.setIfInBounds_toArray, List.set_cons_zero, List.set_cons_succ]
  refine wpG_take (i := 2) (oi := ⟨some 52, _, _, _, _, _⟩) (v := ?_) rfl (by kernel_rfl) (by kernel_rfl) (by kernel_rfl) (Or.inl ⟨by rfl, unib_val ?_⟩) ?_; rotate_left; (focus (intro w9 hSw; go_simp; try with_reducible rfl)); simp only [Act.put, List.setIfInBounds_toArray, List.set_cons_zero, List.set_cons_succ]
  refine wpG_take (i := 3) (oi := ⟨some 53, _, _, _, _, _⟩) (v := (.string (strOfNums ZA))) rfl (by kernel_rfl) (by kernel_rfl) (by kernel_rfl) (Or.inl ⟨by rfl, unib_val ?_⟩) ?_; (focus (intro w9 hSw; have q0 := (F88.out.below hSw (Nat.le_refl _)).1.text (P := Tryz.prog) (len := n57) (cap := k58) N74.out 46 5 9 Tryz.underlying46 Tryz.underlying5 Tryz.underlying9; go_simp; try rfl)); simp only [Act.put, List.setIfInBounds_toArray, List.set_cons_zero, List.set_cons_succ]
  refine wpG_take (i := 4) (oi := ⟨some 54, _, _, _, _, _⟩) (v := ?_) rfl (by kernel_rfl) (by kernel_rfl) (by kernel_rfl) (Or.inl ⟨by rfl, unib_val ?_⟩) ?_; rotate_left; (focus (intro w9 hSw; go_simp; try with_reducible rfl)); simp only [Act.put, List.setIfInBounds_toArray, List.set_cons_zero, List.set_cons_succ]
  refine wpG_take (i := 5) (oi := ⟨some 55, _, _, _, _, _⟩) (v := ?_) rfl (by kernel_rfl) (by kernel_rfl) (by kernel_rfl) (Or.inl ⟨by rfl, unib_val ?_⟩) ?_; rotate_left; (focus (intro w9 hSw; go_simp; try with_reducible rfl)); simp only [Act.put, List.setIfInBounds_toArray, List.set_cons_zero, List.set_cons_succ]
  refine wpG_take (i := 6) (oi := ⟨some 56, _, _, _, _, _⟩) (v := ?_) rfl (by kernel_rfl) (by kernel_rfl) (by kernel_rfl) (Or.inl ⟨by rfl, unib_val ?_⟩) ?_; rotate_left; (focus (intro w9 hSw; go_simp; try with_reducible rfl)); simp only [Act.put, List.setIfInBounds_toArray, List.set_cons_zero, List.set_cons_succ]
  refine wpG_take (i := 7) (oi := ⟨some 57, _, _, _, _, _⟩) (v := ?_) rfl (by kernel_rfl) (by kernel_rfl) (by kernel_rfl) (Or.inl ⟨by rfl, unib_val ?_⟩) ?_; rotate_left; (focus (intro w9 hSw; go_simp; try with_reducible rfl)); simp only [Act.put, List.setIfInBounds_toArray, List.set_cons_zero, List.set_cons_succ]
  refine wpG_take (i := 8) (oi := ⟨some 58, _, _, _, _, _⟩) (v := ?_) rfl (by kernel_rfl) (by kernel_rfl) (by kernel_rfl) (Or.inl ⟨by rfl, unib_val ?_⟩) ?_; rotate_left; (focus (intro w9 hSw; go_simp; try with_reducible rfl)); simp only [Act.put, List.setIfInBounds_toArray, List.set_cons_zero, List.set_cons_succ]
  refine wpG_take (i := 9) (oi := ⟨some 59, _, _, _, _, _⟩) (v := ?_) rfl (by kernel_rfl) (by kernel_rfl) (by kernel_rfl) (Or.inl ⟨by rfl, unib_val ?_⟩) ?_; rotate_left; (focus (intro w9 hSw; go_simp; try with_reducible rfl)); simp only [Act.put, List.setIfInBounds_toArray, List.set_cons_zero, List.set_cons_succ]
  refine wpG_take (i := 10) (oi := ⟨some 60, _, _, _, _, _⟩) (v := ?_) rfl (by kernel_rfl) (by kernel_rfl) (by kernel_rfl) (Or.inl ⟨by rfl, unib_val ?_⟩) ?_; rotate_left; (focus (intro w9 hSw; go_simp; try with_reducible rfl)); simp only [Act.put, List.setIfInBounds_toArray, List.set_cons_zero, List.set_cons_succ]
  refine wpG_take (i := 11) (oi := ⟨some 61, _, _, _, _, _⟩) (v := (.agg #[(.slice a.A a.xs.length a.c)])) rfl (by kernel_rfl) (by kernel_rfl) (by kernel_rfl) (Or.inl ⟨by rfl, unib_val ?_⟩) ?_; (focus (intro w9 hSw; exact exec_load_by 24 _ rfl ⟨w.heap.size, 0, none⟩ rfl (T83.out.below hSw T83.out.lt).load)); simp only [Act.put, List.setIfInBounds_toArray, List.set_cons_zero, List.set_cons_succ]
  refine wpG_take (i := 12) (oi := ⟨some 62, _, _, _, _, _⟩) rfl (by kernel_rfl) (by kernel_rfl) (by kernel_rfl) (Or.inl ⟨by rfl, unib_call_if ?_ (fun w9 hS => U90.out w9 hS)⟩) ?_; (focus (intro w9 hSw; go_simp; try with_reducible rfl)); simp only [Act.put, List.setIfInBounds_toArray, List.set_cons_zero, List.set_cons_succ]
  refine wpG_take (i := 13) (oi := ⟨some 63, _, _, _, _, _⟩) (v := (.agg #[(.slice b.A b.xs.length b.c)])) rfl (by kernel_rfl) (by kernel_rfl) (by kernel_rfl) (Or.inl ⟨by rfl, unib_val ?_⟩) ?_; (focus (intro w9 hSw; exact exec_load_by 24 _ rfl ⟨(w.heap.size + 1), 0, none⟩ rfl (T84.out.below hSw T84.out.lt).load)); simp only [Act.put, List.setIfInBounds_toArray, List.set_cons_zero, List.set_cons_succ]
  refine wpG_take (i := 14) (oi := ⟨some 64, _, _, _, _, _⟩) rfl (by kernel_rfl) (by kernel_rfl) (by kernel_rfl) (Or.inl ⟨by rfl, unib_call_if ?_ (fun w9 hS => U91.out w9 hS)⟩) ?_; (focus (intro w9 hSw; go_simp; try with_reducible rfl)); simp only [Act.put, List.setIfInBounds_toArray, List.set_cons_zero, List.set_cons_succ]
  refine wpG_take (i := 15) (oi := ⟨some 65, _, _, _, _, _⟩) (v := ?_) rfl (by kernel_rfl) (by kernel_rfl) (by kernel_rfl) (Or.inl ⟨by rfl, unib_val ?_⟩) ?_; rotate_left; (focus (intro w9 hSw; go_simp; try with_reducible rfl)); simp only [Act.put, List.setIfInBounds_toArray, List.set_cons_zero, List.set_cons_succ]
  refine wpG_take (i := 16) (oi := ⟨some 66, _, _, _, _, _⟩) (v := ?_) rfl (by kernel_rfl) (by kernel_rfl) (by kernel_rfl) (Or.inl ⟨by rfl, unib_val ?_⟩) ?_; rotate_left; (focus (intro w9 hSw; go_simp; try with_reducible rfl)); simp only [Act.put, List.setIfInBounds_toArray, List.set_cons_zero, List.set_cons_succ]
  refine wpG_take (i := 17) (oi := ⟨some 67, _, _, _, _, _⟩) (v := ?_) rfl (by kernel_rfl) (by kernel_rfl) (by kernel_rfl) (Or.inl ⟨by rfl, unib_val ?_⟩) ?_; rotate_left; (focus (intro w9 hSw; go_simp; try with_reducible rfl)); simp only [Act.put, List.setIfInBounds_toArray, List.set_cons_zero, List.set_cons_succ]
  refine wpG_take (i := 18) (oi := ⟨some 4, _, _, _, _, _⟩) (v := ?_) rfl (by kernel_rfl) (by kernel_rfl) (by kernel_rfl) (Or.inl ⟨by rfl, unib_val ?_⟩) ?_; rotate_left; (focus (intro w9 hSw; go_simp; try with_reducible rfl)); simp only [Act.put, List.setIfInBounds_toArray, List.set_cons_zero, List.set_cons_succ]
  refine wpG_done (by kernel_rfl) ?_ _
  intro w9 hSw _
  go_wp2
  go_ret
  exact ⟨rfl, B89.out.trans (hSw.mono B89.out.size)⟩
set_option maxHeartbeats 8000000 in
theorem csame_no (a b : Bk) (w : World) (hlaid : Laid w) (wa : BkAt w a) (wb : BkAt w b) (iA : fewB a.rs = true) (iB : fewB b.rs = true) (iMA : bmay a.rs = true) (iMB : bmay b.rs = true) (iS : bsame a.rs b.rs = false) :
    Calls Tryz.prog 8 #[.agg #[.slice a.A a.xs.length a.c], .agg #[.slice b.A b.xs.length b.c]] w fun e w' => e = .returned (.bool true) ∧ Below w.heap.size w w' := by
  have HLA := Lib.hid (fun (X : World) (hX : Below w.heap.size w X) => hlaid.below hX (Nat.le_refl _))
  have Fa := Lib.hid wa
  have Fb := Lib.hid wb
  have hoka := bk_ok wa
  have hok := bk_ok wb
  have PA := Lib.hid iA
  have PB := Lib.hid iB
  have MA := Lib.hid iMA
  have MB := Lib.hid iMB
  have SM := Lib.hid iS
  have h4 : ((strOfNums (benc a.rs)).toList == (strOfNums (benc b.rs)).toList) = false := by
    cases hq : ((strOfNums (benc a.rs)).toList == (strOfNums (benc b.rs)).toList)
    · rfl
    · have e := (strOfNums_inj (benc_bytes iMA hoka) (benc_bytes iMB hok)).1 ((str_beq _ _).1 hq)
      have e2 := (benc_inj iMA iMB (fun R hR => (hoka R hR).1) (fun R hR => (hok R hR).1)).1 e
      rw [bsame_iff.2 e2] at iS
      cases iS
  generalize hZ1 : benc a.rs = ZA at *
  have EA := Lib.hid hZ1
  clear hZ1
  generalize hZ2 : benc b.rs = ZB at *
  have EB := Lib.hid hZ2
  clear hZ2
  clear iS
  clear iA iB iMA iMB hlaid wa wb hok hoka
  have B1 := Lib.hid (Below.refl w.heap.size w)
  have T2n := BoAt.new w (.slice a.A a.xs.length a.c)
  have T2 := Lib.hid T2n
  clear T2n
  have B3 := Lib.hid (B1.out.alloc B1.out.size (.cells #[(.slice a.A a.xs.length a.c)] 24))
  have T4 := Lib.hid (T2.out.old (.cells #[(.slice b.A b.xs.length b.c)] 24))
  have T5n := BoAt.new (w.alloc (.cells #[(.slice a.A a.xs.length a.c)] 24)) (.slice b.A b.xs.length b.c)
  simp only [World.size_alloc] at T5n
  have T5 := Lib.hid T5n
  clear T5n
  have B6 := Lib.hid (B3.out.alloc B3.out.size (.cells #[(.slice b.A b.xs.length b.c)] 24))
  have F7 := Lib.hid (Fa.out.below B6.out (Nat.le_refl _))
  have F8 := Lib.hid (Fb.out.below B6.out (Nat.le_refl _))
  go_enter Tryz.func8, Tryz.ntmps8
  have C9 := Lib.hid (caAwake ((w.alloc (.cells #[(.slice a.A a.xs.length a.c)] 24)).alloc (.cells #[(.slice b.A b.xs.length b.c)] 24)) (HLA.out _ B6.out))
  go_wp2_with fail
  refine C9.out.mono ?_
  rintro e w10 ⟨rfl, hb11⟩
  have T12 := Lib.hid (T4.out.below hb11 T4.out.lt)
  have T13 := Lib.hid (T5.out.below hb11 T5.out.lt)
  have F14 := Lib.hid (F7.out.below hb11 (Nat.le_refl _))
  have F15 := Lib.hid (F8.out.below hb11 (Nat.le_refl _))
  have B16 := Lib.hid (B6.out.trans (hb11.mono B6.out.size))
  clear hb11
  have M17 := Lib.hid (T12.out.load)
  have C18 := Lib.hid (fewB_any a w10 F14.out)
  rw [PA.out] at C18
  go_wp2_with (first | ((with_reducible refine wpList_load_by (o := ⟨some 14, .load 24 (.tmp 2), _, _, _, _⟩) ?e1 24 (.tmp 2) ?e2 ⟨w.heap.size, 0, none⟩ ?e3 _ M17.out ?_); (case e1 => rfl); (case e2 => rfl); (case e3 => rfl)))
  refine C18.out.mono ?_
  rintro e w19 ⟨rfl, hb20⟩
  have T21 := Lib.hid (T12.out.below hb20 T12.out.lt)
  have T22 := Lib.hid (T13.out.below hb20 T13.out.lt)
  have F23 := Lib.hid (F14.out.below hb20 (Nat.le_refl _))
  have F24 := Lib.hid (F15.out.below hb20 (Nat.le_refl _))
  have B25 := Lib.hid (B16.out.trans (hb20.mono B16.out.size))
  clear hb20
  have M26 := Lib.hid (T22.out.load)
  have C27 := Lib.hid (fewB_any b w19 F24.out)
  rw [PB.out] at C27
  go_wp2_with (first | ((with_reducible refine wpList_load_by (o := ⟨some 16, .load 24 (.tmp 3), _, _, _, _⟩) ?e1 24 (.tmp 3) ?e2 ⟨(w.heap.size + 1), 0, none⟩ ?e3 _ M26.out ?_); (case e1 => rfl); (case e2 => rfl); (case e3 => rfl)))
  refine C27.out.mono ?_
  rintro e w28 ⟨rfl, hb29⟩
  have T30 := Lib.hid (T21.out.below hb29 T21.out.lt)
  have T31 := Lib.hid (T22.out.below hb29 T22.out.lt)
  have F32 := Lib.hid (F23.out.below hb29 (Nat.le_refl _))
  have F33 := Lib.hid (F24.out.below hb29 (Nat.le_refl _))
  have B34 := Lib.hid (B25.out.trans (hb29.mono B25.out.size))
  clear hb29
  have M42 := Lib.hid (T30.out.load)
  have c43 := put_book a w28 F32.out
  unfold PutPost GivesT at c43
  simp only [MA.out, if_true] at c43
  rw [EA.out] at c43
  have C44 := Lib.hid (c43)
  clear c43
  go_wp2_with (first | ((with_reducible refine wpList_load_by (o := ⟨some 19, .load 24 (.tmp 2), _, _, _, _⟩) ?e1 24 (.tmp 2) ?e2 ⟨w.heap.size, 0, none⟩ ?e3 _ M42.out ?_); (case e1 => rfl); (case e2 => rfl); (case e3 => rfl)))
  refine C44.out.mono ?_
  rintro e w45 ⟨A35, n36, k37, rfl, h38, h39, h40, h41, hb46⟩
  have T47 := Lib.hid (T30.out.below hb46 T30.out.lt)
  have T48 := Lib.hid (T31.out.below hb46 T31.out.lt)
  have F49 := Lib.hid (F32.out.below hb46 (Nat.le_refl _))
  have F50 := Lib.hid (F33.out.below hb46 (Nat.le_refl _))
  have B51 := Lib.hid (B34.out.trans (hb46.mono B34.out.size))
  clear hb46
  have N52 := Lib.hid (h38)
  have N53 := Lib.hid (h39)
  have N54 := Lib.hid (h40)
  have Y55 := Lib.hid (BsAt.own h41)
  clear h38 h39 h40 h41
  have M63 := Lib.hid (T48.out.load)
  have c64 := put_book b w45 F50.out
  unfold PutPost GivesT at c64
  simp only [MB.out, if_true] at c64
  rw [EB.out] at c64
  have C65 := Lib.hid (c64)
  clear c64
  go_wp2_with (first | ((with_reducible refine wpList_load_by (o := ⟨some 24, .load 24 (.tmp 3), _, _, _, _⟩) ?e1 24 (.tmp 3) ?e2 ⟨(w.heap.size + 1), 0, none⟩ ?e3 _ M63.out ?_); (case e1 => rfl); (case e2 => rfl); (case e3 => rfl)))
  refine C65.out.mono ?_
  rintro e w66 ⟨A56, n57, k58, rfl, h59, h60, h61, h62, hb67⟩
  have T68 := Lib.hid (T47.out.below hb67 T47.out.lt)
  have T69 := Lib.hid (T48.out.below hb67 T48.out.lt)
  have F70 := Lib.hid (F49.out.below hb67 (Nat.le_refl _))
  have F71 := Lib.hid (F50.out.below hb67 (Nat.le_refl _))
  have F72 := Lib.hid (Y55.out.below hb67 (Nat.le_refl _))
  have B73 := Lib.hid (B51.out.trans (hb67.mono B51.out.size))
  clear hb67
  have N74 := Lib.hid (h59)
  have N75 := Lib.hid (h60)
  have N76 := Lib.hid (h61)
  have Y77 := Lib.hid (BsAt.own h62)
  clear h59 h60 h61 h62
  have M78 := Lib.hid (T68.out.load)
  have M79 := Lib.hid (T69.out.load)
  have C80 := Lib.hid (bsame_any a b w66 F70.out F71.out)
  rw [SM.out] at C80
  go_wp2_with (first | ((with_reducible refine wpList_load_by (o := ⟨some 47, .load 24 (.tmp 2), _, _, _, _⟩) ?e1 24 (.tmp 2) ?e2 ⟨w.heap.size, 0, none⟩ ?e3 _ M78.out ?_); (case e1 => rfl); (case e2 => rfl); (case e3 => rfl)) | ((with_reducible refine wpList_load_by (o := ⟨some 48, .load 24 (.tmp 3), _, _, _, _⟩) ?e1 24 (.tmp 3) ?e2 ⟨(w.heap.size + 1), 0, none⟩ ?e3 _ M79.out ?_); (case e1 => rfl); (case e2 => rfl); (case e3 => rfl)))
  refine C80.out.mono ?_
  rintro e w81 ⟨rfl, hb82⟩
  have T83 := Lib.hid (T68.out.below hb82 T68.out.lt)
  have T84 := Lib.hid (T69.out.below hb82 T69.out.lt)
  have F85 := Lib.hid (F70.out.below hb82 (Nat.le_refl _))
  have F86 := Lib.hid (F71.out.below hb82 (Nat.le_refl _))
  have F87 := Lib.hid (F72.out.below hb82 (Nat.le_refl _))
  have F88 := Lib.hid (Y77.out.below hb82 (Nat.le_refl _))
  have B89 := Lib.hid (B73.out.trans (hb82.mono B73.out.size))
  clear hb82
  go_wp2_with fail
  refine wp_region_G w81 (by kernel_rfl) ?_
  refine wpG_take (i := 0) (oi := ⟨some 50, _, _, _, _, _⟩) (v := ?_) rfl (by kernel_rfl) (by kernel_rfl) (by kernel_rfl) (Or.inl ⟨by rfl, unib_val ?_⟩) ?_; rotate_left; (focus (intro w9 hSw; go_simp; try with_reducible rfl)); simp only [Act.put, List.setIfInBounds_toArray, List.set_cons_zero, List.set_cons_succ]
  refine wpG_take (i := 1) (oi := ⟨some 51, _, _, _, _, _⟩) (v := (.string (strOfNums ZA))) rfl (by kernel_rfl) (by kernel_rfl) (by kernel_rfl) (Or.inl ⟨by rfl, unib_val ?_⟩) ?_; (focus (intro w9 hSw; have q0 := (F87.out.below hSw (Nat.le_refl _)).1.text (P := Tryz.prog) (len := n36) (cap := k37) N52.out 46 5 9 Tryz.underlying46 Tryz.underlying5 Tryz.underlying9; go_simp; try rfl)); simp only [Act.put, List.setIfInBounds_toArray, List.set_cons_zero, List.set_cons_succ]
  refine wpG_take (i := 2) (oi := ⟨some 52, _, _, _, _, _⟩) (v := ?_) rfl (by kernel_rfl) (by kernel_rfl) (by kernel_rfl) (Or.inl ⟨by rfl, unib_val ?_⟩) ?_; rotate_left; (focus (intro w9 hSw; go_simp; try with_reducible rfl)); simp only [Act.put, List.setIfInBounds_toArray, List.set_cons_zero, List.set_cons_succ]
  refine wpG_take (i := 3) (oi := ⟨some 53, _, _, _, _, _⟩) (v := (.string (strOfNums ZB))) rfl (by kernel_rfl) (by kernel_rfl) (by kernel_rfl) (Or.inl ⟨by rfl, unib_val ?_⟩) ?_; (focus (intro w9 hSw; have q0 := (F88.out.below hSw (Nat.le_refl _)).1.text (P := Tryz.prog) (len := n57) (cap := k58) N74.out 46 5 9 Tryz.underlying46 Tryz.underlying5 Tryz.underlying9; go_simp; try rfl)); simp only [Act.put, List.setIfInBounds_toArray, List.set_cons_zero, List.set_cons_succ]
  refine wpG_take (i := 4) (oi := ⟨some 54, _, _, _, _, _⟩) (v := ?_) rfl (by kernel_rfl) (by kernel_rfl) (by kernel_rfl) (Or.inl ⟨by rfl, unib_val ?_⟩) ?_; rotate_left; (focus (intro w9 hSw; go_simp; try with_reducible rfl)); simp only [Act.put, List.setIfInBounds_toArray, List.set_cons_zero, List.set_cons_succ]
  refine wpG_take (i := 5) (oi := ⟨some 55, _, _, _, _, _⟩) (v := ?_) rfl (by kernel_rfl) (by kernel_rfl) (by kernel_rfl) (Or.inl ⟨by rfl, unib_val ?_⟩) ?_; rotate_left; (focus (intro w9 hSw; go_simp; try with_reducible rfl)); simp only [Act.put, List.setIfInBounds_toArray, List.set_cons_zero, List.set_cons_succ]
  refine wpG_take (i := 6) (oi := ⟨some 56, _, _, _, _, _⟩) (v := ?_) rfl (by kernel_rfl) (by kernel_rfl) (by kernel_rfl) (Or.inl ⟨by rfl, unib_val ?_⟩) ?_; rotate_left; (focus (intro w9 hSw; go_simp; try with_reducible rfl)); simp only [Act.put, List.setIfInBounds_toArray, List.set_cons_zero, List.set_cons_succ]
  refine wpG_take (i := 7) (oi := ⟨some 57, _, _, _, _, _⟩) (v := ?_) rfl (by kernel_rfl) (by kernel_rfl) (by kernel_rfl) (Or.inl ⟨by rfl, unib_val ?_⟩) ?_; rotate_left; (focus (intro w9 hSw; go_simp; try with_reducible rfl)); simp only [Act.put, List.setIfInBounds_toArray, List.set_cons_zero, List.set_cons_succ]
  refine wpG_take (i := 8) (oi := ⟨some 58, _, _, _, _, _⟩) (v := ?_) rfl (by kernel_rfl) (by kernel_rfl) (by kernel_rfl) (Or.inl ⟨by rfl, unib_val ?_⟩) ?_; rotate_left; (focus (intro w9 hSw; go_simp; try with_reducible rfl)); simp only [Act.put, List.setIfInBounds_toArray, List.set_cons_zero, List.set_cons_succ]
  refine wpG_take (i := 9) (oi := ⟨some 59, _, _, _, _, _⟩) (v := ?_) rfl (by kernel_rfl) (by kernel_rfl) (by kernel_rfl) (Or.inl ⟨by rfl, unib_val ?_⟩) ?_; rotate_left; (focus (intro w9 hSw; go_simp; try with_reducible rfl)); simp only [Act.put, List.setIfInBounds_toArray, List.set_cons_zero, List.set_cons_succ]
  refine wpG_take (i := 10) (oi := ⟨some 60, _, _, _, _, _⟩) (v := ?_) rfl (by kernel_rfl) (by kernel_rfl) (by kernel_rfl) (Or.inl ⟨by rfl, unib_val ?_⟩) ?_; rotate_left; (focus (intro w9 hSw; go_simp; try with_reducible rfl)); simp only [Act.put, List.setIfInBounds_toArray, List.set_cons_zero, List.set_cons_succ]
  refine wpG_take (i := 11) (oi := ⟨some 61, _, _, _, _, _⟩) rfl (by kernel_rfl) (by kernel_rfl) (by kernel_rfl) (Or.inr ⟨by rfl, rfl⟩) ?_; simp only [Act.put, List.setIfInBounds_toArray, List.set_cons_zero, List.set_cons_succ]
  refine wpG_take (i := 12) (oi := ⟨some 62, _, _, _, _, _⟩) rfl (by kernel_rfl) (by kernel_rfl) (by kernel_rfl) (Or.inr ⟨by rfl, rfl⟩) ?_; simp only [Act.put, List.setIfInBounds_toArray, List.set_cons_zero, List.set_cons_succ]
  refine wpG_take (i := 13) (oi := ⟨some 63, _, _, _, _, _⟩) rfl (by kernel_rfl) (by kernel_rfl) (by kernel_rfl) (Or.inr ⟨by rfl, rfl⟩) ?_; simp only [Act.put, List.setIfInBounds_toArray, List.set_cons_zero, List.set_cons_succ]
  refine wpG_take (i := 14) (oi := ⟨some 64, _, _, _, _, _⟩) rfl (by kernel_rfl) (by kernel_rfl) (by kernel_rfl) (Or.inr ⟨by rfl, rfl⟩) ?_; simp only [Act.put, List.setIfInBounds_toArray, List.set_cons_zero, List.set_cons_succ]
  refine wpG_take (i := 15) (oi := ⟨some 65, _, _, _, _, _⟩) rfl (by kernel_rfl) (by kernel_rfl) (by kernel_rfl) (Or.inr ⟨by rfl, rfl⟩) ?_; simp only [Act.put, List.setIfInBounds_toArray, List.set_cons_zero, List.set_cons_succ]
  refine wpG_take (i := 16) (oi := ⟨some 66, _, _, _, _, _⟩) (v := ?_) rfl (by kernel_rfl) (by kernel_rfl) (by kernel_rfl) (Or.inl ⟨by rfl, unib_val ?_⟩) ?_; rotate_left; (focus (intro w9 hSw; go_simp; try with_reducible rfl)); simp only [Act.put, List.setIfInBounds_toArray, List.set_cons_zero, List.set_cons_succ]
  refine wpG_take (i := 17) (oi := ⟨some 67, _, _, _, _, _⟩) (v := ?_) rfl (by kernel_rfl) (by kernel_rfl) (by kernel_rfl) (Or.inl ⟨by rfl, unib_val ?_⟩) ?_; rotate_left; (focus (intro w9 hSw; go_simp; try with_reducible rfl)); simp only [Act.put, List.setIfInBounds_toArray, List.set_cons_zero, List.set_cons_succ]
  refine wpG_take (i := 18) (oi := ⟨some 4, _, _, _, _, _⟩) (v := ?_) rfl (by kernel_rfl) (by kernel_rfl) (by kernel_rfl) (Or.inl ⟨by rfl, unib_val ?_⟩) ?_; rotate_left; (focus (intro w9 hSw; go_simp; try with_reducible rfl)); simp only [Act.put, List.setIfInBounds_toArray, List.set_cons_zero, List.set_cons_succ]
  refine wpG_done (by kernel_rfl) ?_ _
  intro w9 hSw _
  go_wp2
  go_ret
  exact ⟨rfl, B89.out.trans (hSw.mono B89.out.size)⟩
set_option maxHeartbeats 8000000 in
theorem walk_canonSame (a b : Bk) (w : World) (hlaid : Laid w) (wa : BkAt w a) (wb : BkAt w b) :
    Calls Tryz.prog 8 #[.agg #[.slice a.A a.xs.length a.c], .agg #[.slice b.A b.xs.length b.c]] w fun e w' => e = .returned (.bool true) ∧ Below w.heap.size w w' := by
  cases m : bmay a.rs
  · cases n : bmay b.rs
    · exact csame_s00 a b w hlaid wa wb _ _ rfl rfl m n
    · exact csame_s01 a b w hlaid wa wb _ _ rfl rfl m n
  · cases n : bmay b.rs
    · exact csame_s10 a b w hlaid wa wb _ _ rfl rfl m n
    · cases p : fewB a.rs
      · exact csame_s11 a b w hlaid wa wb _ _ rfl rfl m n (by rw [p]; rfl)
      · cases q : fewB b.rs
        · exact csame_s11 a b w hlaid wa wb _ _ rfl rfl m n (by rw [p, q]; rfl)
        · cases s : bsame a.rs b.rs
          · exact csame_no a b w hlaid wa wb p q m n s
          · exact csame_yes a b w hlaid wa wb p q m n s
end Go.Proofs.YtcmknbdeafcknaaGreatDoor

