import Derived.Test.YtcmknbdeafcknaaGreatDoorCaAwake
import Derived.Test.YtcmknbdeafcknaaGreatDoorBkFew
import Derived.Test.YtcmknbdeafcknaaGreatDoorGArgs
/-
  The law CanonBack: for every book and every bytes it answers true, and nothing that was there is written.
-/
namespace Go.Proofs.YtcmknbdeafcknaaGreatDoor
open Go.RowKit WM
set_option linter.unusedVariables false
set_option maxRecDepth 100000
set_option maxHeartbeats 8000000 in
theorem cback_few (b : Bk) (A : Option Addr) (len cap : Nat) (zs : List Int) (w : World) (hlaid : Laid w) (wb : BkAt w b) (wx : IsRow .u8 w A len cap zs) (iP : fewB b.rs = false) :
    Calls Tryz.prog 6 #[.agg #[.slice b.A b.xs.length b.c], .slice A len cap] w fun e w' => e = .returned (.bool true) ∧ Below w.heap.size w w' := by
  have HLA := Lib.hid (fun (X : World) (hX : Below w.heap.size w X) => hlaid.below hX (Nat.le_refl _))
  have Fb := Lib.hid wb
  have hz : ∀ w : World, (zeroValue 24).run Tryz.prog w = .ok (.agg #[.slice none 0 0]) w := zeroBook
  have hok := bk_ok wb
  obtain ⟨hy, hxl, hxb, hlc, hcm⟩ := wx.byt
  have Fx : Hid (BsAt w A len cap (zs.take len)) := Lib.hid ⟨hy, hxl, row_nil wx⟩
  have HNX := Lib.hid hxl
  have HKX := Lib.hid hlc
  have HCX := Lib.hid hcm
  have HXB := Lib.hid hxb
  simp only [maxLen] at hcm
  have PB := Lib.hid iP
  generalize zs.take len = X at *
  clear iP hlaid wb wx hok hy hxl hxb
  have B1 := Lib.hid (Below.refl w.heap.size w)
  have T2n := BoAt.new w (.slice b.A b.xs.length b.c)
  have T2 := Lib.hid T2n
  clear T2n
  have B3 := Lib.hid (B1.out.alloc B1.out.size (.cells #[(.slice b.A b.xs.length b.c)] 24))
  have F4 := Lib.hid (Fb.out.below B3.out (Nat.le_refl _))
  have F5 := Lib.hid (Fx.out.below B3.out (Nat.le_refl _))
  go_enter Tryz.func6, Tryz.ntmps6
  have C6 := Lib.hid (caAwake (w.alloc (.cells #[(.slice b.A b.xs.length b.c)] 24)) (HLA.out _ B3.out))
  go_wp2_with fail
  refine C6.out.mono ?_
  rintro e w7 ⟨rfl, hb8⟩
  have T9 := Lib.hid (T2.out.below hb8 T2.out.lt)
  have F10 := Lib.hid (F4.out.below hb8 (Nat.le_refl _))
  have F11 := Lib.hid (F5.out.below hb8 (Nat.le_refl _))
  have B12 := Lib.hid (B3.out.trans (hb8.mono B3.out.size))
  clear hb8
  have M13 := Lib.hid (T9.out.load)
  have C14 := Lib.hid (fewB_any b w7 F10.out)
  rw [PB.out] at C14
  go_wp2_with (first | ((with_reducible refine wpList_load_by (o := ⟨some 16, .load 24 (.tmp 2), _, _, _, _⟩) ?e1 24 (.tmp 2) ?e2 ⟨w.heap.size, 0, none⟩ ?e3 _ M13.out ?_); (case e1 => rfl); (case e2 => rfl); (case e3 => rfl)))
  refine C14.out.mono ?_
  rintro e w15 ⟨rfl, hb16⟩
  have T17 := Lib.hid (T9.out.below hb16 T9.out.lt)
  have F18 := Lib.hid (F10.out.below hb16 (Nat.le_refl _))
  have F19 := Lib.hid (F11.out.below hb16 (Nat.le_refl _))
  have B20 := Lib.hid (B12.out.trans (hb16.mono B12.out.size))
  clear hb16
  go_wp2
  go_ret
  exact ⟨rfl, B20.out⟩
set_option maxHeartbeats 8000000 in
theorem cback_long (b : Bk) (A : Option Addr) (len cap : Nat) (zs : List Int) (w : World) (hlaid : Laid w) (wb : BkAt w b) (wx : IsRow .u8 w A len cap zs) (iP : fewB b.rs = true) (iL : ¬ len ≤ 3000) :
    Calls Tryz.prog 6 #[.agg #[.slice b.A b.xs.length b.c], .slice A len cap] w fun e w' => e = .returned (.bool true) ∧ Below w.heap.size w w' := by
  have HLA := Lib.hid (fun (X : World) (hX : Below w.heap.size w X) => hlaid.below hX (Nat.le_refl _))
  have Fb := Lib.hid wb
  have hz : ∀ w : World, (zeroValue 24).run Tryz.prog w = .ok (.agg #[.slice none 0 0]) w := zeroBook
  have hok := bk_ok wb
  obtain ⟨hy, hxl, hxb, hlc, hcm⟩ := wx.byt
  have Fx : Hid (BsAt w A len cap (zs.take len)) := Lib.hid ⟨hy, hxl, row_nil wx⟩
  have HNX := Lib.hid hxl
  have HKX := Lib.hid hlc
  have HCX := Lib.hid hcm
  have HXB := Lib.hid hxb
  simp only [maxLen] at hcm
  have PB := Lib.hid iP
  have t1 : (3000 : Int) < (len : Int) := by omega
  generalize zs.take len = X at *
  clear iP hlaid wb wx hok hy hxl hxb
  have B1 := Lib.hid (Below.refl w.heap.size w)
  have T2n := BoAt.new w (.slice b.A b.xs.length b.c)
  have T2 := Lib.hid T2n
  clear T2n
  have B3 := Lib.hid (B1.out.alloc B1.out.size (.cells #[(.slice b.A b.xs.length b.c)] 24))
  have F4 := Lib.hid (Fb.out.below B3.out (Nat.le_refl _))
  have F5 := Lib.hid (Fx.out.below B3.out (Nat.le_refl _))
  go_enter Tryz.func6, Tryz.ntmps6
  have C6 := Lib.hid (caAwake (w.alloc (.cells #[(.slice b.A b.xs.length b.c)] 24)) (HLA.out _ B3.out))
  go_wp2_with fail
  refine C6.out.mono ?_
  rintro e w7 ⟨rfl, hb8⟩
  have T9 := Lib.hid (T2.out.below hb8 T2.out.lt)
  have F10 := Lib.hid (F4.out.below hb8 (Nat.le_refl _))
  have F11 := Lib.hid (F5.out.below hb8 (Nat.le_refl _))
  have B12 := Lib.hid (B3.out.trans (hb8.mono B3.out.size))
  clear hb8
  have M13 := Lib.hid (T9.out.load)
  have C14 := Lib.hid (fewB_any b w7 F10.out)
  rw [PB.out] at C14
  go_wp2_with (first | ((with_reducible refine wpList_load_by (o := ⟨some 16, .load 24 (.tmp 2), _, _, _, _⟩) ?e1 24 (.tmp 2) ?e2 ⟨w.heap.size, 0, none⟩ ?e3 _ M13.out ?_); (case e1 => rfl); (case e2 => rfl); (case e3 => rfl)))
  refine C14.out.mono ?_
  rintro e w15 ⟨rfl, hb16⟩
  have T17 := Lib.hid (T9.out.below hb16 T9.out.lt)
  have F18 := Lib.hid (F10.out.below hb16 (Nat.le_refl _))
  have F19 := Lib.hid (F11.out.below hb16 (Nat.le_refl _))
  have B20 := Lib.hid (B12.out.trans (hb16.mono B12.out.size))
  clear hb16
  go_wp2
  go_ret
  exact ⟨rfl, B20.out⟩
set_option maxHeartbeats 8000000 in
theorem cback_00 (b : Bk) (A : Option Addr) (len cap : Nat) (zs : List Int) (w : World) (hlaid : Laid w) (wb : BkAt w b) (wx : IsRow .u8 w A len cap zs) (iP : fewB b.rs = true) (iL : len ≤ 3000) (iM : bmay b.rs = false) (iG : bget (zs.take len) = none) :
    Calls Tryz.prog 6 #[.agg #[.slice b.A b.xs.length b.c], .slice A len cap] w fun e w' => e = .returned (.bool true) ∧ Below w.heap.size w w' := by
  have HLA := Lib.hid (fun (X : World) (hX : Below w.heap.size w X) => hlaid.below hX (Nat.le_refl _))
  have Fb := Lib.hid wb
  have hz : ∀ w : World, (zeroValue 24).run Tryz.prog w = .ok (.agg #[.slice none 0 0]) w := zeroBook
  have hok := bk_ok wb
  obtain ⟨hy, hxl, hxb, hlc, hcm⟩ := wx.byt
  have Fx : Hid (BsAt w A len cap (zs.take len)) := Lib.hid ⟨hy, hxl, row_nil wx⟩
  have HNX := Lib.hid hxl
  have HKX := Lib.hid hlc
  have HCX := Lib.hid hcm
  have HXB := Lib.hid hxb
  simp only [maxLen] at hcm
  have PB := Lib.hid iP
  have MB := Lib.hid iM
  have GX := Lib.hid iG
  have t1 : ¬ (3000 : Int) < (len : Int) := by omega
  generalize zs.take len = X at *
  clear iP iM iG iL hlaid wb wx hok hy hxl hxb
  have B1 := Lib.hid (Below.refl w.heap.size w)
  have T2n := BoAt.new w (.slice b.A b.xs.length b.c)
  have T2 := Lib.hid T2n
  clear T2n
  have B3 := Lib.hid (B1.out.alloc B1.out.size (.cells #[(.slice b.A b.xs.length b.c)] 24))
  have F4 := Lib.hid (Fb.out.below B3.out (Nat.le_refl _))
  have F5 := Lib.hid (Fx.out.below B3.out (Nat.le_refl _))
  go_enter Tryz.func6, Tryz.ntmps6
  have C6 := Lib.hid (caAwake (w.alloc (.cells #[(.slice b.A b.xs.length b.c)] 24)) (HLA.out _ B3.out))
  go_wp2_with fail
  refine C6.out.mono ?_
  rintro e w7 ⟨rfl, hb8⟩
  have T9 := Lib.hid (T2.out.below hb8 T2.out.lt)
  have F10 := Lib.hid (F4.out.below hb8 (Nat.le_refl _))
  have F11 := Lib.hid (F5.out.below hb8 (Nat.le_refl _))
  have B12 := Lib.hid (B3.out.trans (hb8.mono B3.out.size))
  clear hb8
  have M13 := Lib.hid (T9.out.load)
  have C14 := Lib.hid (fewB_any b w7 F10.out)
  rw [PB.out] at C14
  go_wp2_with (first | ((with_reducible refine wpList_load_by (o := ⟨some 16, .load 24 (.tmp 2), _, _, _, _⟩) ?e1 24 (.tmp 2) ?e2 ⟨w.heap.size, 0, none⟩ ?e3 _ M13.out ?_); (case e1 => rfl); (case e2 => rfl); (case e3 => rfl)))
  refine C14.out.mono ?_
  rintro e w15 ⟨rfl, hb16⟩
  have T17 := Lib.hid (T9.out.below hb16 T9.out.lt)
  have F18 := Lib.hid (F10.out.below hb16 (Nat.le_refl _))
  have F19 := Lib.hid (F11.out.below hb16 (Nat.le_refl _))
  have B20 := Lib.hid (B12.out.trans (hb16.mono B12.out.size))
  clear hb16
  have M21 := Lib.hid (T17.out.load)
  have c22 := put_book b w15 F18.out
  unfold PutPost at c22
  simp only [MB.out, Bool.false_eq_true, if_false] at c22
  have C23 := Lib.hid (c22)
  clear c22
  go_wp2_with (first | ((with_reducible refine wpList_load_by (o := ⟨some 31, .load 24 (.tmp 2), _, _, _, _⟩) ?e1 24 (.tmp 2) ?e2 ⟨w.heap.size, 0, none⟩ ?e3 _ M21.out ?_); (case e1 => rfl); (case e2 => rfl); (case e3 => rfl)))
  refine C23.out.mono ?_
  rintro e w24 ⟨rfl, hb25⟩
  have T26 := Lib.hid (T17.out.below hb25 T17.out.lt)
  have F27 := Lib.hid (F18.out.below hb25 (Nat.le_refl _))
  have F28 := Lib.hid (F19.out.below hb25 (Nat.le_refl _))
  have B29 := Lib.hid (B20.out.trans (hb25.mono B20.out.size))
  clear hb25
  have M30 := Lib.hid (T26.out.load)
  have C31 := Lib.hid (bmay_any b w24 F27.out)
  rw [MB.out] at C31
  go_wp2_with (first | ((with_reducible refine wpList_load_by (o := ⟨some 36, .load 24 (.tmp 2), _, _, _, _⟩) ?e1 24 (.tmp 2) ?e2 ⟨w.heap.size, 0, none⟩ ?e3 _ M30.out ?_); (case e1 => rfl); (case e2 => rfl); (case e3 => rfl)))
  refine C31.out.mono ?_
  rintro e w32 ⟨rfl, hb33⟩
  have T34 := Lib.hid (T26.out.below hb33 T26.out.lt)
  have F35 := Lib.hid (F27.out.below hb33 (Nat.le_refl _))
  have F36 := Lib.hid (F28.out.below hb33 (Nat.le_refl _))
  have B37 := Lib.hid (B29.out.trans (hb33.mono B29.out.size))
  clear hb33
  have c43 := get_book A len cap X w32 F36.out.1 (Nat.le_refl _) HNX.out HXB.out HKX.out HCX.out
  unfold GetPost at c43
  rw [GX.out] at c43
  try dsimp only [Option.isSome_some, Option.isSome_none, Option.getD_some, Option.getD_none] at c43
  have C44 := Lib.hid (c43)
  clear c43
  go_wp2_with fail
  refine C44.out.mono ?_
  rintro e w45 ⟨d38, he39, hd40, hk41, hb46⟩
  have hl42 : d38.xs.length = 0 := by have h9 := congrArg List.length hd40; simpa [Bk.rs] using h9
  rw [hl42] at he39
  subst he39
  have T47 := Lib.hid (T34.out.below hb46 T34.out.lt)
  have F48 := Lib.hid (F35.out.below hb46 (Nat.le_refl _))
  have F49 := Lib.hid (F36.out.below hb46 (Nat.le_refl _))
  have B50 := Lib.hid (B37.out.trans (hb46.mono B37.out.size))
  clear hb46
  have E51 := Lib.hid (hd40)
  have L52 := Lib.hid (hl42)
  have F53 := Lib.hid (hk41)
  clear hd40 hk41 hl42
  have hb54 := (Below.refl w45.heap.size w45).alloc (Nat.le_refl _) (.cells #[(.slice d38.A 0 d38.c)] 24)
  have T55 := Lib.hid (BoAt.new w45 (.slice d38.A 0 d38.c))
  have T56 := Lib.hid (T47.out.below hb54 T47.out.lt)
  have F57 := Lib.hid (F48.out.below hb54 (Nat.le_refl _))
  have F58 := Lib.hid (F49.out.below hb54 (Nat.le_refl _))
  have F59 := Lib.hid (F53.out.below hb54 (Nat.le_refl _))
  have B60 := Lib.hid (B50.out.trans (hb54.mono B50.out.size))
  clear hb54
  have c11 := T55.out.c0
  go_wp2
  go_ret
  exact ⟨rfl, B60.out⟩
set_option maxHeartbeats 8000000 in
theorem cback_01 (b : Bk) (A : Option Addr) (len cap : Nat) (zs : List Int) (w : World) (hlaid : Laid w) (wb : BkAt w b) (wx : IsRow .u8 w A len cap zs) (X2 : List Rc) (iP : fewB b.rs = true) (iL : len ≤ 3000) (iM : bmay b.rs = false) (iG : bget (zs.take len) = some X2) :
    Calls Tryz.prog 6 #[.agg #[.slice b.A b.xs.length b.c], .slice A len cap] w fun e w' => e = .returned (.bool true) ∧ Below w.heap.size w w' := by
  have HLA := Lib.hid (fun (X : World) (hX : Below w.heap.size w X) => hlaid.below hX (Nat.le_refl _))
  have Fb := Lib.hid wb
  have hz : ∀ w : World, (zeroValue 24).run Tryz.prog w = .ok (.agg #[.slice none 0 0]) w := zeroBook
  have hok := bk_ok wb
  obtain ⟨hy, hxl, hxb, hlc, hcm⟩ := wx.byt
  have Fx : Hid (BsAt w A len cap (zs.take len)) := Lib.hid ⟨hy, hxl, row_nil wx⟩
  have HNX := Lib.hid hxl
  have HKX := Lib.hid hlc
  have HCX := Lib.hid hcm
  have HXB := Lib.hid hxb
  simp only [maxLen] at hcm
  have PB := Lib.hid iP
  have MB := Lib.hid iM
  have GX := Lib.hid iG
  have t1 : ¬ (3000 : Int) < (len : Int) := by omega
  have MX := Lib.hid (bget_got hxb iG).1
  have EX := Lib.hid (bget_got hxb iG).2
  generalize zs.take len = X at *
  clear iP iM iG iL hlaid wb wx hok hy hxl hxb
  have B1 := Lib.hid (Below.refl w.heap.size w)
  have T2n := BoAt.new w (.slice b.A b.xs.length b.c)
  have T2 := Lib.hid T2n
  clear T2n
  have B3 := Lib.hid (B1.out.alloc B1.out.size (.cells #[(.slice b.A b.xs.length b.c)] 24))
  have F4 := Lib.hid (Fb.out.below B3.out (Nat.le_refl _))
  have F5 := Lib.hid (Fx.out.below B3.out (Nat.le_refl _))
  go_enter Tryz.func6, Tryz.ntmps6
  have C6 := Lib.hid (caAwake (w.alloc (.cells #[(.slice b.A b.xs.length b.c)] 24)) (HLA.out _ B3.out))
  go_wp2_with fail
  refine C6.out.mono ?_
  rintro e w7 ⟨rfl, hb8⟩
  have T9 := Lib.hid (T2.out.below hb8 T2.out.lt)
  have F10 := Lib.hid (F4.out.below hb8 (Nat.le_refl _))
  have F11 := Lib.hid (F5.out.below hb8 (Nat.le_refl _))
  have B12 := Lib.hid (B3.out.trans (hb8.mono B3.out.size))
  clear hb8
  have M13 := Lib.hid (T9.out.load)
  have C14 := Lib.hid (fewB_any b w7 F10.out)
  rw [PB.out] at C14
  go_wp2_with (first | ((with_reducible refine wpList_load_by (o := ⟨some 16, .load 24 (.tmp 2), _, _, _, _⟩) ?e1 24 (.tmp 2) ?e2 ⟨w.heap.size, 0, none⟩ ?e3 _ M13.out ?_); (case e1 => rfl); (case e2 => rfl); (case e3 => rfl)))
  refine C14.out.mono ?_
  rintro e w15 ⟨rfl, hb16⟩
  have T17 := Lib.hid (T9.out.below hb16 T9.out.lt)
  have F18 := Lib.hid (F10.out.below hb16 (Nat.le_refl _))
  have F19 := Lib.hid (F11.out.below hb16 (Nat.le_refl _))
  have B20 := Lib.hid (B12.out.trans (hb16.mono B12.out.size))
  clear hb16
  have M21 := Lib.hid (T17.out.load)
  have c22 := put_book b w15 F18.out
  unfold PutPost at c22
  simp only [MB.out, Bool.false_eq_true, if_false] at c22
  have C23 := Lib.hid (c22)
  clear c22
  go_wp2_with (first | ((with_reducible refine wpList_load_by (o := ⟨some 31, .load 24 (.tmp 2), _, _, _, _⟩) ?e1 24 (.tmp 2) ?e2 ⟨w.heap.size, 0, none⟩ ?e3 _ M21.out ?_); (case e1 => rfl); (case e2 => rfl); (case e3 => rfl)))
  refine C23.out.mono ?_
  rintro e w24 ⟨rfl, hb25⟩
  have T26 := Lib.hid (T17.out.below hb25 T17.out.lt)
  have F27 := Lib.hid (F18.out.below hb25 (Nat.le_refl _))
  have F28 := Lib.hid (F19.out.below hb25 (Nat.le_refl _))
  have B29 := Lib.hid (B20.out.trans (hb25.mono B20.out.size))
  clear hb25
  have M30 := Lib.hid (T26.out.load)
  have C31 := Lib.hid (bmay_any b w24 F27.out)
  rw [MB.out] at C31
  go_wp2_with (first | ((with_reducible refine wpList_load_by (o := ⟨some 36, .load 24 (.tmp 2), _, _, _, _⟩) ?e1 24 (.tmp 2) ?e2 ⟨w.heap.size, 0, none⟩ ?e3 _ M30.out ?_); (case e1 => rfl); (case e2 => rfl); (case e3 => rfl)))
  refine C31.out.mono ?_
  rintro e w32 ⟨rfl, hb33⟩
  have T34 := Lib.hid (T26.out.below hb33 T26.out.lt)
  have F35 := Lib.hid (F27.out.below hb33 (Nat.le_refl _))
  have F36 := Lib.hid (F28.out.below hb33 (Nat.le_refl _))
  have B37 := Lib.hid (B29.out.trans (hb33.mono B29.out.size))
  clear hb33
  have c41 := get_book A len cap X w32 F36.out.1 (Nat.le_refl _) HNX.out HXB.out HKX.out HCX.out
  unfold GetPost at c41
  rw [GX.out] at c41
  try dsimp only [Option.isSome_some, Option.isSome_none, Option.getD_some, Option.getD_none] at c41
  have C42 := Lib.hid (c41)
  clear c41
  go_wp2_with fail
  refine C42.out.mono ?_
  rintro e w43 ⟨d38, rfl, hd39, hk40, hb44⟩
  have T45 := Lib.hid (T34.out.below hb44 T34.out.lt)
  have F46 := Lib.hid (F35.out.below hb44 (Nat.le_refl _))
  have F47 := Lib.hid (F36.out.below hb44 (Nat.le_refl _))
  have B48 := Lib.hid (B37.out.trans (hb44.mono B37.out.size))
  clear hb44
  have E49 := Lib.hid (hd39)
  have F50 := Lib.hid (hk40)
  clear hd39 hk40
  have hb51 := (Below.refl w43.heap.size w43).alloc (Nat.le_refl _) (.cells #[(.slice d38.A d38.xs.length d38.c)] 24)
  have T52 := Lib.hid (BoAt.new w43 (.slice d38.A d38.xs.length d38.c))
  have T53 := Lib.hid (T45.out.below hb51 T45.out.lt)
  have F54 := Lib.hid (F46.out.below hb51 (Nat.le_refl _))
  have F55 := Lib.hid (F47.out.below hb51 (Nat.le_refl _))
  have F56 := Lib.hid (F50.out.below hb51 (Nat.le_refl _))
  have B57 := Lib.hid (B48.out.trans (hb51.mono B48.out.size))
  clear hb51
  have M65 := Lib.hid (T52.out.load)
  have c66 := put_book d38 (w43.alloc (.cells #[(.slice d38.A d38.xs.length d38.c)] 24)) F56.out
  unfold PutPost GivesT at c66
  try rw [E49.out] at c66
  simp only [MX.out, if_true] at c66
  rw [EX.out] at c66
  have C67 := Lib.hid (c66)
  clear c66
  go_wp2_with (first | ((with_reducible refine wpList_load_by (o := ⟨some 65, .load 24 (.tmp 11), _, _, _, _⟩) ?e1 24 (.tmp 11) ?e2 ⟨w43.heap.size, 0, none⟩ ?e3 _ M65.out ?_); (case e1 => rfl); (case e2 => rfl); (case e3 => rfl)))
  refine C67.out.mono ?_
  rintro e w68 ⟨A58, n59, k60, rfl, h61, h62, h63, h64, hb69⟩
  have T70 := Lib.hid (T53.out.below hb69 T53.out.lt)
  have T71 := Lib.hid (T52.out.below hb69 T52.out.lt)
  have F72 := Lib.hid (F54.out.below hb69 (Nat.le_refl _))
  have F73 := Lib.hid (F55.out.below hb69 (Nat.le_refl _))
  have F74 := Lib.hid (F56.out.below hb69 (Nat.le_refl _))
  have B75 := Lib.hid (B57.out.trans (hb69.mono B57.out.size))
  clear hb69
  have N76 := Lib.hid (h61)
  have N77 := Lib.hid (h62)
  have N78 := Lib.hid (h63)
  have Y79 := Lib.hid (BsAt.own h64)
  clear h61 h62 h63 h64
  have M80 := Lib.hid (T71.out.load)
  have C81 := Lib.hid (bmay_any d38 w68 F74.out)
  try rw [E49.out] at C81
  rw [MX.out] at C81
  go_wp2_with (first | ((with_reducible refine wpList_load_by (o := ⟨some 71, .load 24 (.tmp 11), _, _, _, _⟩) ?e1 24 (.tmp 11) ?e2 ⟨w43.heap.size, 0, none⟩ ?e3 _ M80.out ?_); (case e1 => rfl); (case e2 => rfl); (case e3 => rfl)))
  refine C81.out.mono ?_
  rintro e w82 ⟨rfl, hb83⟩
  have T84 := Lib.hid (T70.out.below hb83 T70.out.lt)
  have T85 := Lib.hid (T71.out.below hb83 T71.out.lt)
  have F86 := Lib.hid (F72.out.below hb83 (Nat.le_refl _))
  have F87 := Lib.hid (F73.out.below hb83 (Nat.le_refl _))
  have F88 := Lib.hid (F74.out.below hb83 (Nat.le_refl _))
  have F89 := Lib.hid (Y79.out.below hb83 (Nat.le_refl _))
  have B90 := Lib.hid (B75.out.trans (hb83.mono B75.out.size))
  clear hb83
  have T1 := F89.out.1.text (P := Tryz.prog) (len := n59) (cap := k60) N76.out 46 5 9 Tryz.underlying46 Tryz.underlying5 Tryz.underlying9
  have T2 := F87.out.1.text (P := Tryz.prog) (len := len) (cap := cap) HNX.out 46 5 9 Tryz.underlying46 Tryz.underlying5 Tryz.underlying9
  go_wp2
  go_ret
  exact ⟨rfl, B90.out⟩
set_option maxHeartbeats 8000000 in
theorem cback_10 (b : Bk) (A : Option Addr) (len cap : Nat) (zs : List Int) (w : World) (hlaid : Laid w) (wb : BkAt w b) (wx : IsRow .u8 w A len cap zs) (iP : fewB b.rs = true) (iL : len ≤ 3000) (iM : bmay b.rs = true) (iG : bget (zs.take len) = none) :
    Calls Tryz.prog 6 #[.agg #[.slice b.A b.xs.length b.c], .slice A len cap] w fun e w' => e = .returned (.bool true) ∧ Below w.heap.size w w' := by
  have HLA := Lib.hid (fun (X : World) (hX : Below w.heap.size w X) => hlaid.below hX (Nat.le_refl _))
  have Fb := Lib.hid wb
  have hz : ∀ w : World, (zeroValue 24).run Tryz.prog w = .ok (.agg #[.slice none 0 0]) w := zeroBook
  have hok := bk_ok wb
  obtain ⟨hy, hxl, hxb, hlc, hcm⟩ := wx.byt
  have Fx : Hid (BsAt w A len cap (zs.take len)) := Lib.hid ⟨hy, hxl, row_nil wx⟩
  have HNX := Lib.hid hxl
  have HKX := Lib.hid hlc
  have HCX := Lib.hid hcm
  have HXB := Lib.hid hxb
  simp only [maxLen] at hcm
  have PB := Lib.hid iP
  have MB := Lib.hid iM
  have GX := Lib.hid iG
  have t1 : ¬ (3000 : Int) < (len : Int) := by omega
  have HBY := Lib.hid (benc_bytes iM hok)
  have GB := Lib.hid (bget_put iM fun R hR => (hok R hR).1)
  have SB := Lib.hid (bsame_self b.rs)
  generalize hZ : benc b.rs = Z at *
  have EB := Lib.hid hZ
  clear hZ
  generalize zs.take len = X at *
  clear iP iM iG iL hlaid wb wx hok hy hxl hxb
  have B1 := Lib.hid (Below.refl w.heap.size w)
  have T2n := BoAt.new w (.slice b.A b.xs.length b.c)
  have T2 := Lib.hid T2n
  clear T2n
  have B3 := Lib.hid (B1.out.alloc B1.out.size (.cells #[(.slice b.A b.xs.length b.c)] 24))
  have F4 := Lib.hid (Fb.out.below B3.out (Nat.le_refl _))
  have F5 := Lib.hid (Fx.out.below B3.out (Nat.le_refl _))
  go_enter Tryz.func6, Tryz.ntmps6
  have C6 := Lib.hid (caAwake (w.alloc (.cells #[(.slice b.A b.xs.length b.c)] 24)) (HLA.out _ B3.out))
  go_wp2_with fail
  refine C6.out.mono ?_
  rintro e w7 ⟨rfl, hb8⟩
  have T9 := Lib.hid (T2.out.below hb8 T2.out.lt)
  have F10 := Lib.hid (F4.out.below hb8 (Nat.le_refl _))
  have F11 := Lib.hid (F5.out.below hb8 (Nat.le_refl _))
  have B12 := Lib.hid (B3.out.trans (hb8.mono B3.out.size))
  clear hb8
  have M13 := Lib.hid (T9.out.load)
  have C14 := Lib.hid (fewB_any b w7 F10.out)
  rw [PB.out] at C14
  go_wp2_with (first | ((with_reducible refine wpList_load_by (o := ⟨some 16, .load 24 (.tmp 2), _, _, _, _⟩) ?e1 24 (.tmp 2) ?e2 ⟨w.heap.size, 0, none⟩ ?e3 _ M13.out ?_); (case e1 => rfl); (case e2 => rfl); (case e3 => rfl)))
  refine C14.out.mono ?_
  rintro e w15 ⟨rfl, hb16⟩
  have T17 := Lib.hid (T9.out.below hb16 T9.out.lt)
  have F18 := Lib.hid (F10.out.below hb16 (Nat.le_refl _))
  have F19 := Lib.hid (F11.out.below hb16 (Nat.le_refl _))
  have B20 := Lib.hid (B12.out.trans (hb16.mono B12.out.size))
  clear hb16
  have M28 := Lib.hid (T17.out.load)
  have c29 := put_book b w15 F18.out
  unfold PutPost GivesT at c29
  simp only [MB.out, if_true] at c29
  rw [EB.out] at c29
  have C30 := Lib.hid (c29)
  clear c29
  go_wp2_with (first | ((with_reducible refine wpList_load_by (o := ⟨some 31, .load 24 (.tmp 2), _, _, _, _⟩) ?e1 24 (.tmp 2) ?e2 ⟨w.heap.size, 0, none⟩ ?e3 _ M28.out ?_); (case e1 => rfl); (case e2 => rfl); (case e3 => rfl)))
  refine C30.out.mono ?_
  rintro e w31 ⟨A21, n22, k23, rfl, h24, h25, h26, h27, hb32⟩
  have T33 := Lib.hid (T17.out.below hb32 T17.out.lt)
  have F34 := Lib.hid (F18.out.below hb32 (Nat.le_refl _))
  have F35 := Lib.hid (F19.out.below hb32 (Nat.le_refl _))
  have B36 := Lib.hid (B20.out.trans (hb32.mono B20.out.size))
  clear hb32
  have N37 := Lib.hid (h24)
  have N38 := Lib.hid (h25)
  have N39 := Lib.hid (h26)
  have Y40 := Lib.hid (BsAt.own h27)
  clear h24 h25 h26 h27
  have M41 := Lib.hid (T33.out.load)
  have C42 := Lib.hid (bmay_any b w31 F34.out)
  rw [MB.out] at C42
  go_wp2_with (first | ((with_reducible refine wpList_load_by (o := ⟨some 36, .load 24 (.tmp 2), _, _, _, _⟩) ?e1 24 (.tmp 2) ?e2 ⟨w.heap.size, 0, none⟩ ?e3 _ M41.out ?_); (case e1 => rfl); (case e2 => rfl); (case e3 => rfl)))
  refine C42.out.mono ?_
  rintro e w43 ⟨rfl, hb44⟩
  have T45 := Lib.hid (T33.out.below hb44 T33.out.lt)
  have F46 := Lib.hid (F34.out.below hb44 (Nat.le_refl _))
  have F47 := Lib.hid (F35.out.below hb44 (Nat.le_refl _))
  have F48 := Lib.hid (Y40.out.below hb44 (Nat.le_refl _))
  have B49 := Lib.hid (B36.out.trans (hb44.mono B36.out.size))
  clear hb44
  have c53 := get_book A21 n22 k23 Z w43 F48.out.1 (Nat.le_refl _) N37.out HBY.out N38.out N39.out
  unfold GetPost at c53
  rw [GB.out] at c53
  try dsimp only [Option.isSome_some, Option.isSome_none, Option.getD_some, Option.getD_none] at c53
  have C54 := Lib.hid (c53)
  clear c53
  go_wp2_with fail
  refine C54.out.mono ?_
  rintro e w55 ⟨d50, rfl, hd51, hk52, hb56⟩
  have T57 := Lib.hid (T45.out.below hb56 T45.out.lt)
  have F58 := Lib.hid (F46.out.below hb56 (Nat.le_refl _))
  have F59 := Lib.hid (F47.out.below hb56 (Nat.le_refl _))
  have F60 := Lib.hid (F48.out.below hb56 (Nat.le_refl _))
  have B61 := Lib.hid (B49.out.trans (hb56.mono B49.out.size))
  clear hb56
  have E62 := Lib.hid (hd51)
  have F63 := Lib.hid (hk52)
  clear hd51 hk52
  have hb64 := (Below.refl w55.heap.size w55).alloc (Nat.le_refl _) (.cells #[(.slice d50.A d50.xs.length d50.c)] 24)
  have T65 := Lib.hid (BoAt.new w55 (.slice d50.A d50.xs.length d50.c))
  have T66 := Lib.hid (T57.out.below hb64 T57.out.lt)
  have F67 := Lib.hid (F58.out.below hb64 (Nat.le_refl _))
  have F68 := Lib.hid (F59.out.below hb64 (Nat.le_refl _))
  have F69 := Lib.hid (F60.out.below hb64 (Nat.le_refl _))
  have F70 := Lib.hid (F63.out.below hb64 (Nat.le_refl _))
  have B71 := Lib.hid (B61.out.trans (hb64.mono B61.out.size))
  clear hb64
  have M72 := Lib.hid (T65.out.load)
  have M73 := Lib.hid (T66.out.load)
  have C74 := Lib.hid (bsame_any d50 b (w55.alloc (.cells #[(.slice d50.A d50.xs.length d50.c)] 24)) F70.out F67.out)
  try rw [E62.out] at C74
  rw [SB.out] at C74
  go_wp2_with (first | ((with_reducible refine wpList_load_by (o := ⟨some 48, .load 24 (.tmp 9), _, _, _, _⟩) ?e1 24 (.tmp 9) ?e2 ⟨w55.heap.size, 0, none⟩ ?e3 _ M72.out ?_); (case e1 => rfl); (case e2 => rfl); (case e3 => rfl)) | ((with_reducible refine wpList_load_by (o := ⟨some 49, .load 24 (.tmp 2), _, _, _, _⟩) ?e1 24 (.tmp 2) ?e2 ⟨w.heap.size, 0, none⟩ ?e3 _ M73.out ?_); (case e1 => rfl); (case e2 => rfl); (case e3 => rfl)))
  refine C74.out.mono ?_
  rintro e w75 ⟨rfl, hb76⟩
  have T77 := Lib.hid (T66.out.below hb76 T66.out.lt)
  have T78 := Lib.hid (T65.out.below hb76 T65.out.lt)
  have F79 := Lib.hid (F67.out.below hb76 (Nat.le_refl _))
  have F80 := Lib.hid (F68.out.below hb76 (Nat.le_refl _))
  have F81 := Lib.hid (F69.out.below hb76 (Nat.le_refl _))
  have F82 := Lib.hid (F70.out.below hb76 (Nat.le_refl _))
  have B83 := Lib.hid (B71.out.trans (hb76.mono B71.out.size))
  clear hb76
  have c89 := get_book A len cap X w75 F80.out.1 (Nat.le_refl _) HNX.out HXB.out HKX.out HCX.out
  unfold GetPost at c89
  rw [GX.out] at c89
  try dsimp only [Option.isSome_some, Option.isSome_none, Option.getD_some, Option.getD_none] at c89
  have C90 := Lib.hid (c89)
  clear c89
  go_wp2_with fail
  refine C90.out.mono ?_
  rintro e w91 ⟨d84, he85, hd86, hk87, hb92⟩
  have hl88 : d84.xs.length = 0 := by have h9 := congrArg List.length hd86; simpa [Bk.rs] using h9
  rw [hl88] at he85
  subst he85
  have T93 := Lib.hid (T77.out.below hb92 T77.out.lt)
  have T94 := Lib.hid (T78.out.below hb92 T78.out.lt)
  have F95 := Lib.hid (F79.out.below hb92 (Nat.le_refl _))
  have F96 := Lib.hid (F80.out.below hb92 (Nat.le_refl _))
  have F97 := Lib.hid (F81.out.below hb92 (Nat.le_refl _))
  have F98 := Lib.hid (F82.out.below hb92 (Nat.le_refl _))
  have B99 := Lib.hid (B83.out.trans (hb92.mono B83.out.size))
  clear hb92
  have E100 := Lib.hid (hd86)
  have L101 := Lib.hid (hl88)
  have F102 := Lib.hid (hk87)
  clear hd86 hk87 hl88
  have hb103 := (Below.refl w91.heap.size w91).alloc (Nat.le_refl _) (.cells #[(.slice d84.A 0 d84.c)] 24)
  have T104 := Lib.hid (BoAt.new w91 (.slice d84.A 0 d84.c))
  have T105 := Lib.hid (T93.out.below hb103 T93.out.lt)
  have T106 := Lib.hid (T94.out.below hb103 T94.out.lt)
  have F107 := Lib.hid (F95.out.below hb103 (Nat.le_refl _))
  have F108 := Lib.hid (F96.out.below hb103 (Nat.le_refl _))
  have F109 := Lib.hid (F97.out.below hb103 (Nat.le_refl _))
  have F110 := Lib.hid (F98.out.below hb103 (Nat.le_refl _))
  have F111 := Lib.hid (F102.out.below hb103 (Nat.le_refl _))
  have B112 := Lib.hid (B99.out.trans (hb103.mono B99.out.size))
  clear hb103
  have c11 := T104.out.c0
  go_wp2
  go_ret
  exact ⟨rfl, B112.out⟩
set_option maxHeartbeats 8000000 in
theorem cback_11 (b : Bk) (A : Option Addr) (len cap : Nat) (zs : List Int) (w : World) (hlaid : Laid w) (wb : BkAt w b) (wx : IsRow .u8 w A len cap zs) (X2 : List Rc) (iP : fewB b.rs = true) (iL : len ≤ 3000) (iM : bmay b.rs = true) (iG : bget (zs.take len) = some X2) :
    Calls Tryz.prog 6 #[.agg #[.slice b.A b.xs.length b.c], .slice A len cap] w fun e w' => e = .returned (.bool true) ∧ Below w.heap.size w w' := by
  have HLA := Lib.hid (fun (X : World) (hX : Below w.heap.size w X) => hlaid.below hX (Nat.le_refl _))
  have Fb := Lib.hid wb
  have hz : ∀ w : World, (zeroValue 24).run Tryz.prog w = .ok (.agg #[.slice none 0 0]) w := zeroBook
  have hok := bk_ok wb
  obtain ⟨hy, hxl, hxb, hlc, hcm⟩ := wx.byt
  have Fx : Hid (BsAt w A len cap (zs.take len)) := Lib.hid ⟨hy, hxl, row_nil wx⟩
  have HNX := Lib.hid hxl
  have HKX := Lib.hid hlc
  have HCX := Lib.hid hcm
  have HXB := Lib.hid hxb
  simp only [maxLen] at hcm
  have PB := Lib.hid iP
  have MB := Lib.hid iM
  have GX := Lib.hid iG
  have t1 : ¬ (3000 : Int) < (len : Int) := by omega
  have HBY := Lib.hid (benc_bytes iM hok)
  have GB := Lib.hid (bget_put iM fun R hR => (hok R hR).1)
  have SB := Lib.hid (bsame_self b.rs)
  generalize hZ : benc b.rs = Z at *
  have EB := Lib.hid hZ
  clear hZ
  have MX := Lib.hid (bget_got hxb iG).1
  have EX := Lib.hid (bget_got hxb iG).2
  generalize zs.take len = X at *
  clear iP iM iG iL hlaid wb wx hok hy hxl hxb
  have B1 := Lib.hid (Below.refl w.heap.size w)
  have T2n := BoAt.new w (.slice b.A b.xs.length b.c)
  have T2 := Lib.hid T2n
  clear T2n
  have B3 := Lib.hid (B1.out.alloc B1.out.size (.cells #[(.slice b.A b.xs.length b.c)] 24))
  have F4 := Lib.hid (Fb.out.below B3.out (Nat.le_refl _))
  have F5 := Lib.hid (Fx.out.below B3.out (Nat.le_refl _))
  go_enter Tryz.func6, Tryz.ntmps6
  have C6 := Lib.hid (caAwake (w.alloc (.cells #[(.slice b.A b.xs.length b.c)] 24)) (HLA.out _ B3.out))
  go_wp2_with fail
  refine C6.out.mono ?_
  rintro e w7 ⟨rfl, hb8⟩
  have T9 := Lib.hid (T2.out.below hb8 T2.out.lt)
  have F10 := Lib.hid (F4.out.below hb8 (Nat.le_refl _))
  have F11 := Lib.hid (F5.out.below hb8 (Nat.le_refl _))
  have B12 := Lib.hid (B3.out.trans (hb8.mono B3.out.size))
  clear hb8
  have M13 := Lib.hid (T9.out.load)
  have C14 := Lib.hid (fewB_any b w7 F10.out)
  rw [PB.out] at C14
  go_wp2_with (first | ((with_reducible refine wpList_load_by (o := ⟨some 16, .load 24 (.tmp 2), _, _, _, _⟩) ?e1 24 (.tmp 2) ?e2 ⟨w.heap.size, 0, none⟩ ?e3 _ M13.out ?_); (case e1 => rfl); (case e2 => rfl); (case e3 => rfl)))
  refine C14.out.mono ?_
  rintro e w15 ⟨rfl, hb16⟩
  have T17 := Lib.hid (T9.out.below hb16 T9.out.lt)
  have F18 := Lib.hid (F10.out.below hb16 (Nat.le_refl _))
  have F19 := Lib.hid (F11.out.below hb16 (Nat.le_refl _))
  have B20 := Lib.hid (B12.out.trans (hb16.mono B12.out.size))
  clear hb16
  have M28 := Lib.hid (T17.out.load)
  have c29 := put_book b w15 F18.out
  unfold PutPost GivesT at c29
  simp only [MB.out, if_true] at c29
  rw [EB.out] at c29
  have C30 := Lib.hid (c29)
  clear c29
  go_wp2_with (first | ((with_reducible refine wpList_load_by (o := ⟨some 31, .load 24 (.tmp 2), _, _, _, _⟩) ?e1 24 (.tmp 2) ?e2 ⟨w.heap.size, 0, none⟩ ?e3 _ M28.out ?_); (case e1 => rfl); (case e2 => rfl); (case e3 => rfl)))
  refine C30.out.mono ?_
  rintro e w31 ⟨A21, n22, k23, rfl, h24, h25, h26, h27, hb32⟩
  have T33 := Lib.hid (T17.out.below hb32 T17.out.lt)
  have F34 := Lib.hid (F18.out.below hb32 (Nat.le_refl _))
  have F35 := Lib.hid (F19.out.below hb32 (Nat.le_refl _))
  have B36 := Lib.hid (B20.out.trans (hb32.mono B20.out.size))
  clear hb32
  have N37 := Lib.hid (h24)
  have N38 := Lib.hid (h25)
  have N39 := Lib.hid (h26)
  have Y40 := Lib.hid (BsAt.own h27)
  clear h24 h25 h26 h27
  have M41 := Lib.hid (T33.out.load)
  have C42 := Lib.hid (bmay_any b w31 F34.out)
  rw [MB.out] at C42
  go_wp2_with (first | ((with_reducible refine wpList_load_by (o := ⟨some 36, .load 24 (.tmp 2), _, _, _, _⟩) ?e1 24 (.tmp 2) ?e2 ⟨w.heap.size, 0, none⟩ ?e3 _ M41.out ?_); (case e1 => rfl); (case e2 => rfl); (case e3 => rfl)))
  refine C42.out.mono ?_
  rintro e w43 ⟨rfl, hb44⟩
  have T45 := Lib.hid (T33.out.below hb44 T33.out.lt)
  have F46 := Lib.hid (F34.out.below hb44 (Nat.le_refl _))
  have F47 := Lib.hid (F35.out.below hb44 (Nat.le_refl _))
  have F48 := Lib.hid (Y40.out.below hb44 (Nat.le_refl _))
  have B49 := Lib.hid (B36.out.trans (hb44.mono B36.out.size))
  clear hb44
  have c53 := get_book A21 n22 k23 Z w43 F48.out.1 (Nat.le_refl _) N37.out HBY.out N38.out N39.out
  unfold GetPost at c53
  rw [GB.out] at c53
  try dsimp only [Option.isSome_some, Option.isSome_none, Option.getD_some, Option.getD_none] at c53
  have C54 := Lib.hid (c53)
  clear c53
  go_wp2_with fail
  refine C54.out.mono ?_
  rintro e w55 ⟨d50, rfl, hd51, hk52, hb56⟩
  have T57 := Lib.hid (T45.out.below hb56 T45.out.lt)
  have F58 := Lib.hid (F46.out.below hb56 (Nat.le_refl _))
  have F59 := Lib.hid (F47.out.below hb56 (Nat.le_refl _))
  have F60 := Lib.hid (F48.out.below hb56 (Nat.le_refl _))
  have B61 := Lib.hid (B49.out.trans (hb56.mono B49.out.size))
  clear hb56
  have E62 := Lib.hid (hd51)
  have F63 := Lib.hid (hk52)
  clear hd51 hk52
  have hb64 := (Below.refl w55.heap.size w55).alloc (Nat.le_refl _) (.cells #[(.slice d50.A d50.xs.length d50.c)] 24)
  have T65 := Lib.hid (BoAt.new w55 (.slice d50.A d50.xs.length d50.c))
  have T66 := Lib.hid (T57.out.below hb64 T57.out.lt)
  have F67 := Lib.hid (F58.out.below hb64 (Nat.le_refl _))
  have F68 := Lib.hid (F59.out.below hb64 (Nat.le_refl _))
  have F69 := Lib.hid (F60.out.below hb64 (Nat.le_refl _))
  have F70 := Lib.hid (F63.out.below hb64 (Nat.le_refl _))
  have B71 := Lib.hid (B61.out.trans (hb64.mono B61.out.size))
  clear hb64
  have M72 := Lib.hid (T65.out.load)
  have M73 := Lib.hid (T66.out.load)
  have C74 := Lib.hid (bsame_any d50 b (w55.alloc (.cells #[(.slice d50.A d50.xs.length d50.c)] 24)) F70.out F67.out)
  try rw [E62.out] at C74
  rw [SB.out] at C74
  go_wp2_with (first | ((with_reducible refine wpList_load_by (o := ⟨some 48, .load 24 (.tmp 9), _, _, _, _⟩) ?e1 24 (.tmp 9) ?e2 ⟨w55.heap.size, 0, none⟩ ?e3 _ M72.out ?_); (case e1 => rfl); (case e2 => rfl); (case e3 => rfl)) | ((with_reducible refine wpList_load_by (o := ⟨some 49, .load 24 (.tmp 2), _, _, _, _⟩) ?e1 24 (.tmp 2) ?e2 ⟨w.heap.size, 0, none⟩ ?e3 _ M73.out ?_); (case e1 => rfl); (case e2 => rfl); (case e3 => rfl)))
  refine C74.out.mono ?_
  rintro e w75 ⟨rfl, hb76⟩
  have T77 := Lib.hid (T66.out.below hb76 T66.out.lt)
  have T78 := Lib.hid (T65.out.below hb76 T65.out.lt)
  have F79 := Lib.hid (F67.out.below hb76 (Nat.le_refl _))
  have F80 := Lib.hid (F68.out.below hb76 (Nat.le_refl _))
  have F81 := Lib.hid (F69.out.below hb76 (Nat.le_refl _))
  have F82 := Lib.hid (F70.out.below hb76 (Nat.le_refl _))
  have B83 := Lib.hid (B71.out.trans (hb76.mono B71.out.size))
  clear hb76
  have c87 := get_book A len cap X w75 F80.out.1 (Nat.le_refl _) HNX.out HXB.out HKX.out HCX.out
  unfold GetPost at c87
  rw [GX.out] at c87
  try dsimp only [Option.isSome_some, Option.isSome_none, Option.getD_some, Option.getD_none] at c87
  have C88 := Lib.hid (c87)
  clear c87
  go_wp2_with fail
  refine C88.out.mono ?_
  rintro e w89 ⟨d84, rfl, hd85, hk86, hb90⟩
  have T91 := Lib.hid (T77.out.below hb90 T77.out.lt)
  have T92 := Lib.hid (T78.out.below hb90 T78.out.lt)
  have F93 := Lib.hid (F79.out.below hb90 (Nat.le_refl _))
  have F94 := Lib.hid (F80.out.below hb90 (Nat.le_refl _))
  have F95 := Lib.hid (F81.out.below hb90 (Nat.le_refl _))
  have F96 := Lib.hid (F82.out.below hb90 (Nat.le_refl _))
  have B97 := Lib.hid (B83.out.trans (hb90.mono B83.out.size))
  clear hb90
  have E98 := Lib.hid (hd85)
  have F99 := Lib.hid (hk86)
  clear hd85 hk86
  have hb100 := (Below.refl w89.heap.size w89).alloc (Nat.le_refl _) (.cells #[(.slice d84.A d84.xs.length d84.c)] 24)
  have T101 := Lib.hid (BoAt.new w89 (.slice d84.A d84.xs.length d84.c))
  have T102 := Lib.hid (T91.out.below hb100 T91.out.lt)
  have T103 := Lib.hid (T92.out.below hb100 T92.out.lt)
  have F104 := Lib.hid (F93.out.below hb100 (Nat.le_refl _))
  have F105 := Lib.hid (F94.out.below hb100 (Nat.le_refl _))
  have F106 := Lib.hid (F95.out.below hb100 (Nat.le_refl _))
  have F107 := Lib.hid (F96.out.below hb100 (Nat.le_refl _))
  have F108 := Lib.hid (F99.out.below hb100 (Nat.le_refl _))
  have B109 := Lib.hid (B97.out.trans (hb100.mono B97.out.size))
  clear hb100
  have M117 := Lib.hid (T101.out.load)
  have c118 := put_book d84 (w89.alloc (.cells #[(.slice d84.A d84.xs.length d84.c)] 24)) F108.out
  unfold PutPost GivesT at c118
  try rw [E98.out] at c118
  simp only [MX.out, if_true] at c118
  rw [EX.out] at c118
  have C119 := Lib.hid (c118)
  clear c118
  go_wp2_with (first | ((with_reducible refine wpList_load_by (o := ⟨some 65, .load 24 (.tmp 11), _, _, _, _⟩) ?e1 24 (.tmp 11) ?e2 ⟨w89.heap.size, 0, none⟩ ?e3 _ M117.out ?_); (case e1 => rfl); (case e2 => rfl); (case e3 => rfl)))
  refine C119.out.mono ?_
  rintro e w120 ⟨A110, n111, k112, rfl, h113, h114, h115, h116, hb121⟩
  have T122 := Lib.hid (T102.out.below hb121 T102.out.lt)
  have T123 := Lib.hid (T103.out.below hb121 T103.out.lt)
  have T124 := Lib.hid (T101.out.below hb121 T101.out.lt)
  have F125 := Lib.hid (F104.out.below hb121 (Nat.le_refl _))
  have F126 := Lib.hid (F105.out.below hb121 (Nat.le_refl _))
  have F127 := Lib.hid (F106.out.below hb121 (Nat.le_refl _))
  have F128 := Lib.hid (F107.out.below hb121 (Nat.le_refl _))
  have F129 := Lib.hid (F108.out.below hb121 (Nat.le_refl _))
  have B130 := Lib.hid (B109.out.trans (hb121.mono B109.out.size))
  clear hb121
  have N131 := Lib.hid (h113)
  have N132 := Lib.hid (h114)
  have N133 := Lib.hid (h115)
  have Y134 := Lib.hid (BsAt.own h116)
  clear h113 h114 h115 h116
  have M135 := Lib.hid (T124.out.load)
  have C136 := Lib.hid (bmay_any d84 w120 F129.out)
  try rw [E98.out] at C136
  rw [MX.out] at C136
  go_wp2_with (first | ((with_reducible refine wpList_load_by (o := ⟨some 71, .load 24 (.tmp 11), _, _, _, _⟩) ?e1 24 (.tmp 11) ?e2 ⟨w89.heap.size, 0, none⟩ ?e3 _ M135.out ?_); (case e1 => rfl); (case e2 => rfl); (case e3 => rfl)))
  refine C136.out.mono ?_
  rintro e w137 ⟨rfl, hb138⟩
  have T139 := Lib.hid (T122.out.below hb138 T122.out.lt)
  have T140 := Lib.hid (T123.out.below hb138 T123.out.lt)
  have T141 := Lib.hid (T124.out.below hb138 T124.out.lt)
  have F142 := Lib.hid (F125.out.below hb138 (Nat.le_refl _))
  have F143 := Lib.hid (F126.out.below hb138 (Nat.le_refl _))
  have F144 := Lib.hid (F127.out.below hb138 (Nat.le_refl _))
  have F145 := Lib.hid (F128.out.below hb138 (Nat.le_refl _))
  have F146 := Lib.hid (F129.out.below hb138 (Nat.le_refl _))
  have F147 := Lib.hid (Y134.out.below hb138 (Nat.le_refl _))
  have B148 := Lib.hid (B130.out.trans (hb138.mono B130.out.size))
  clear hb138
  have T1 := F147.out.1.text (P := Tryz.prog) (len := n111) (cap := k112) N131.out 46 5 9 Tryz.underlying46 Tryz.underlying5 Tryz.underlying9
  have T2 := F143.out.1.text (P := Tryz.prog) (len := len) (cap := cap) HNX.out 46 5 9 Tryz.underlying46 Tryz.underlying5 Tryz.underlying9
  go_wp2
  go_ret
  exact ⟨rfl, B148.out⟩
set_option maxHeartbeats 8000000 in
theorem walk_canonBack (b : Bk) (A : Option Addr) (len cap : Nat) (zs : List Int) (w : World) (hlaid : Laid w) (wb : BkAt w b) (wx : IsRow .u8 w A len cap zs) :
    Calls Tryz.prog 6 #[.agg #[.slice b.A b.xs.length b.c], .slice A len cap] w fun e w' => e = .returned (.bool true) ∧ Below w.heap.size w w' := by
  cases p : fewB b.rs
  · exact cback_few b A len cap zs w hlaid wb wx p
  · by_cases hl : len ≤ 3000
    · cases m : bmay b.rs <;> cases g : bget (zs.take len) with
      | none => first | exact cback_00 b A len cap zs w hlaid wb wx p hl m g | exact cback_10 b A len cap zs w hlaid wb wx p hl m g
      | some X2 => first | exact cback_01 b A len cap zs w hlaid wb wx X2 p hl m g | exact cback_11 b A len cap zs w hlaid wb wx X2 p hl m g
    · exact cback_long b A len cap zs w hlaid wb wx p hl
end Go.Proofs.YtcmknbdeafcknaaGreatDoor

