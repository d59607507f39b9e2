import Derived.Test.YtcmknbdeafcknaaGreatDoorCaAwake
import Derived.Test.YtcmknbdeafcknaaGreatDoorBkFew
import Derived.Test.YtcmknbdeafcknaaGreatDoorGArgs
/-
  The law CanonDigest: for every book it answers true, and nothing that was there is written.
-/
namespace Go.Proofs.YtcmknbdeafcknaaGreatDoor
open Go.RowKit WM
set_option linter.unusedVariables false
set_option maxRecDepth 100000
set_option maxHeartbeats 8000000 in
theorem cdigest_00 (b : Bk) (w : World) (hlaid : Laid w) (wb : BkAt w b) (iP : fewB b.rs = false) (iM : bmay b.rs = false) :
    Calls Tryz.prog 10 #[.agg #[.slice b.A b.xs.length b.c]] w fun e w' => e = .returned (.bool true) ∧ Below w.heap.size w w' := by
  have HLA := Lib.hid (fun (X : World) (hX : Below w.heap.size w X) => hlaid.below hX (Nat.le_refl _))
  have Fb := Lib.hid wb
  have hz : ∀ w : World, (zeroValue 24).run Tryz.prog w = .ok (.agg #[.slice none 0 0]) w := zeroBook
  have hok := bk_ok wb
  have HQ := fun (Z : List Int) w => eq_dig (SH.sum_bytes Z) (SH.sum_bytes Z) (SH.sum_len Z) (SH.sum_len Z) w
  simp only [beq_self_eq_true] at HQ
  have PB := Lib.hid iP
  have MB := Lib.hid iM
  have EX := Lib.hid (show bbs b.rs = [] by unfold bbs; rw [iM]; rfl)
  have HQ := HQ []
  clear iP iM hlaid wb hok
  have B1 := Lib.hid (Below.refl w.heap.size w)
  have T2n := BoAt.new w (.slice b.A b.xs.length b.c)
  have T2 := Lib.hid T2n
  clear T2n
  have B3 := Lib.hid (B1.out.alloc B1.out.size (.cells #[(.slice b.A b.xs.length b.c)] 24))
  have F4 := Lib.hid (Fb.out.below B3.out (Nat.le_refl _))
  go_enter Tryz.func10, Tryz.ntmps10
  have C5 := Lib.hid (caAwake (w.alloc (.cells #[(.slice b.A b.xs.length b.c)] 24)) (HLA.out _ B3.out))
  go_wp2_with fail
  refine C5.out.mono ?_
  rintro e w6 ⟨rfl, hb7⟩
  have T8 := Lib.hid (T2.out.below hb7 T2.out.lt)
  have F9 := Lib.hid (F4.out.below hb7 (Nat.le_refl _))
  have B10 := Lib.hid (B3.out.trans (hb7.mono B3.out.size))
  clear hb7
  have M11 := Lib.hid (T8.out.load)
  have C12 := Lib.hid (fewB_any b w6 F9.out)
  rw [PB.out] at C12
  go_wp2_with (first | ((with_reducible refine wpList_load_by (o := ⟨some 8, .load 24 (.tmp 1), _, _, _, _⟩) ?e1 24 (.tmp 1) ?e2 ⟨w.heap.size, 0, none⟩ ?e3 _ M11.out ?_); (case e1 => rfl); (case e2 => rfl); (case e3 => rfl)))
  refine C12.out.mono ?_
  rintro e w13 ⟨rfl, hb14⟩
  have T15 := Lib.hid (T8.out.below hb14 T8.out.lt)
  have F16 := Lib.hid (F9.out.below hb14 (Nat.le_refl _))
  have B17 := Lib.hid (B10.out.trans (hb14.mono B10.out.size))
  clear hb14
  have M18 := Lib.hid (T15.out.load)
  have c19 := put_book b w13 F16.out
  unfold PutPost at c19
  simp only [MB.out, Bool.false_eq_true, if_false] at c19
  have C20 := Lib.hid (c19)
  clear c19
  go_wp2_with (first | ((with_reducible refine wpList_load_by (o := ⟨some 11, .load 24 (.tmp 1), _, _, _, _⟩) ?e1 24 (.tmp 1) ?e2 ⟨w.heap.size, 0, none⟩ ?e3 _ M18.out ?_); (case e1 => rfl); (case e2 => rfl); (case e3 => rfl)))
  refine C20.out.mono ?_
  rintro e w21 ⟨rfl, hb22⟩
  have T23 := Lib.hid (T15.out.below hb22 T15.out.lt)
  have F24 := Lib.hid (F16.out.below hb22 (Nat.le_refl _))
  have B25 := Lib.hid (B17.out.trans (hb22.mono B17.out.size))
  clear hb22
  go_wp2
  go_ret
  exact ⟨rfl, B25.out⟩
set_option maxHeartbeats 8000000 in
theorem cdigest_01 (b : Bk) (w : World) (hlaid : Laid w) (wb : BkAt w b) (iP : fewB b.rs = false) (iM : bmay b.rs = true) :
    Calls Tryz.prog 10 #[.agg #[.slice b.A b.xs.length b.c]] w fun e w' => e = .returned (.bool true) ∧ Below w.heap.size w w' := by
  have HLA := Lib.hid (fun (X : World) (hX : Below w.heap.size w X) => hlaid.below hX (Nat.le_refl _))
  have Fb := Lib.hid wb
  have hz : ∀ w : World, (zeroValue 24).run Tryz.prog w = .ok (.agg #[.slice none 0 0]) w := zeroBook
  have hok := bk_ok wb
  have HQ := fun (Z : List Int) w => eq_dig (SH.sum_bytes Z) (SH.sum_bytes Z) (SH.sum_len Z) (SH.sum_len Z) w
  simp only [beq_self_eq_true] at HQ
  have PB := Lib.hid iP
  have MB := Lib.hid iM
  have HBY := Lib.hid (benc_bytes iM hok)
  have HBL := Lib.hid (benc_len iM fun R hR => (hok R hR).1)
  have EX := Lib.hid (show bbs b.rs = benc b.rs by unfold bbs; rw [iM]; rfl)
  have HQ := HQ (benc b.rs)
  generalize hZ : benc b.rs = Z at *
  have EB := Lib.hid hZ
  clear hZ
  clear iP iM hlaid wb hok
  have B1 := Lib.hid (Below.refl w.heap.size w)
  have T2n := BoAt.new w (.slice b.A b.xs.length b.c)
  have T2 := Lib.hid T2n
  clear T2n
  have B3 := Lib.hid (B1.out.alloc B1.out.size (.cells #[(.slice b.A b.xs.length b.c)] 24))
  have F4 := Lib.hid (Fb.out.below B3.out (Nat.le_refl _))
  go_enter Tryz.func10, Tryz.ntmps10
  have C5 := Lib.hid (caAwake (w.alloc (.cells #[(.slice b.A b.xs.length b.c)] 24)) (HLA.out _ B3.out))
  go_wp2_with fail
  refine C5.out.mono ?_
  rintro e w6 ⟨rfl, hb7⟩
  have T8 := Lib.hid (T2.out.below hb7 T2.out.lt)
  have F9 := Lib.hid (F4.out.below hb7 (Nat.le_refl _))
  have B10 := Lib.hid (B3.out.trans (hb7.mono B3.out.size))
  clear hb7
  have M11 := Lib.hid (T8.out.load)
  have C12 := Lib.hid (fewB_any b w6 F9.out)
  rw [PB.out] at C12
  go_wp2_with (first | ((with_reducible refine wpList_load_by (o := ⟨some 8, .load 24 (.tmp 1), _, _, _, _⟩) ?e1 24 (.tmp 1) ?e2 ⟨w.heap.size, 0, none⟩ ?e3 _ M11.out ?_); (case e1 => rfl); (case e2 => rfl); (case e3 => rfl)))
  refine C12.out.mono ?_
  rintro e w13 ⟨rfl, hb14⟩
  have T15 := Lib.hid (T8.out.below hb14 T8.out.lt)
  have F16 := Lib.hid (F9.out.below hb14 (Nat.le_refl _))
  have B17 := Lib.hid (B10.out.trans (hb14.mono B10.out.size))
  clear hb14
  have M25 := Lib.hid (T15.out.load)
  have c26 := put_book b w13 F16.out
  unfold PutPost GivesT at c26
  simp only [MB.out, if_true] at c26
  rw [EB.out] at c26
  have C27 := Lib.hid (c26)
  clear c26
  go_wp2_with (first | ((with_reducible refine wpList_load_by (o := ⟨some 11, .load 24 (.tmp 1), _, _, _, _⟩) ?e1 24 (.tmp 1) ?e2 ⟨w.heap.size, 0, none⟩ ?e3 _ M25.out ?_); (case e1 => rfl); (case e2 => rfl); (case e3 => rfl)))
  refine C27.out.mono ?_
  rintro e w28 ⟨A18, n19, k20, rfl, h21, h22, h23, h24, hb29⟩
  have T30 := Lib.hid (T15.out.below hb29 T15.out.lt)
  have F31 := Lib.hid (F16.out.below hb29 (Nat.le_refl _))
  have B32 := Lib.hid (B17.out.trans (hb29.mono B17.out.size))
  clear hb29
  have N33 := Lib.hid (h21)
  have N34 := Lib.hid (h22)
  have N35 := Lib.hid (h23)
  have Y36 := Lib.hid (BsAt.own h24)
  clear h21 h22 h23 h24
  go_wp2
  go_ret
  exact ⟨rfl, B32.out⟩
set_option maxHeartbeats 8000000 in
theorem cdigest_10 (b : Bk) (w : World) (hlaid : Laid w) (wb : BkAt w b) (iP : fewB b.rs = true) (iM : bmay b.rs = false) :
    Calls Tryz.prog 10 #[.agg #[.slice b.A b.xs.length b.c]] w fun e w' => e = .returned (.bool true) ∧ Below w.heap.size w w' := by
  have HLA := Lib.hid (fun (X : World) (hX : Below w.heap.size w X) => hlaid.below hX (Nat.le_refl _))
  have Fb := Lib.hid wb
  have hz : ∀ w : World, (zeroValue 24).run Tryz.prog w = .ok (.agg #[.slice none 0 0]) w := zeroBook
  have hok := bk_ok wb
  have HQ := fun (Z : List Int) w => eq_dig (SH.sum_bytes Z) (SH.sum_bytes Z) (SH.sum_len Z) (SH.sum_len Z) w
  simp only [beq_self_eq_true] at HQ
  have PB := Lib.hid iP
  have MB := Lib.hid iM
  have EX := Lib.hid (show bbs b.rs = [] by unfold bbs; rw [iM]; rfl)
  have HQ := HQ []
  clear iP iM hlaid wb hok
  have B1 := Lib.hid (Below.refl w.heap.size w)
  have T2n := BoAt.new w (.slice b.A b.xs.length b.c)
  have T2 := Lib.hid T2n
  clear T2n
  have B3 := Lib.hid (B1.out.alloc B1.out.size (.cells #[(.slice b.A b.xs.length b.c)] 24))
  have F4 := Lib.hid (Fb.out.below B3.out (Nat.le_refl _))
  go_enter Tryz.func10, Tryz.ntmps10
  have C5 := Lib.hid (caAwake (w.alloc (.cells #[(.slice b.A b.xs.length b.c)] 24)) (HLA.out _ B3.out))
  go_wp2_with fail
  refine C5.out.mono ?_
  rintro e w6 ⟨rfl, hb7⟩
  have T8 := Lib.hid (T2.out.below hb7 T2.out.lt)
  have F9 := Lib.hid (F4.out.below hb7 (Nat.le_refl _))
  have B10 := Lib.hid (B3.out.trans (hb7.mono B3.out.size))
  clear hb7
  have M11 := Lib.hid (T8.out.load)
  have C12 := Lib.hid (fewB_any b w6 F9.out)
  rw [PB.out] at C12
  go_wp2_with (first | ((with_reducible refine wpList_load_by (o := ⟨some 8, .load 24 (.tmp 1), _, _, _, _⟩) ?e1 24 (.tmp 1) ?e2 ⟨w.heap.size, 0, none⟩ ?e3 _ M11.out ?_); (case e1 => rfl); (case e2 => rfl); (case e3 => rfl)))
  refine C12.out.mono ?_
  rintro e w13 ⟨rfl, hb14⟩
  have T15 := Lib.hid (T8.out.below hb14 T8.out.lt)
  have F16 := Lib.hid (F9.out.below hb14 (Nat.le_refl _))
  have B17 := Lib.hid (B10.out.trans (hb14.mono B10.out.size))
  clear hb14
  have M18 := Lib.hid (T15.out.load)
  have c19 := put_book b w13 F16.out
  unfold PutPost at c19
  simp only [MB.out, Bool.false_eq_true, if_false] at c19
  have C20 := Lib.hid (c19)
  clear c19
  go_wp2_with (first | ((with_reducible refine wpList_load_by (o := ⟨some 11, .load 24 (.tmp 1), _, _, _, _⟩) ?e1 24 (.tmp 1) ?e2 ⟨w.heap.size, 0, none⟩ ?e3 _ M18.out ?_); (case e1 => rfl); (case e2 => rfl); (case e3 => rfl)))
  refine C20.out.mono ?_
  rintro e w21 ⟨rfl, hb22⟩
  have T23 := Lib.hid (T15.out.below hb22 T15.out.lt)
  have F24 := Lib.hid (F16.out.below hb22 (Nat.le_refl _))
  have B25 := Lib.hid (B17.out.trans (hb22.mono B17.out.size))
  clear hb22
  have M26 := Lib.hid (T23.out.load)
  have C27 := Lib.hid (digest_any b w21 (HLA.out _ B25.out) F24.out)
  unfold DSumPost at C27
  rw [EX.out] at C27
  go_wp2_with (first | ((with_reducible refine wpList_load_by (o := ⟨some 22, .load 24 (.tmp 1), _, _, _, _⟩) ?e1 24 (.tmp 1) ?e2 ⟨w.heap.size, 0, none⟩ ?e3 _ M26.out ?_); (case e1 => rfl); (case e2 => rfl); (case e3 => rfl)))
  refine C27.out.mono ?_
  rintro e w28 ⟨rfl, hb29⟩
  have T30 := Lib.hid (T23.out.below hb29 T23.out.lt)
  have F31 := Lib.hid (F24.out.below hb29 (Nat.le_refl _))
  have B32 := Lib.hid (B25.out.trans (hb29.mono B25.out.size))
  clear hb29
  have C33 := Lib.hid (dsum_any (B := 0) none 0 0 [] w28 (HLA.out _ B32.out) Byt.nil rfl (Nat.le_refl _) (by decide) (by decide) (fun _ => rfl) (fun z hz => by cases hz) (Nat.zero_le _))
  unfold DSumPost at C33
  go_wp2_with fail
  refine C33.out.mono ?_
  rintro e w34 ⟨rfl, hb35⟩
  have T36 := Lib.hid (T30.out.below hb35 T30.out.lt)
  have F37 := Lib.hid (F31.out.below hb35 (Nat.le_refl _))
  have B38 := Lib.hid (B32.out.trans (hb35.mono B32.out.size))
  clear hb35
  have M39 := Lib.hid (T36.out.load)
  have C40 := Lib.hid (digest_any b w34 (HLA.out _ B38.out) F37.out)
  unfold DSumPost at C40
  rw [EX.out] at C40
  go_wp2_with (first | ((with_reducible refine wpList_load_by (o := ⟨some 30, .load 24 (.tmp 1), _, _, _, _⟩) ?e1 24 (.tmp 1) ?e2 ⟨w.heap.size, 0, none⟩ ?e3 _ M39.out ?_); (case e1 => rfl); (case e2 => rfl); (case e3 => rfl)))
  refine C40.out.mono ?_
  rintro e w41 ⟨rfl, hb42⟩
  have T43 := Lib.hid (T36.out.below hb42 T36.out.lt)
  have F44 := Lib.hid (F37.out.below hb42 (Nat.le_refl _))
  have B45 := Lib.hid (B38.out.trans (hb42.mono B38.out.size))
  clear hb42
  have C46 := Lib.hid (of_any ⟨#[]⟩ w41 (HLA.out _ B45.out) (by decide))
  unfold DSumPost at C46
  rw [show nums ⟨#[]⟩ = [] from rfl] at C46
  go_wp2_with fail
  refine C46.out.mono ?_
  rintro e w47 ⟨rfl, hb48⟩
  have T49 := Lib.hid (T43.out.below hb48 T43.out.lt)
  have F50 := Lib.hid (F44.out.below hb48 (Nat.le_refl _))
  have B51 := Lib.hid (B45.out.trans (hb48.mono B45.out.size))
  clear hb48
  generalize bvals (SH.sum []) = DD at *
  go_wp2
  go_ret
  exact ⟨rfl, B51.out⟩
set_option maxHeartbeats 8000000 in
theorem cdigest_11 (b : Bk) (w : World) (hlaid : Laid w) (wb : BkAt w b) (iP : fewB b.rs = true) (iM : bmay b.rs = true) :
    Calls Tryz.prog 10 #[.agg #[.slice b.A b.xs.length b.c]] w fun e w' => e = .returned (.bool true) ∧ Below w.heap.size w w' := by
  have HLA := Lib.hid (fun (X : World) (hX : Below w.heap.size w X) => hlaid.below hX (Nat.le_refl _))
  have Fb := Lib.hid wb
  have hz : ∀ w : World, (zeroValue 24).run Tryz.prog w = .ok (.agg #[.slice none 0 0]) w := zeroBook
  have hok := bk_ok wb
  have HQ := fun (Z : List Int) w => eq_dig (SH.sum_bytes Z) (SH.sum_bytes Z) (SH.sum_len Z) (SH.sum_len Z) w
  simp only [beq_self_eq_true] at HQ
  have PB := Lib.hid iP
  have MB := Lib.hid iM
  have HBY := Lib.hid (benc_bytes iM hok)
  have HBL := Lib.hid (benc_len iM fun R hR => (hok R hR).1)
  have EX := Lib.hid (show bbs b.rs = benc b.rs by unfold bbs; rw [iM]; rfl)
  have HQ := HQ (benc b.rs)
  generalize hZ : benc b.rs = Z at *
  have EB := Lib.hid hZ
  clear hZ
  clear iP iM hlaid wb hok
  have B1 := Lib.hid (Below.refl w.heap.size w)
  have T2n := BoAt.new w (.slice b.A b.xs.length b.c)
  have T2 := Lib.hid T2n
  clear T2n
  have B3 := Lib.hid (B1.out.alloc B1.out.size (.cells #[(.slice b.A b.xs.length b.c)] 24))
  have F4 := Lib.hid (Fb.out.below B3.out (Nat.le_refl _))
  go_enter Tryz.func10, Tryz.ntmps10
  have C5 := Lib.hid (caAwake (w.alloc (.cells #[(.slice b.A b.xs.length b.c)] 24)) (HLA.out _ B3.out))
  go_wp2_with fail
  refine C5.out.mono ?_
  rintro e w6 ⟨rfl, hb7⟩
  have T8 := Lib.hid (T2.out.below hb7 T2.out.lt)
  have F9 := Lib.hid (F4.out.below hb7 (Nat.le_refl _))
  have B10 := Lib.hid (B3.out.trans (hb7.mono B3.out.size))
  clear hb7
  have M11 := Lib.hid (T8.out.load)
  have C12 := Lib.hid (fewB_any b w6 F9.out)
  rw [PB.out] at C12
  go_wp2_with (first | ((with_reducible refine wpList_load_by (o := ⟨some 8, .load 24 (.tmp 1), _, _, _, _⟩) ?e1 24 (.tmp 1) ?e2 ⟨w.heap.size, 0, none⟩ ?e3 _ M11.out ?_); (case e1 => rfl); (case e2 => rfl); (case e3 => rfl)))
  refine C12.out.mono ?_
  rintro e w13 ⟨rfl, hb14⟩
  have T15 := Lib.hid (T8.out.below hb14 T8.out.lt)
  have F16 := Lib.hid (F9.out.below hb14 (Nat.le_refl _))
  have B17 := Lib.hid (B10.out.trans (hb14.mono B10.out.size))
  clear hb14
  have M25 := Lib.hid (T15.out.load)
  have c26 := put_book b w13 F16.out
  unfold PutPost GivesT at c26
  simp only [MB.out, if_true] at c26
  rw [EB.out] at c26
  have C27 := Lib.hid (c26)
  clear c26
  go_wp2_with (first | ((with_reducible refine wpList_load_by (o := ⟨some 11, .load 24 (.tmp 1), _, _, _, _⟩) ?e1 24 (.tmp 1) ?e2 ⟨w.heap.size, 0, none⟩ ?e3 _ M25.out ?_); (case e1 => rfl); (case e2 => rfl); (case e3 => rfl)))
  refine C27.out.mono ?_
  rintro e w28 ⟨A18, n19, k20, rfl, h21, h22, h23, h24, hb29⟩
  have T30 := Lib.hid (T15.out.below hb29 T15.out.lt)
  have F31 := Lib.hid (F16.out.below hb29 (Nat.le_refl _))
  have B32 := Lib.hid (B17.out.trans (hb29.mono B17.out.size))
  clear hb29
  have N33 := Lib.hid (h21)
  have N34 := Lib.hid (h22)
  have N35 := Lib.hid (h23)
  have Y36 := Lib.hid (BsAt.own h24)
  clear h21 h22 h23 h24
  have M37 := Lib.hid (T30.out.load)
  have C38 := Lib.hid (digest_any b w28 (HLA.out _ B32.out) F31.out)
  unfold DSumPost at C38
  rw [EX.out] at C38
  go_wp2_with (first | ((with_reducible refine wpList_load_by (o := ⟨some 22, .load 24 (.tmp 1), _, _, _, _⟩) ?e1 24 (.tmp 1) ?e2 ⟨w.heap.size, 0, none⟩ ?e3 _ M37.out ?_); (case e1 => rfl); (case e2 => rfl); (case e3 => rfl)))
  refine C38.out.mono ?_
  rintro e w39 ⟨rfl, hb40⟩
  have T41 := Lib.hid (T30.out.below hb40 T30.out.lt)
  have F42 := Lib.hid (F31.out.below hb40 (Nat.le_refl _))
  have F43 := Lib.hid (Y36.out.below hb40 (Nat.le_refl _))
  have B44 := Lib.hid (B32.out.trans (hb40.mono B32.out.size))
  clear hb40
  have C45 := Lib.hid (dsum_any A18 n19 k20 Z w39 (HLA.out _ B44.out) F43.out.1 N33.out N34.out N35.out (by have := N33.out; have := HBL.out; omega) F43.out.2.2 HBY.out (Nat.le_refl _))
  unfold DSumPost at C45
  go_wp2_with fail
  refine C45.out.mono ?_
  rintro e w46 ⟨rfl, hb47⟩
  have T48 := Lib.hid (T41.out.below hb47 T41.out.lt)
  have F49 := Lib.hid (F42.out.below hb47 (Nat.le_refl _))
  have F50 := Lib.hid (F43.out.below hb47 (Nat.le_refl _))
  have B51 := Lib.hid (B44.out.trans (hb47.mono B44.out.size))
  clear hb47
  generalize bvals (SH.sum Z) = DD at *
  go_wp2
  go_ret
  exact ⟨rfl, B51.out⟩
set_option maxHeartbeats 8000000 in
theorem walk_canonDigest (b : Bk) (w : World) (hlaid : Laid w) (wb : BkAt w b) :
    Calls Tryz.prog 10 #[.agg #[.slice b.A b.xs.length b.c]] w fun e w' => e = .returned (.bool true) ∧ Below w.heap.size w w' := by
  cases p : fewB b.rs <;> cases m : bmay b.rs
  · exact cdigest_00 b w hlaid wb p m
  · exact cdigest_01 b w hlaid wb p m
  · exact cdigest_10 b w hlaid wb p m
  · exact cdigest_11 b w hlaid wb p m
end Go.Proofs.YtcmknbdeafcknaaGreatDoor

