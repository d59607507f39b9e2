import Derived.Test.YtcmknbdeafcknaaGreatDoorCaAwake
import Derived.Test.YtcmknbdeafcknaaGreatDoorBkFew
import Derived.Test.YtcmknbdeafcknaaGreatDoorGArgs
import Derived.Test.YtcmknbdeafcknaaGreatDoorGUni
import Derived.Test.YtcmknbdeafcknaaGreatDoorGCaR
import Derived.Test.YtcmknbdeafcknaaGreatDoorGBkR
/-
  The law CanonTells: for every book and every bytes it answers true, and nothing that was there is written.
-/
namespace Go.Proofs.YtcmknbdeafcknaaGreatDoor
open Go.RowKit Go.Shelf WM
set_option linter.unusedVariables false
set_option maxRecDepth 100000
theorem fewB_fs8 {b : Bk} (h : fewB b.rs = true) : b.xs.length ≤ 1000 ∧ ∀ x ∈ b.xs, x.R.fs.length ≤ 1000 := ⟨by have := (fewB_fs h).1; omega, (fewB_fs h).2⟩
theorem bget_small {zs : List Int} {d : Bk} (h : d.rs = (bget zs).getD []) : d.xs.length ≤ 1000 ∧ ∀ x ∈ d.xs, x.R.fs.length ≤ 1000 := by
  have key : d.rs.length ≤ 10 ∧ AllMay d.rs := by
    rw [h]
    cases hg : bget zs with
    | none => exact ⟨Nat.zero_le _, fun x hx => by cases hx⟩
    | some rs =>
      unfold bget at hg
      split at hg
      · cases hg
      · split at hg
        · rename_i hc
          cases hg
          exact ⟨(bmay_iff.1 hc.2).1, (bmay_iff.1 hc.2).2.1⟩
        · cases hg
  refine ⟨?_, fun x hx => by have := rmay_len (key.2 x.R (List.mem_map_of_mem hx)); omega⟩
  have := key.1
  unfold Bk.rs at this
  rw [List.length_map] at this
  omega
set_option maxHeartbeats 16000000 in
theorem ctells_few (b : Bk) (A : Option Addr) (len cap : Nat) (zs : List Int) (w : World) (hlaid : Laid w) (wb : BkAt w b) (wx : IsRow .u8 w A len cap zs) (iP : fewB b.rs = false) :
    Calls Tryz.prog 5 #[.agg #[.slice b.A b.xs.length b.c], .slice A len cap] w fun e w' => e = .returned (.bool true) ∧ Below w.heap.size w w' := by
  have HLA := Lib.hid (fun (X : World) (hX : Below w.heap.size w X) => hlaid.below hX (Nat.le_refl _))
  have Fb := Lib.hid wb
  have hz : ∀ w : World, (zeroValue 24).run Tryz.prog w = .ok (.agg #[.slice none 0 0]) w := zeroBook
  obtain ⟨hy, hxl, hxb, hlc, hcm⟩ := wx.byt
  have Fx : Hid (BsAt w A len cap (zs.take len)) := Lib.hid ⟨hy, hxl, row_nil wx⟩
  have HNX := Lib.hid hxl
  have HKX := Lib.hid hlc
  have HCX := Lib.hid hcm
  have HXB := Lib.hid hxb
  simp only [maxLen] at hcm
  have PB := Lib.hid iP
  generalize zs.take len = X at *
  clear iP hlaid wb wx hy hxl hxb
  have B1 := Lib.hid (Below.refl w.heap.size w)
  have T2n := BoAt.new w (.slice b.A b.xs.length b.c)
  have T2 := Lib.hid T2n
  clear T2n
  have B3 := Lib.hid (B1.out.alloc B1.out.size (.cells #[(.slice b.A b.xs.length b.c)] 24))
  have F4 := Lib.hid (Fb.out.below B3.out (Nat.le_refl _))
  have F5 := Lib.hid (Fx.out.below B3.out (Nat.le_refl _))
  go_enter Tryz.func5, Tryz.ntmps5
  have C6 := Lib.hid (caAwake (w.alloc (.cells #[(.slice b.A b.xs.length b.c)] 24)) (HLA.out _ B3.out))
  go_wp2_with fail
  refine C6.out.mono ?_
  rintro e w7 ⟨rfl, hb8⟩
  have T9 := Lib.hid (T2.out.below hb8 T2.out.lt)
  have F10 := Lib.hid (F4.out.below hb8 (Nat.le_refl _))
  have F11 := Lib.hid (F5.out.below hb8 (Nat.le_refl _))
  have B12 := Lib.hid (B3.out.trans (hb8.mono B3.out.size))
  clear hb8
  have M13 := Lib.hid (T9.out.load)
  have C14 := Lib.hid (fewB_any b w7 F10.out)
  rw [PB.out] at C14
  go_wp2_with (first | ((with_reducible refine wpList_load_by (o := ⟨some 17, .load 24 (.tmp 2), _, _, _, _⟩) ?e1 24 (.tmp 2) ?e2 ⟨w.heap.size, 0, none⟩ ?e3 _ M13.out ?_); (case e1 => rfl); (case e2 => rfl); (case e3 => rfl)))
  refine C14.out.mono ?_
  rintro e w15 ⟨rfl, hb16⟩
  have T17 := Lib.hid (T9.out.below hb16 T9.out.lt)
  have F18 := Lib.hid (F10.out.below hb16 (Nat.le_refl _))
  have F19 := Lib.hid (F11.out.below hb16 (Nat.le_refl _))
  have B20 := Lib.hid (B12.out.trans (hb16.mono B12.out.size))
  clear hb16
  go_wp2
  go_ret
  exact ⟨rfl, B20.out⟩
set_option maxHeartbeats 16000000 in
theorem ctells_long (b : Bk) (A : Option Addr) (len cap : Nat) (zs : List Int) (w : World) (hlaid : Laid w) (wb : BkAt w b) (wx : IsRow .u8 w A len cap zs) (iP : fewB b.rs = true) (iL : ¬ len ≤ 3000) :
    Calls Tryz.prog 5 #[.agg #[.slice b.A b.xs.length b.c], .slice A len cap] w fun e w' => e = .returned (.bool true) ∧ Below w.heap.size w w' := by
  have HLA := Lib.hid (fun (X : World) (hX : Below w.heap.size w X) => hlaid.below hX (Nat.le_refl _))
  have Fb := Lib.hid wb
  have hz : ∀ w : World, (zeroValue 24).run Tryz.prog w = .ok (.agg #[.slice none 0 0]) w := zeroBook
  obtain ⟨hy, hxl, hxb, hlc, hcm⟩ := wx.byt
  have Fx : Hid (BsAt w A len cap (zs.take len)) := Lib.hid ⟨hy, hxl, row_nil wx⟩
  have HNX := Lib.hid hxl
  have HKX := Lib.hid hlc
  have HCX := Lib.hid hcm
  have HXB := Lib.hid hxb
  simp only [maxLen] at hcm
  have PB := Lib.hid iP
  have t1 : (3000 : Int) < (len : Int) := by omega
  generalize zs.take len = X at *
  clear iP hlaid wb wx hy hxl hxb
  have B1 := Lib.hid (Below.refl w.heap.size w)
  have T2n := BoAt.new w (.slice b.A b.xs.length b.c)
  have T2 := Lib.hid T2n
  clear T2n
  have B3 := Lib.hid (B1.out.alloc B1.out.size (.cells #[(.slice b.A b.xs.length b.c)] 24))
  have F4 := Lib.hid (Fb.out.below B3.out (Nat.le_refl _))
  have F5 := Lib.hid (Fx.out.below B3.out (Nat.le_refl _))
  go_enter Tryz.func5, Tryz.ntmps5
  have C6 := Lib.hid (caAwake (w.alloc (.cells #[(.slice b.A b.xs.length b.c)] 24)) (HLA.out _ B3.out))
  go_wp2_with fail
  refine C6.out.mono ?_
  rintro e w7 ⟨rfl, hb8⟩
  have T9 := Lib.hid (T2.out.below hb8 T2.out.lt)
  have F10 := Lib.hid (F4.out.below hb8 (Nat.le_refl _))
  have F11 := Lib.hid (F5.out.below hb8 (Nat.le_refl _))
  have B12 := Lib.hid (B3.out.trans (hb8.mono B3.out.size))
  clear hb8
  have M13 := Lib.hid (T9.out.load)
  have C14 := Lib.hid (fewB_any b w7 F10.out)
  rw [PB.out] at C14
  go_wp2_with (first | ((with_reducible refine wpList_load_by (o := ⟨some 17, .load 24 (.tmp 2), _, _, _, _⟩) ?e1 24 (.tmp 2) ?e2 ⟨w.heap.size, 0, none⟩ ?e3 _ M13.out ?_); (case e1 => rfl); (case e2 => rfl); (case e3 => rfl)))
  refine C14.out.mono ?_
  rintro e w15 ⟨rfl, hb16⟩
  have T17 := Lib.hid (T9.out.below hb16 T9.out.lt)
  have F18 := Lib.hid (F10.out.below hb16 (Nat.le_refl _))
  have F19 := Lib.hid (F11.out.below hb16 (Nat.le_refl _))
  have B20 := Lib.hid (B12.out.trans (hb16.mono B12.out.size))
  clear hb16
  go_wp2
  go_ret
  exact ⟨rfl, B20.out⟩
set_option maxHeartbeats 16000000 in
theorem ctells_0 (b : Bk) (A : Option Addr) (len cap : Nat) (zs : List Int) (w : World) (hlaid : Laid w) (wb : BkAt w b) (wx : IsRow .u8 w A len cap zs) (iP : fewB b.rs = true) (iL : len ≤ 3000) (iM : bmay b.rs = false) :
    Calls Tryz.prog 5 #[.agg #[.slice b.A b.xs.length b.c], .slice A len cap] w fun e w' => e = .returned (.bool true) ∧ Below w.heap.size w w' := by
  have HLA := Lib.hid (fun (X : World) (hX : Below w.heap.size w X) => hlaid.below hX (Nat.le_refl _))
  have Fb := Lib.hid wb
  have hz : ∀ w : World, (zeroValue 24).run Tryz.prog w = .ok (.agg #[.slice none 0 0]) w := zeroBook
  obtain ⟨hy, hxl, hxb, hlc, hcm⟩ := wx.byt
  have Fx : Hid (BsAt w A len cap (zs.take len)) := Lib.hid ⟨hy, hxl, row_nil wx⟩
  have HNX := Lib.hid hxl
  have HKX := Lib.hid hlc
  have HCX := Lib.hid hcm
  have HXB := Lib.hid hxb
  simp only [maxLen] at hcm
  have PB := Lib.hid iP
  have ZB := Lib.hid (fewB_fs8 iP)
  have MB := Lib.hid iM
  have t1 : ¬ (3000 : Int) < (len : Int) := by omega
  obtain ⟨go, hgo⟩ : ∃ go, bget (zs.take len) = go := ⟨_, rfl⟩
  have GX := Lib.hid hgo
  have S1 : Hid (bsame (go.getD []) (go.getD []) = true) := Lib.hid (bsame_self _)
  have GS := Lib.hid (fun (d : Bk) (h : d.rs = go.getD []) => bget_small (hgo ▸ h : d.rs = (bget (zs.take len)).getD []))
  have HQ := fun w => eq_dig (SH.sum_bytes (bbs b.rs)) (SH.sum_bytes (bbs b.rs)) (SH.sum_len (bbs b.rs)) (SH.sum_len (bbs b.rs)) w
  simp only [beq_self_eq_true] at HQ
  have HQ := Lib.hid HQ
  have h4 : ((strOfNums []).toList == (strOfNums []).toList) = true := (str_beq _ _).2 rfl
  generalize zs.take len = X at *
  clear iP iM iL hlaid wb wx hy hxl hxb hgo
  have B1 := Lib.hid (Below.refl w.heap.size w)
  have T2n := BoAt.new w (.slice b.A b.xs.length b.c)
  have T2 := Lib.hid T2n
  clear T2n
  have B3 := Lib.hid (B1.out.alloc B1.out.size (.cells #[(.slice b.A b.xs.length b.c)] 24))
  have F4 := Lib.hid (Fb.out.below B3.out (Nat.le_refl _))
  have F5 := Lib.hid (Fx.out.below B3.out (Nat.le_refl _))
  go_enter Tryz.func5, Tryz.ntmps5
  have C6 := Lib.hid (caAwake (w.alloc (.cells #[(.slice b.A b.xs.length b.c)] 24)) (HLA.out _ B3.out))
  go_wp2_with fail
  refine C6.out.mono ?_
  rintro e w7 ⟨rfl, hb8⟩
  have T9 := Lib.hid (T2.out.below hb8 T2.out.lt)
  have F10 := Lib.hid (F4.out.below hb8 (Nat.le_refl _))
  have F11 := Lib.hid (F5.out.below hb8 (Nat.le_refl _))
  have B12 := Lib.hid (B3.out.trans (hb8.mono B3.out.size))
  clear hb8
  have M13 := Lib.hid (T9.out.load)
  have C14 := Lib.hid (fewB_any b w7 F10.out)
  rw [PB.out] at C14
  go_wp2_with (first | ((with_reducible refine wpList_load_by (o := ⟨some 17, .load 24 (.tmp 2), _, _, _, _⟩) ?e1 24 (.tmp 2) ?e2 ⟨w.heap.size, 0, none⟩ ?e3 _ M13.out ?_); (case e1 => rfl); (case e2 => rfl); (case e3 => rfl)))
  refine C14.out.mono ?_
  rintro e w15 ⟨rfl, hb16⟩
  have T17 := Lib.hid (T9.out.below hb16 T9.out.lt)
  have F18 := Lib.hid (F10.out.below hb16 (Nat.le_refl _))
  have F19 := Lib.hid (F11.out.below hb16 (Nat.le_refl _))
  have B20 := Lib.hid (B12.out.trans (hb16.mono B12.out.size))
  clear hb16
  have M21 := Lib.hid (T17.out.load)
  have c22 := put_book b w15 F18.out
  unfold PutPost at c22
  simp only [MB.out, Bool.false_eq_true, if_false] at c22
  have C23 := Lib.hid (c22)
  clear c22
  go_wp2_with (first | ((with_reducible refine wpList_load_by (o := ⟨some 32, .load 24 (.tmp 2), _, _, _, _⟩) ?e1 24 (.tmp 2) ?e2 ⟨w.heap.size, 0, none⟩ ?e3 _ M21.out ?_); (case e1 => rfl); (case e2 => rfl); (case e3 => rfl)))
  refine C23.out.mono ?_
  rintro e w24 ⟨rfl, hb25⟩
  have T26 := Lib.hid (T17.out.below hb25 T17.out.lt)
  have F27 := Lib.hid (F18.out.below hb25 (Nat.le_refl _))
  have F28 := Lib.hid (F19.out.below hb25 (Nat.le_refl _))
  have B29 := Lib.hid (B20.out.trans (hb25.mono B20.out.size))
  clear hb25
  have M30 := Lib.hid (T26.out.load)
  have c31 := rput_book b w24 F27.out ZB.out.2 ZB.out.1
  unfold PutPost at c31
  simp only [MB.out, Bool.false_eq_true, if_false] at c31
  have C32 := Lib.hid (c31)
  clear c31
  go_wp2_with (first | ((with_reducible refine wpList_load_by (o := ⟨some 37, .load 24 (.tmp 2), _, _, _, _⟩) ?e1 24 (.tmp 2) ?e2 ⟨w.heap.size, 0, none⟩ ?e3 _ M30.out ?_); (case e1 => rfl); (case e2 => rfl); (case e3 => rfl)))
  refine C32.out.mono ?_
  rintro e w33 ⟨rfl, hb34⟩
  have T35 := Lib.hid (T26.out.below hb34 T26.out.lt)
  have F36 := Lib.hid (F27.out.below hb34 (Nat.le_refl _))
  have F37 := Lib.hid (F28.out.below hb34 (Nat.le_refl _))
  have B38 := Lib.hid (B29.out.trans (hb34.mono B29.out.size))
  clear hb34
  have c42 := get_book A len cap X w33 F37.out.1 (Nat.le_refl _) HNX.out HXB.out HKX.out HCX.out
  unfold GetPost at c42
  rw [GX.out] at c42
  try dsimp only [Option.isSome_some, Option.isSome_none, Option.getD_some, Option.getD_none] at c42
  have C43 := Lib.hid (c42)
  clear c42
  go_wp2_with fail
  refine C43.out.mono ?_
  rintro e w44 ⟨d39, rfl, hd40, hk41, hb45⟩
  have T46 := Lib.hid (T35.out.below hb45 T35.out.lt)
  have F47 := Lib.hid (F36.out.below hb45 (Nat.le_refl _))
  have F48 := Lib.hid (F37.out.below hb45 (Nat.le_refl _))
  have B49 := Lib.hid (B38.out.trans (hb45.mono B38.out.size))
  clear hb45
  have E50 := Lib.hid (hd40)
  have F51 := Lib.hid (hk41)
  clear hd40 hk41
  have hb52 := (Below.refl w44.heap.size w44).alloc (Nat.le_refl _) (.cells #[(.slice d39.A d39.xs.length d39.c)] 24)
  have T53 := Lib.hid (BoAt.new w44 (.slice d39.A d39.xs.length d39.c))
  have T54 := Lib.hid (T46.out.below hb52 T46.out.lt)
  have F55 := Lib.hid (F47.out.below hb52 (Nat.le_refl _))
  have F56 := Lib.hid (F48.out.below hb52 (Nat.le_refl _))
  have F57 := Lib.hid (F51.out.below hb52 (Nat.le_refl _))
  have B58 := Lib.hid (B49.out.trans (hb52.mono B49.out.size))
  clear hb52
  have c62 := rget_book A len cap X (w44.alloc (.cells #[(.slice d39.A d39.xs.length d39.c)] 24)) (F56.out.1.wide (Nat.le_refl _)) HNX.out HXB.out HKX.out HCX.out
  unfold GetPost at c62
  rw [GX.out] at c62
  have C63 := Lib.hid (c62)
  clear c62
  go_wp2_with fail
  refine C63.out.mono ?_
  rintro e w64 ⟨d59, rfl, hd60, hk61, hb65⟩
  have T66 := Lib.hid (T54.out.below hb65 T54.out.lt)
  have T67 := Lib.hid (T53.out.below hb65 T53.out.lt)
  have F68 := Lib.hid (F55.out.below hb65 (Nat.le_refl _))
  have F69 := Lib.hid (F56.out.below hb65 (Nat.le_refl _))
  have F70 := Lib.hid (F57.out.below hb65 (Nat.le_refl _))
  have B71 := Lib.hid (B58.out.trans (hb65.mono B58.out.size))
  clear hb65
  have E72 := Lib.hid (hd60)
  have F73 := Lib.hid (hk61)
  clear hd60 hk61
  have hb74 := (Below.refl w64.heap.size w64).alloc (Nat.le_refl _) (.cells #[(.slice d59.A d59.xs.length d59.c)] 24)
  have T75 := Lib.hid (BoAt.new w64 (.slice d59.A d59.xs.length d59.c))
  have T76 := Lib.hid (T66.out.below hb74 T66.out.lt)
  have T77 := Lib.hid (T67.out.below hb74 T67.out.lt)
  have F78 := Lib.hid (F68.out.below hb74 (Nat.le_refl _))
  have F79 := Lib.hid (F69.out.below hb74 (Nat.le_refl _))
  have F80 := Lib.hid (F70.out.below hb74 (Nat.le_refl _))
  have F81 := Lib.hid (F73.out.below hb74 (Nat.le_refl _))
  have B82 := Lib.hid (B71.out.trans (hb74.mono B71.out.size))
  clear hb74
  have Z83 := Lib.hid (GS.out _ E50.out)
  have M84 := Lib.hid (T77.out.load)
  have M85 := Lib.hid (T75.out.load)
  have C86 := Lib.hid (rbsame_any d39 d59 (w64.alloc (.cells #[(.slice d59.A d59.xs.length d59.c)] 24)) F80.out F81.out Z83.out.2 Z83.out.1)
  try rw [E50.out] at C86
  try rw [E72.out] at C86
  rw [S1.out] at C86
  go_wp2_with (first | ((with_reducible refine wpList_load_by (o := ⟨some 51, .load 24 (.tmp 11), _, _, _, _⟩) ?e1 24 (.tmp 11) ?e2 ⟨w44.heap.size, 0, none⟩ ?e3 _ M84.out ?_); (case e1 => rfl); (case e2 => rfl); (case e3 => rfl)) | ((with_reducible refine wpList_load_by (o := ⟨some 52, .load 24 (.tmp 13), _, _, _, _⟩) ?e1 24 (.tmp 13) ?e2 ⟨w64.heap.size, 0, none⟩ ?e3 _ M85.out ?_); (case e1 => rfl); (case e2 => rfl); (case e3 => rfl)))
  refine C86.out.mono ?_
  rintro e w87 ⟨rfl, hb88⟩
  have T89 := Lib.hid (T76.out.below hb88 T76.out.lt)
  have T90 := Lib.hid (T77.out.below hb88 T77.out.lt)
  have T91 := Lib.hid (T75.out.below hb88 T75.out.lt)
  have F92 := Lib.hid (F78.out.below hb88 (Nat.le_refl _))
  have F93 := Lib.hid (F79.out.below hb88 (Nat.le_refl _))
  have F94 := Lib.hid (F80.out.below hb88 (Nat.le_refl _))
  have F95 := Lib.hid (F81.out.below hb88 (Nat.le_refl _))
  have B96 := Lib.hid (B82.out.trans (hb88.mono B82.out.size))
  clear hb88
  have U97 := Lib.hid (fun (w9 : World) (hS : Below w87.heap.size w87 w9) => digest_any b w9 (HLA.out _ (B96.out.trans (hS.mono B96.out.size))) (F92.out.below hS (Nat.le_refl _)))
  unfold DSumPost at U97
  have U98 := Lib.hid (fun (w9 : World) (hS : Below w87.heap.size w87 w9) => rdigest_any b w9 (F92.out.below hS (Nat.le_refl _)) ZB.out.2 ZB.out.1)
  unfold DSumPost at U98
  generalize bvals (SH.sum (bbs b.rs)) = DD at *
  go_wp2_with fail
  refine wp_region_G w87 (by kernel_rfl) ?_
  refine wpG_take (i := 0) (oi := ⟨some 54, _, _, _, _, _⟩) (v := ?_) rfl (by kernel_rfl) (by kernel_rfl) (by kernel_rfl) (Or.inl ⟨by rfl, unib_val ?_⟩) ?_; rotate_left; (focus (intro w9 hSw; go_simp; try with_reducible rfl)); simp only [Act.put, List.setIfInBounds_toArray, List.set_cons_zero, List.set_cons_succ]
  refine wpG_take (i := 1) (oi := ⟨some 55, _, _, _, _, _⟩) (v := (.string (strOfNums []))) rfl (by kernel_rfl) (by kernel_rfl) (by kernel_rfl) (Or.inl ⟨by rfl, unib_val ?_⟩) ?_; (focus (intro w9 hSw; have q0 := (Byt.nil (w := w9) (B := 0) (A := none)).text (P := Tryz.prog) (len := 0) (cap := 0) rfl 46 5 9 Tryz.underlying46 Tryz.underlying5 Tryz.underlying9; go_simp; try rfl)); simp only [Act.put, List.setIfInBounds_toArray, List.set_cons_zero, List.set_cons_succ]
  refine wpG_take (i := 2) (oi := ⟨some 56, _, _, _, _, _⟩) (v := ?_) rfl (by kernel_rfl) (by kernel_rfl) (by kernel_rfl) (Or.inl ⟨by rfl, unib_val ?_⟩) ?_; rotate_left; (focus (intro w9 hSw; go_simp; try with_reducible rfl)); simp only [Act.put, List.setIfInBounds_toArray, List.set_cons_zero, List.set_cons_succ]
  refine wpG_take (i := 3) (oi := ⟨some 57, _, _, _, _, _⟩) (v := (.string (strOfNums []))) rfl (by kernel_rfl) (by kernel_rfl) (by kernel_rfl) (Or.inl ⟨by rfl, unib_val ?_⟩) ?_; (focus (intro w9 hSw; have q0 := (Byt.nil (w := w9) (B := 0) (A := none)).text (P := Tryz.prog) (len := 0) (cap := 0) rfl 46 5 9 Tryz.underlying46 Tryz.underlying5 Tryz.underlying9; go_simp; try rfl)); simp only [Act.put, List.setIfInBounds_toArray, List.set_cons_zero, List.set_cons_succ]
  refine wpG_take (i := 4) (oi := ⟨some 58, _, _, _, _, _⟩) (v := ?_) rfl (by kernel_rfl) (by kernel_rfl) (by kernel_rfl) (Or.inl ⟨by rfl, unib_val ?_⟩) ?_; rotate_left; (focus (intro w9 hSw; go_simp; try with_reducible rfl)); simp only [Act.put, List.setIfInBounds_toArray, List.set_cons_zero, List.set_cons_succ]
  refine wpG_take (i := 5) (oi := ⟨some 59, _, _, _, _, _⟩) (v := ?_) rfl (by kernel_rfl) (by kernel_rfl) (by kernel_rfl) (Or.inl ⟨by rfl, unib_val ?_⟩) ?_; rotate_left; (focus (intro w9 hSw; go_simp; try with_reducible rfl)); simp only [Act.put, List.setIfInBounds_toArray, List.set_cons_zero, List.set_cons_succ]
  refine wpG_take (i := 6) (oi := ⟨some 60, _, _, _, _, _⟩) (v := ?_) rfl (by kernel_rfl) (by kernel_rfl) (by kernel_rfl) (Or.inl ⟨by rfl, unib_val ?_⟩) ?_; rotate_left; (focus (intro w9 hSw; go_simp; try with_reducible rfl)); simp only [Act.put, List.setIfInBounds_toArray, List.set_cons_zero, List.set_cons_succ]
  refine wpG_take (i := 7) (oi := ⟨some 61, _, _, _, _, _⟩) (v := ?_) rfl (by kernel_rfl) (by kernel_rfl) (by kernel_rfl) (Or.inl ⟨by rfl, unib_val ?_⟩) ?_; rotate_left; (focus (intro w9 hSw; go_simp; try with_reducible rfl)); simp only [Act.put, List.setIfInBounds_toArray, List.set_cons_zero, List.set_cons_succ]
  refine wpG_take (i := 8) (oi := ⟨some 62, _, _, _, _, _⟩) (v := ?_) rfl (by kernel_rfl) (by kernel_rfl) (by kernel_rfl) (Or.inl ⟨by rfl, unib_val ?_⟩) ?_; rotate_left; (focus (intro w9 hSw; go_simp; try with_reducible rfl)); simp only [Act.put, List.setIfInBounds_toArray, List.set_cons_zero, List.set_cons_succ]
  refine wpG_take (i := 9) (oi := ⟨some 63, _, _, _, _, _⟩) (v := ?_) rfl (by kernel_rfl) (by kernel_rfl) (by kernel_rfl) (Or.inl ⟨by rfl, unib_val ?_⟩) ?_; rotate_left; (focus (intro w9 hSw; go_simp; try with_reducible rfl)); simp only [Act.put, List.setIfInBounds_toArray, List.set_cons_zero, List.set_cons_succ]
  refine wpG_take (i := 10) (oi := ⟨some 64, _, _, _, _, _⟩) (v := ?_) rfl (by kernel_rfl) (by kernel_rfl) (by kernel_rfl) (Or.inl ⟨by rfl, unib_val ?_⟩) ?_; rotate_left; (focus (intro w9 hSw; go_simp; try with_reducible rfl)); simp only [Act.put, List.setIfInBounds_toArray, List.set_cons_zero, List.set_cons_succ]
  refine wpG_take (i := 11) (oi := ⟨some 65, _, _, _, _, _⟩) (v := ?_) rfl (by kernel_rfl) (by kernel_rfl) (by kernel_rfl) (Or.inl ⟨by rfl, unib_val ?_⟩) ?_; rotate_left; (focus (intro w9 hSw; go_simp; try with_reducible rfl)); simp only [Act.put, List.setIfInBounds_toArray, List.set_cons_zero, List.set_cons_succ]
  refine wpG_take (i := 12) (oi := ⟨some 66, _, _, _, _, _⟩) (v := ?_) rfl (by kernel_rfl) (by kernel_rfl) (by kernel_rfl) (Or.inl ⟨by rfl, unib_val ?_⟩) ?_; rotate_left; (focus (intro w9 hSw; go_simp; try with_reducible rfl)); simp only [Act.put, List.setIfInBounds_toArray, List.set_cons_zero, List.set_cons_succ]
  refine wpG_take (i := 13) (oi := ⟨some 67, _, _, _, _, _⟩) (v := ?_) rfl (by kernel_rfl) (by kernel_rfl) (by kernel_rfl) (Or.inl ⟨by rfl, unib_val ?_⟩) ?_; rotate_left; (focus (intro w9 hSw; go_simp; try with_reducible rfl)); simp only [Act.put, List.setIfInBounds_toArray, List.set_cons_zero, List.set_cons_succ]
  refine wpG_take (i := 14) (oi := ⟨some 68, _, _, _, _, _⟩) (v := ?_) rfl (by kernel_rfl) (by kernel_rfl) (by kernel_rfl) (Or.inl ⟨by rfl, unib_val ?_⟩) ?_; rotate_left; (focus (intro w9 hSw; go_simp; try with_reducible rfl)); simp only [Act.put, List.setIfInBounds_toArray, List.set_cons_zero, List.set_cons_succ]
  refine wpG_take (i := 15) (oi := ⟨some 69, _, _, _, _, _⟩) (v := ?_) rfl (by kernel_rfl) (by kernel_rfl) (by kernel_rfl) (Or.inl ⟨by rfl, unib_val ?_⟩) ?_; rotate_left; (focus (intro w9 hSw; go_simp; try with_reducible rfl)); simp only [Act.put, List.setIfInBounds_toArray, List.set_cons_zero, List.set_cons_succ]
  refine wpG_take (i := 16) (oi := ⟨some 70, _, _, _, _, _⟩) (v := ?_) rfl (by kernel_rfl) (by kernel_rfl) (by kernel_rfl) (Or.inl ⟨by rfl, unib_val ?_⟩) ?_; rotate_left; (focus (intro w9 hSw; go_simp; try with_reducible rfl)); simp only [Act.put, List.setIfInBounds_toArray, List.set_cons_zero, List.set_cons_succ]
  refine wpG_take (i := 17) (oi := ⟨some 71, _, _, _, _, _⟩) (v := ?_) rfl (by kernel_rfl) (by kernel_rfl) (by kernel_rfl) (Or.inl ⟨by rfl, unib_val ?_⟩) ?_; rotate_left; (focus (intro w9 hSw; go_simp; try with_reducible rfl)); simp only [Act.put, List.setIfInBounds_toArray, List.set_cons_zero, List.set_cons_succ]
  refine wpG_take (i := 18) (oi := ⟨some 72, _, _, _, _, _⟩) (v := ?_) rfl (by kernel_rfl) (by kernel_rfl) (by kernel_rfl) (Or.inl ⟨by rfl, unib_val ?_⟩) ?_; rotate_left; (focus (intro w9 hSw; go_simp; try with_reducible rfl)); simp only [Act.put, List.setIfInBounds_toArray, List.set_cons_zero, List.set_cons_succ]
  refine wpG_take (i := 19) (oi := ⟨some 73, _, _, _, _, _⟩) (v := (.agg #[(.slice b.A b.xs.length b.c)])) rfl (by kernel_rfl) (by kernel_rfl) (by kernel_rfl) (Or.inl ⟨by rfl, unib_val ?_⟩) ?_; (focus (intro w9 hSw; exact exec_load_by 24 _ rfl ⟨w.heap.size, 0, none⟩ rfl (T89.out.below hSw T89.out.lt).load)); simp only [Act.put, List.setIfInBounds_toArray, List.set_cons_zero, List.set_cons_succ]
  refine wpG_take (i := 20) (oi := ⟨some 74, _, _, _, _, _⟩) rfl (by kernel_rfl) (by kernel_rfl) (by kernel_rfl) (Or.inl ⟨by rfl, unib_call_if ?_ (fun w9 hS => U97.out w9 hS)⟩) ?_; (focus (intro w9 hSw; go_simp; try with_reducible rfl)); simp only [Act.put, List.setIfInBounds_toArray, List.set_cons_zero, List.set_cons_succ]
  refine wpG_take (i := 21) (oi := ⟨some 75, _, _, _, _, _⟩) (v := (.agg #[(.slice b.A b.xs.length b.c)])) rfl (by kernel_rfl) (by kernel_rfl) (by kernel_rfl) (Or.inl ⟨by rfl, unib_val ?_⟩) ?_; (focus (intro w9 hSw; exact exec_load_by 24 _ rfl ⟨w.heap.size, 0, none⟩ rfl (T89.out.below hSw T89.out.lt).load)); simp only [Act.put, List.setIfInBounds_toArray, List.set_cons_zero, List.set_cons_succ]
  refine wpG_take (i := 22) (oi := ⟨some 76, _, _, _, _, _⟩) rfl (by kernel_rfl) (by kernel_rfl) (by kernel_rfl) (Or.inl ⟨by rfl, unib_call_if ?_ (fun w9 hS => U98.out w9 hS)⟩) ?_; (focus (intro w9 hSw; go_simp; try with_reducible rfl)); simp only [Act.put, List.setIfInBounds_toArray, List.set_cons_zero, List.set_cons_succ]
  refine wpG_take (i := 23) (oi := ⟨some 77, _, _, _, _, _⟩) (v := ?_) rfl (by kernel_rfl) (by kernel_rfl) (by kernel_rfl) (Or.inl ⟨by rfl, unib_val ?_⟩) ?_; rotate_left; (focus (intro w9 hSw; have q0 := HQ.out w9; go_simp; try with_reducible rfl)); simp only [Act.put, List.setIfInBounds_toArray, List.set_cons_zero, List.set_cons_succ]
  refine wpG_take (i := 24) (oi := ⟨some 78, _, _, _, _, _⟩) (v := ?_) rfl (by kernel_rfl) (by kernel_rfl) (by kernel_rfl) (Or.inl ⟨by rfl, unib_val ?_⟩) ?_; rotate_left; (focus (intro w9 hSw; go_simp; try with_reducible rfl)); simp only [Act.put, List.setIfInBounds_toArray, List.set_cons_zero, List.set_cons_succ]
  refine wpG_take (i := 25) (oi := ⟨some 4, _, _, _, _, _⟩) (v := ?_) rfl (by kernel_rfl) (by kernel_rfl) (by kernel_rfl) (Or.inl ⟨by rfl, unib_val ?_⟩) ?_; rotate_left; (focus (intro w9 hSw; go_simp; try with_reducible rfl)); simp only [Act.put, List.setIfInBounds_toArray, List.set_cons_zero, List.set_cons_succ]
  refine wpG_done (by kernel_rfl) ?_ _
  intro w9 hSw _
  go_wp2
  go_ret
  exact ⟨rfl, B96.out.trans (hSw.mono B96.out.size)⟩
set_option maxHeartbeats 16000000 in
theorem ctells_1 (b : Bk) (A : Option Addr) (len cap : Nat) (zs : List Int) (w : World) (hlaid : Laid w) (wb : BkAt w b) (wx : IsRow .u8 w A len cap zs) (iP : fewB b.rs = true) (iL : len ≤ 3000) (iM : bmay b.rs = true) :
    Calls Tryz.prog 5 #[.agg #[.slice b.A b.xs.length b.c], .slice A len cap] w fun e w' => e = .returned (.bool true) ∧ Below w.heap.size w w' := by
  have HLA := Lib.hid (fun (X : World) (hX : Below w.heap.size w X) => hlaid.below hX (Nat.le_refl _))
  have Fb := Lib.hid wb
  have hz : ∀ w : World, (zeroValue 24).run Tryz.prog w = .ok (.agg #[.slice none 0 0]) w := zeroBook
  obtain ⟨hy, hxl, hxb, hlc, hcm⟩ := wx.byt
  have Fx : Hid (BsAt w A len cap (zs.take len)) := Lib.hid ⟨hy, hxl, row_nil wx⟩
  have HNX := Lib.hid hxl
  have HKX := Lib.hid hlc
  have HCX := Lib.hid hcm
  have HXB := Lib.hid hxb
  simp only [maxLen] at hcm
  have PB := Lib.hid iP
  have ZB := Lib.hid (fewB_fs8 iP)
  have MB := Lib.hid iM
  have t1 : ¬ (3000 : Int) < (len : Int) := by omega
  obtain ⟨go, hgo⟩ : ∃ go, bget (zs.take len) = go := ⟨_, rfl⟩
  have GX := Lib.hid hgo
  have S1 : Hid (bsame (go.getD []) (go.getD []) = true) := Lib.hid (bsame_self _)
  have GS := Lib.hid (fun (d : Bk) (h : d.rs = go.getD []) => bget_small (hgo ▸ h : d.rs = (bget (zs.take len)).getD []))
  have HQ := fun w => eq_dig (SH.sum_bytes (bbs b.rs)) (SH.sum_bytes (bbs b.rs)) (SH.sum_len (bbs b.rs)) (SH.sum_len (bbs b.rs)) w
  simp only [beq_self_eq_true] at HQ
  have HQ := Lib.hid HQ
  generalize hZ : benc b.rs = Z at *
  have EB := Lib.hid hZ
  have h4 : ((strOfNums Z).toList == (strOfNums Z).toList) = true := (str_beq _ _).2 rfl
  clear hZ
  generalize zs.take len = X at *
  clear iP iM iL hlaid wb wx hy hxl hxb hgo
  have B1 := Lib.hid (Below.refl w.heap.size w)
  have T2n := BoAt.new w (.slice b.A b.xs.length b.c)
  have T2 := Lib.hid T2n
  clear T2n
  have B3 := Lib.hid (B1.out.alloc B1.out.size (.cells #[(.slice b.A b.xs.length b.c)] 24))
  have F4 := Lib.hid (Fb.out.below B3.out (Nat.le_refl _))
  have F5 := Lib.hid (Fx.out.below B3.out (Nat.le_refl _))
  go_enter Tryz.func5, Tryz.ntmps5
  have C6 := Lib.hid (caAwake (w.alloc (.cells #[(.slice b.A b.xs.length b.c)] 24)) (HLA.out _ B3.out))
  go_wp2_with fail
  refine C6.out.mono ?_
  rintro e w7 ⟨rfl, hb8⟩
  have T9 := Lib.hid (T2.out.below hb8 T2.out.lt)
  have F10 := Lib.hid (F4.out.below hb8 (Nat.le_refl _))
  have F11 := Lib.hid (F5.out.below hb8 (Nat.le_refl _))
  have B12 := Lib.hid (B3.out.trans (hb8.mono B3.out.size))
  clear hb8
  have M13 := Lib.hid (T9.out.load)
  have C14 := Lib.hid (fewB_any b w7 F10.out)
  rw [PB.out] at C14
  go_wp2_with (first | ((with_reducible refine wpList_load_by (o := ⟨some 17, .load 24 (.tmp 2), _, _, _, _⟩) ?e1 24 (.tmp 2) ?e2 ⟨w.heap.size, 0, none⟩ ?e3 _ M13.out ?_); (case e1 => rfl); (case e2 => rfl); (case e3 => rfl)))
  refine C14.out.mono ?_
  rintro e w15 ⟨rfl, hb16⟩
  have T17 := Lib.hid (T9.out.below hb16 T9.out.lt)
  have F18 := Lib.hid (F10.out.below hb16 (Nat.le_refl _))
  have F19 := Lib.hid (F11.out.below hb16 (Nat.le_refl _))
  have B20 := Lib.hid (B12.out.trans (hb16.mono B12.out.size))
  clear hb16
  have M28 := Lib.hid (T17.out.load)
  have c29 := put_book b w15 F18.out
  unfold PutPost GivesT at c29
  simp only [MB.out, if_true] at c29
  rw [EB.out] at c29
  have C30 := Lib.hid (c29)
  clear c29
  go_wp2_with (first | ((with_reducible refine wpList_load_by (o := ⟨some 32, .load 24 (.tmp 2), _, _, _, _⟩) ?e1 24 (.tmp 2) ?e2 ⟨w.heap.size, 0, none⟩ ?e3 _ M28.out ?_); (case e1 => rfl); (case e2 => rfl); (case e3 => rfl)))
  refine C30.out.mono ?_
  rintro e w31 ⟨A21, n22, k23, rfl, h24, h25, h26, h27, hb32⟩
  have T33 := Lib.hid (T17.out.below hb32 T17.out.lt)
  have F34 := Lib.hid (F18.out.below hb32 (Nat.le_refl _))
  have F35 := Lib.hid (F19.out.below hb32 (Nat.le_refl _))
  have B36 := Lib.hid (B20.out.trans (hb32.mono B20.out.size))
  clear hb32
  have N37 := Lib.hid (h24)
  have N38 := Lib.hid (h25)
  have N39 := Lib.hid (h26)
  have Y40 := Lib.hid (BsAt.own h27)
  clear h24 h25 h26 h27
  have M48 := Lib.hid (T33.out.load)
  have c49 := rput_book b w31 F34.out ZB.out.2 ZB.out.1
  unfold PutPost GivesT at c49
  simp only [MB.out, if_true] at c49
  rw [EB.out] at c49
  have C50 := Lib.hid (c49)
  clear c49
  go_wp2_with (first | ((with_reducible refine wpList_load_by (o := ⟨some 37, .load 24 (.tmp 2), _, _, _, _⟩) ?e1 24 (.tmp 2) ?e2 ⟨w.heap.size, 0, none⟩ ?e3 _ M48.out ?_); (case e1 => rfl); (case e2 => rfl); (case e3 => rfl)))
  refine C50.out.mono ?_
  rintro e w51 ⟨A41, n42, k43, rfl, h44, h45, h46, h47, hb52⟩
  have T53 := Lib.hid (T33.out.below hb52 T33.out.lt)
  have F54 := Lib.hid (F34.out.below hb52 (Nat.le_refl _))
  have F55 := Lib.hid (F35.out.below hb52 (Nat.le_refl _))
  have F56 := Lib.hid (Y40.out.below hb52 (Nat.le_refl _))
  have B57 := Lib.hid (B36.out.trans (hb52.mono B36.out.size))
  clear hb52
  have N58 := Lib.hid (h44)
  have N59 := Lib.hid (h45)
  have N60 := Lib.hid (h46)
  have Y61 := Lib.hid (BsAt.own h47)
  clear h44 h45 h46 h47
  have c65 := get_book A len cap X w51 F55.out.1 (Nat.le_refl _) HNX.out HXB.out HKX.out HCX.out
  unfold GetPost at c65
  rw [GX.out] at c65
  try dsimp only [Option.isSome_some, Option.isSome_none, Option.getD_some, Option.getD_none] at c65
  have C66 := Lib.hid (c65)
  clear c65
  go_wp2_with fail
  refine C66.out.mono ?_
  rintro e w67 ⟨d62, rfl, hd63, hk64, hb68⟩
  have T69 := Lib.hid (T53.out.below hb68 T53.out.lt)
  have F70 := Lib.hid (F54.out.below hb68 (Nat.le_refl _))
  have F71 := Lib.hid (F55.out.below hb68 (Nat.le_refl _))
  have F72 := Lib.hid (F56.out.below hb68 (Nat.le_refl _))
  have F73 := Lib.hid (Y61.out.below hb68 (Nat.le_refl _))
  have B74 := Lib.hid (B57.out.trans (hb68.mono B57.out.size))
  clear hb68
  have E75 := Lib.hid (hd63)
  have F76 := Lib.hid (hk64)
  clear hd63 hk64
  have hb77 := (Below.refl w67.heap.size w67).alloc (Nat.le_refl _) (.cells #[(.slice d62.A d62.xs.length d62.c)] 24)
  have T78 := Lib.hid (BoAt.new w67 (.slice d62.A d62.xs.length d62.c))
  have T79 := Lib.hid (T69.out.below hb77 T69.out.lt)
  have F80 := Lib.hid (F70.out.below hb77 (Nat.le_refl _))
  have F81 := Lib.hid (F71.out.below hb77 (Nat.le_refl _))
  have F82 := Lib.hid (F72.out.below hb77 (Nat.le_refl _))
  have F83 := Lib.hid (F73.out.below hb77 (Nat.le_refl _))
  have F84 := Lib.hid (F76.out.below hb77 (Nat.le_refl _))
  have B85 := Lib.hid (B74.out.trans (hb77.mono B74.out.size))
  clear hb77
  have c89 := rget_book A len cap X (w67.alloc (.cells #[(.slice d62.A d62.xs.length d62.c)] 24)) (F81.out.1.wide (Nat.le_refl _)) HNX.out HXB.out HKX.out HCX.out
  unfold GetPost at c89
  rw [GX.out] at c89
  have C90 := Lib.hid (c89)
  clear c89
  go_wp2_with fail
  refine C90.out.mono ?_
  rintro e w91 ⟨d86, rfl, hd87, hk88, hb92⟩
  have T93 := Lib.hid (T79.out.below hb92 T79.out.lt)
  have T94 := Lib.hid (T78.out.below hb92 T78.out.lt)
  have F95 := Lib.hid (F80.out.below hb92 (Nat.le_refl _))
  have F96 := Lib.hid (F81.out.below hb92 (Nat.le_refl _))
  have F97 := Lib.hid (F82.out.below hb92 (Nat.le_refl _))
  have F98 := Lib.hid (F83.out.below hb92 (Nat.le_refl _))
  have F99 := Lib.hid (F84.out.below hb92 (Nat.le_refl _))
  have B100 := Lib.hid (B85.out.trans (hb92.mono B85.out.size))
  clear hb92
  have E101 := Lib.hid (hd87)
  have F102 := Lib.hid (hk88)
  clear hd87 hk88
  have hb103 := (Below.refl w91.heap.size w91).alloc (Nat.le_refl _) (.cells #[(.slice d86.A d86.xs.length d86.c)] 24)
  have T104 := Lib.hid (BoAt.new w91 (.slice d86.A d86.xs.length d86.c))
  have T105 := Lib.hid (T93.out.below hb103 T93.out.lt)
  have T106 := Lib.hid (T94.out.below hb103 T94.out.lt)
  have F107 := Lib.hid (F95.out.below hb103 (Nat.le_refl _))
  have F108 := Lib.hid (F96.out.below hb103 (Nat.le_refl _))
  have F109 := Lib.hid (F97.out.below hb103 (Nat.le_refl _))
  have F110 := Lib.hid (F98.out.below hb103 (Nat.le_refl _))
  have F111 := Lib.hid (F99.out.below hb103 (Nat.le_refl _))
  have F112 := Lib.hid (F102.out.below hb103 (Nat.le_refl _))
  have B113 := Lib.hid (B100.out.trans (hb103.mono B100.out.size))
  clear hb103
  have Z114 := Lib.hid (GS.out _ E75.out)
  have M115 := Lib.hid (T106.out.load)
  have M116 := Lib.hid (T104.out.load)
  have C117 := Lib.hid (rbsame_any d62 d86 (w91.alloc (.cells #[(.slice d86.A d86.xs.length d86.c)] 24)) F111.out F112.out Z114.out.2 Z114.out.1)
  try rw [E75.out] at C117
  try rw [E101.out] at C117
  rw [S1.out] at C117
  go_wp2_with (first | ((with_reducible refine wpList_load_by (o := ⟨some 51, .load 24 (.tmp 11), _, _, _, _⟩) ?e1 24 (.tmp 11) ?e2 ⟨w67.heap.size, 0, none⟩ ?e3 _ M115.out ?_); (case e1 => rfl); (case e2 => rfl); (case e3 => rfl)) | ((with_reducible refine wpList_load_by (o := ⟨some 52, .load 24 (.tmp 13), _, _, _, _⟩) ?e1 24 (.tmp 13) ?e2 ⟨w91.heap.size, 0, none⟩ ?e3 _ M116.out ?_); (case e1 => rfl); (case e2 => rfl); (case e3 => rfl)))
  refine C117.out.mono ?_
  rintro e w118 ⟨rfl, hb119⟩
  have T120 := Lib.hid (T105.out.below hb119 T105.out.lt)
  have T121 := Lib.hid (T106.out.below hb119 T106.out.lt)
  have T122 := Lib.hid (T104.out.below hb119 T104.out.lt)
  have F123 := Lib.hid (F107.out.below hb119 (Nat.le_refl _))
  have F124 := Lib.hid (F108.out.below hb119 (Nat.le_refl _))
  have F125 := Lib.hid (F109.out.below hb119 (Nat.le_refl _))
  have F126 := Lib.hid (F110.out.below hb119 (Nat.le_refl _))
  have F127 := Lib.hid (F111.out.below hb119 (Nat.le_refl _))
  have F128 := Lib.hid (F112.out.below hb119 (Nat.le_refl _))
  have B129 := Lib.hid (B113.out.trans (hb119.mono B113.out.size))
  clear hb119
  have U130 := Lib.hid (fun (w9 : World) (hS : Below w118.heap.size w118 w9) => digest_any b w9 (HLA.out _ (B129.out.trans (hS.mono B129.out.size))) (F123.out.below hS (Nat.le_refl _)))
  unfold DSumPost at U130
  have U131 := Lib.hid (fun (w9 : World) (hS : Below w118.heap.size w118 w9) => rdigest_any b w9 (F123.out.below hS (Nat.le_refl _)) ZB.out.2 ZB.out.1)
  unfold DSumPost at U131
  generalize bvals (SH.sum (bbs b.rs)) = DD at *
  go_wp2_with fail
  refine wp_region_G w118 (by kernel_rfl) ?_
  refine wpG_take (i := 0) (oi := ⟨some 54, _, _, _, _, _⟩) (v := ?_) rfl (by kernel_rfl) (by kernel_rfl) (by kernel_rfl) (Or.inl ⟨by rfl, unib_val ?_⟩) ?_; rotate_left; (focus (intro w9 hSw; go_simp; try with_reducible rfl)); simp only [Act.put, List.setIfInBounds_toArray, List.set_cons_zero, List.set_cons_succ]
  refine wpG_take (i := 1) (oi := ⟨some 55, _, _, _, _, _⟩) (v := (.string (strOfNums Z))) rfl (by kernel_rfl) (by kernel_rfl) (by kernel_rfl) (Or.inl ⟨by rfl, unib_val ?_⟩) ?_; (focus (intro w9 hSw; have q0 := (F125.out.below hSw (Nat.le_refl _)).1.text (P := Tryz.prog) (len := n22) (cap := k23) N37.out 46 5 9 Tryz.underlying46 Tryz.underlying5 Tryz.underlying9; go_simp; try rfl)); simp only [Act.put, List.setIfInBounds_toArray, List.set_cons_zero, List.set_cons_succ]
  refine wpG_take (i := 2) (oi := ⟨some 56, _, _, _, _, _⟩) (v := ?_) rfl (by kernel_rfl) (by kernel_rfl) (by kernel_rfl) (Or.inl ⟨by rfl, unib_val ?_⟩) ?_; rotate_left; (focus (intro w9 hSw; go_simp; try with_reducible rfl)); simp only [Act.put, List.setIfInBounds_toArray, List.set_cons_zero, List.set_cons_succ]
  refine wpG_take (i := 3) (oi := ⟨some 57, _, _, _, _, _⟩) (v := (.string (strOfNums Z))) rfl (by kernel_rfl) (by kernel_rfl) (by kernel_rfl) (Or.inl ⟨by rfl, unib_val ?_⟩) ?_; (focus (intro w9 hSw; have q0 := (F126.out.below hSw (Nat.le_refl _)).1.text (P := Tryz.prog) (len := n42) (cap := k43) N58.out 46 5 9 Tryz.underlying46 Tryz.underlying5 Tryz.underlying9; go_simp; try rfl)); simp only [Act.put, List.setIfInBounds_toArray, List.set_cons_zero, List.set_cons_succ]
  refine wpG_take (i := 4) (oi := ⟨some 58, _, _, _, _, _⟩) (v := ?_) rfl (by kernel_rfl) (by kernel_rfl) (by kernel_rfl) (Or.inl ⟨by rfl, unib_val ?_⟩) ?_; rotate_left; (focus (intro w9 hSw; go_simp; try with_reducible rfl)); simp only [Act.put, List.setIfInBounds_toArray, List.set_cons_zero, List.set_cons_succ]
  refine wpG_take (i := 5) (oi := ⟨some 59, _, _, _, _, _⟩) (v := ?_) rfl (by kernel_rfl) (by kernel_rfl) (by kernel_rfl) (Or.inl ⟨by rfl, unib_val ?_⟩) ?_; rotate_left; (focus (intro w9 hSw; go_simp; try with_reducible rfl)); simp only [Act.put, List.setIfInBounds_toArray, List.set_cons_zero, List.set_cons_succ]
  refine wpG_take (i := 6) (oi := ⟨some 60, _, _, _, _, _⟩) (v := ?_) rfl (by kernel_rfl) (by kernel_rfl) (by kernel_rfl) (Or.inl ⟨by rfl, unib_val ?_⟩) ?_; rotate_left; (focus (intro w9 hSw; go_simp; try with_reducible rfl)); simp only [Act.put, List.setIfInBounds_toArray, List.set_cons_zero, List.set_cons_succ]
  refine wpG_take (i := 7) (oi := ⟨some 61, _, _, _, _, _⟩) (v := ?_) rfl (by kernel_rfl) (by kernel_rfl) (by kernel_rfl) (Or.inl ⟨by rfl, unib_val ?_⟩) ?_; rotate_left; (focus (intro w9 hSw; go_simp; try with_reducible rfl)); simp only [Act.put, List.setIfInBounds_toArray, List.set_cons_zero, List.set_cons_succ]
  refine wpG_take (i := 8) (oi := ⟨some 62, _, _, _, _, _⟩) (v := ?_) rfl (by kernel_rfl) (by kernel_rfl) (by kernel_rfl) (Or.inl ⟨by rfl, unib_val ?_⟩) ?_; rotate_left; (focus (intro w9 hSw; go_simp; try with_reducible rfl)); simp only [Act.put, List.setIfInBounds_toArray, List.set_cons_zero, List.set_cons_succ]
  refine wpG_take (i := 9) (oi := ⟨some 63, _, _, _, _, _⟩) (v := ?_) rfl (by kernel_rfl) (by kernel_rfl) (by kernel_rfl) (Or.inl ⟨by rfl, unib_val ?_⟩) ?_; rotate_left; (focus (intro w9 hSw; go_simp; try with_reducible rfl)); simp only [Act.put, List.setIfInBounds_toArray, List.set_cons_zero, List.set_cons_succ]
  refine wpG_take (i := 10) (oi := ⟨some 64, _, _, _, _, _⟩) (v := ?_) rfl (by kernel_rfl) (by kernel_rfl) (by kernel_rfl) (Or.inl ⟨by rfl, unib_val ?_⟩) ?_; rotate_left; (focus (intro w9 hSw; go_simp; try with_reducible rfl)); simp only [Act.put, List.setIfInBounds_toArray, List.set_cons_zero, List.set_cons_succ]
  refine wpG_take (i := 11) (oi := ⟨some 65, _, _, _, _, _⟩) (v := ?_) rfl (by kernel_rfl) (by kernel_rfl) (by kernel_rfl) (Or.inl ⟨by rfl, unib_val ?_⟩) ?_; rotate_left; (focus (intro w9 hSw; go_simp; try with_reducible rfl)); simp only [Act.put, List.setIfInBounds_toArray, List.set_cons_zero, List.set_cons_succ]
  refine wpG_take (i := 12) (oi := ⟨some 66, _, _, _, _, _⟩) (v := ?_) rfl (by kernel_rfl) (by kernel_rfl) (by kernel_rfl) (Or.inl ⟨by rfl, unib_val ?_⟩) ?_; rotate_left; (focus (intro w9 hSw; go_simp; try with_reducible rfl)); simp only [Act.put, List.setIfInBounds_toArray, List.set_cons_zero, List.set_cons_succ]
  refine wpG_take (i := 13) (oi := ⟨some 67, _, _, _, _, _⟩) (v := ?_) rfl (by kernel_rfl) (by kernel_rfl) (by kernel_rfl) (Or.inl ⟨by rfl, unib_val ?_⟩) ?_; rotate_left; (focus (intro w9 hSw; go_simp; try with_reducible rfl)); simp only [Act.put, List.setIfInBounds_toArray, List.set_cons_zero, List.set_cons_succ]
  refine wpG_take (i := 14) (oi := ⟨some 68, _, _, _, _, _⟩) (v := ?_) rfl (by kernel_rfl) (by kernel_rfl) (by kernel_rfl) (Or.inl ⟨by rfl, unib_val ?_⟩) ?_; rotate_left; (focus (intro w9 hSw; go_simp; try with_reducible rfl)); simp only [Act.put, List.setIfInBounds_toArray, List.set_cons_zero, List.set_cons_succ]
  refine wpG_take (i := 15) (oi := ⟨some 69, _, _, _, _, _⟩) (v := ?_) rfl (by kernel_rfl) (by kernel_rfl) (by kernel_rfl) (Or.inl ⟨by rfl, unib_val ?_⟩) ?_; rotate_left; (focus (intro w9 hSw; go_simp; try with_reducible rfl)); simp only [Act.put, List.setIfInBounds_toArray, List.set_cons_zero, List.set_cons_succ]
  refine wpG_take (i := 16) (oi := ⟨some 70, _, _, _, _, _⟩) (v := ?_) rfl (by kernel_rfl) (by kernel_rfl) (by kernel_rfl) (Or.inl ⟨by rfl, unib_val ?_⟩) ?_; rotate_left; (focus (intro w9 hSw; go_simp; try with_reducible rfl)); simp only [Act.put, List.setIfInBounds_toArray, List.set_cons_zero, List.set_cons_succ]
  refine wpG_take (i := 17) (oi := ⟨some 71, _, _, _, _, _⟩) (v := ?_) rfl (by kernel_rfl) (by kernel_rfl) (by kernel_rfl) (Or.inl ⟨by rfl, unib_val ?_⟩) ?_; rotate_left; (focus (intro w9 hSw; go_simp; try with_reducible rfl)); simp only [Act.put, List.setIfInBounds_toArray, List.set_cons_zero, List.set_cons_succ]
  refine wpG_take (i := 18) (oi := ⟨some 72, _, _, _, _, _⟩) (v := ?_) rfl (by kernel_rfl) (by kernel_rfl) (by kernel_rfl) (Or.inl ⟨by rfl, unib_val ?_⟩) ?_; rotate_left; (focus (intro w9 hSw; go_simp; try with_reducible rfl)); simp only [Act.put, List.setIfInBounds_toArray, List.set_cons_zero, List.set_cons_succ]
  refine wpG_take (i := 19) (oi := ⟨some 73, _, _, _, _, _⟩) (v := (.agg #[(.slice b.A b.xs.length b.c)])) rfl (by kernel_rfl) (by kernel_rfl) (by kernel_rfl) (Or.inl ⟨by rfl, unib_val ?_⟩) ?_; (focus (intro w9 hSw; exact exec_load_by 24 _ rfl ⟨w.heap.size, 0, none⟩ rfl (T120.out.below hSw T120.out.lt).load)); simp only [Act.put, List.setIfInBounds_toArray, List.set_cons_zero, List.set_cons_succ]
  refine wpG_take (i := 20) (oi := ⟨some 74, _, _, _, _, _⟩) rfl (by kernel_rfl) (by kernel_rfl) (by kernel_rfl) (Or.inl ⟨by rfl, unib_call_if ?_ (fun w9 hS => U130.out w9 hS)⟩) ?_; (focus (intro w9 hSw; go_simp; try with_reducible rfl)); simp only [Act.put, List.setIfInBounds_toArray, List.set_cons_zero, List.set_cons_succ]
  refine wpG_take (i := 21) (oi := ⟨some 75, _, _, _, _, _⟩) (v := (.agg #[(.slice b.A b.xs.length b.c)])) rfl (by kernel_rfl) (by kernel_rfl) (by kernel_rfl) (Or.inl ⟨by rfl, unib_val ?_⟩) ?_; (focus (intro w9 hSw; exact exec_load_by 24 _ rfl ⟨w.heap.size, 0, none⟩ rfl (T120.out.below hSw T120.out.lt).load)); simp only [Act.put, List.setIfInBounds_toArray, List.set_cons_zero, List.set_cons_succ]
  refine wpG_take (i := 22) (oi := ⟨some 76, _, _, _, _, _⟩) rfl (by kernel_rfl) (by kernel_rfl) (by kernel_rfl) (Or.inl ⟨by rfl, unib_call_if ?_ (fun w9 hS => U131.out w9 hS)⟩) ?_; (focus (intro w9 hSw; go_simp; try with_reducible rfl)); simp only [Act.put, List.setIfInBounds_toArray, List.set_cons_zero, List.set_cons_succ]
  refine wpG_take (i := 23) (oi := ⟨some 77, _, _, _, _, _⟩) (v := ?_) rfl (by kernel_rfl) (by kernel_rfl) (by kernel_rfl) (Or.inl ⟨by rfl, unib_val ?_⟩) ?_; rotate_left; (focus (intro w9 hSw; have q0 := HQ.out w9; go_simp; try with_reducible rfl)); simp only [Act.put, List.setIfInBounds_toArray, List.set_cons_zero, List.set_cons_succ]
  refine wpG_take (i := 24) (oi := ⟨some 78, _, _, _, _, _⟩) (v := ?_) rfl (by kernel_rfl) (by kernel_rfl) (by kernel_rfl) (Or.inl ⟨by rfl, unib_val ?_⟩) ?_; rotate_left; (focus (intro w9 hSw; go_simp; try with_reducible rfl)); simp only [Act.put, List.setIfInBounds_toArray, List.set_cons_zero, List.set_cons_succ]
  refine wpG_take (i := 25) (oi := ⟨some 4, _, _, _, _, _⟩) (v := ?_) rfl (by kernel_rfl) (by kernel_rfl) (by kernel_rfl) (Or.inl ⟨by rfl, unib_val ?_⟩) ?_; rotate_left; (focus (intro w9 hSw; go_simp; try with_reducible rfl)); simp only [Act.put, List.setIfInBounds_toArray, List.set_cons_zero, List.set_cons_succ]
  refine wpG_done (by kernel_rfl) ?_ _
  intro w9 hSw _
  go_wp2
  go_ret
  exact ⟨rfl, B129.out.trans (hSw.mono B129.out.size)⟩
theorem walk_canonTells (b : Bk) (A : Option Addr) (len cap : Nat) (zs : List Int) (w : World) (hlaid : Laid w) (wb : BkAt w b) (wx : IsRow .u8 w A len cap zs) :
    Calls Tryz.prog 5 #[.agg #[.slice b.A b.xs.length b.c], .slice A len cap] w fun e w' => e = .returned (.bool true) ∧ Below w.heap.size w w' := by
  cases p : fewB b.rs
  · exact ctells_few b A len cap zs w hlaid wb wx p
  · by_cases hl : len ≤ 3000
    · cases m : bmay b.rs
      · exact ctells_0 b A len cap zs w hlaid wb wx p hl m
      · exact ctells_1 b A len cap zs w hlaid wb wx p hl m
    · exact ctells_long b A len cap zs w hlaid wb wx p hl
end Go.Proofs.YtcmknbdeafcknaaGreatDoor

