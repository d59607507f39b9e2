import Derived.Test.YtcmknbdeafcknaaGreatDoorGCaP
import Derived.Test.YtcmknbdeafcknaaGreatDoorBkAwake
import Derived.Test.YtcmknbdeafcknaaGreatDoorBkSame
/-
  The laws' own 'awake' of layer 8 answers true, whatever the world (with the tables as they are laid), and writes nothing that was there.
-/
namespace Go.Proofs.YtcmknbdeafcknaaGreatDoor
open Go.RowKit WM
set_option linter.unusedVariables false
set_option maxRecDepth 100000
theorem benc_nil : benc [] = [0] := rfl
theorem may_X : bmay [recX] = true := rfl
theorem len_X : (benc [recX]).length = 23 := by decide
theorem ok_X : ∀ R ∈ [recX], R.Ok := fun R h => by rw [List.mem_singleton.1 h]; exact ⟨z7_len, z7_bytes⟩
set_option maxHeartbeats 8000000 in
theorem caAwake (w : World) (hlaid : Laid w) : Calls Tryz.prog 30 #[] w fun e w' => e = .returned (.bool true) ∧ Below w.heap.size w w' := by
  have HLA := Lib.hid (fun (X : World) (hX : Below w.heap.size w X) => hlaid.below hX (Nat.le_refl _))
  have hz : ∀ w : World, (zeroValue 24).run Tryz.prog w = .ok (.agg #[.slice none 0 0]) w := zeroBook
  have hb0 := build_book0
  have hb7 := build_z7
  have HP0 := put_book bk0 w (BkAt.zero w)
  unfold PutPost GivesT at HP0
  rw [show bk0.rs = [] from rfl, benc_nil] at HP0
  simp only [show bmay [] = true from rfl, if_true] at HP0
  have HP := Lib.hid (show Calls Tryz.prog 31 #[.agg #[.slice none 0 0]] w _ from HP0)
  have HBY := Lib.hid (benc_bytes may_X ok_X)
  have HLX := Lib.hid len_X
  have HGX := Lib.hid (bget_put may_X fun R hR => (ok_X R hR).1)
  have HMX := Lib.hid may_X
  have HWX := Lib.hid write_X
  have HBB := Lib.hid (show bbs [recX] = benc [recX] by unfold bbs; rw [may_X]; rfl)
  have HSX := Lib.hid (bsame_self [recX])
  generalize hZ : benc [recX] = Z at *
  clear hlaid HP0 hZ
  go_enter Tryz.func30, Tryz.ntmps30
  go_wp2_with fail
  refine HP.out.mono ?_
  rintro e w1 ⟨A1, n1, k1, rfl, hn1, hnk1, hkm1, hown1, hb1⟩
  obtain rfl : n1 = 1 := by simpa using hn1.symm
  have B1 := Lib.hid hb1
  have Y1 := Lib.hid (Byt.own hown1)
  have HW := bwrite_any bk0 z7 2 1 ⟨#[120]⟩ w1 (HLA.out _ hb1) (BkAt.zero w1) z7_len z7_bytes
  unfold BJoinPost at HW
  rw [show bk0.rs = [] from rfl, HWX.out] at HW
  have HW2 := Lib.hid (show Calls Tryz.prog 26 #[.agg #[.slice none 0 0], .agg (bvals z7), .int .i64 2, .int .i64 1, .string ⟨#[120]⟩] w1 _ from HW)
  clear HW hn1 hnk1 hkm1 hown1 hb1
  go_wp2_with fail
  refine HW2.out.mono ?_
  rintro e w2 ⟨d, rfl, hd, hk, hb⟩
  have BA := (Below.refl w2.heap.size w2).alloc (Nat.le_refl _) (.cells #[.slice d.A d.xs.length d.c] 24)
  have hb' := hb.trans (BA.mono hb.size)
  have B3 := Lib.hid (B1.out.trans (hb'.mono B1.out.size))
  have Y3 := Lib.hid ((Y1.out.below hb').wide hb'.size)
  have S3 := Lib.hid (BoAt.new w2 (.slice d.A d.xs.length d.c))
  have HD := Lib.hid hd
  have K3 := Lib.hid (hk.below BA (Nat.le_refl _))
  have L3 := Lib.hid S3.out.load
  have HP1 := put_book d _ K3.out
  unfold PutPost GivesT at HP1
  rw [HD.out] at HP1
  simp only [HMX.out, if_true] at HP1
  rw [show benc [recX] = Z from by assumption] at HP1
  have HP1 := Lib.hid HP1
  clear hd hk hb BA hb'
  go_wp2_with (first | ((with_reducible refine wpList_load_by (o := ⟨some 21, .load 24 (.tmp 3), _, _, _, _⟩) ?e1 24 (.tmp 3) ?e2 ⟨w2.heap.size, 0, none⟩ ?e3 _ L3.out ?_); (case e1 => rfl); (case e2 => rfl); (case e3 => rfl)))
  refine HP1.out.mono ?_
  rintro e w4 ⟨A4, n4, k4, rfl, hn4, hnk4, hkm4, hown4, hb4⟩
  obtain rfl : n4 = 23 := by rw [← hn4]; exact HLX.out
  have B4 := Lib.hid (B3.out.trans (hb4.mono B3.out.size))
  have Y4 := Lib.hid ((Y3.out.below hb4).wide hb4.size)
  have S4 := Lib.hid (S3.out.below hb4 S3.out.lt)
  have K4 := Lib.hid (K3.out.below hb4 (Nat.le_refl _))
  have C4 := Lib.hid (BsAt.own hown4)
  have HG0 := get_book A4 23 k4 Z w4 C4.out.1 (Nat.le_refl _) HLX.out HBY.out hnk4 hkm4
  unfold GetPost at HG0
  rw [HGX.out] at HG0
  dsimp only [Option.isSome_some, Option.getD_some] at HG0
  have HG := Lib.hid HG0
  have HNK := Lib.hid hnk4
  have HKM := Lib.hid hkm4
  clear hn4 hnk4 hkm4 hown4 hb4 HG0
  go_wp2_with fail
  refine HG.out.mono ?_
  rintro e w5 ⟨d2, rfl, hd2, hk2, hb5⟩
  have BA := (Below.refl w5.heap.size w5).alloc (Nat.le_refl _) (.cells #[.slice d2.A d2.xs.length d2.c] 24)
  have hb' := hb5.trans (BA.mono hb5.size)
  have B6 := Lib.hid (B4.out.trans (hb'.mono B4.out.size))
  have Y6 := Lib.hid ((Y4.out.below hb').wide hb'.size)
  have S6 := Lib.hid (S4.out.below hb' S4.out.lt)
  have T6 := Lib.hid (BoAt.new w5 (.slice d2.A d2.xs.length d2.c))
  have K6 := Lib.hid (K4.out.below hb' (Nat.le_refl _))
  have Q6 := Lib.hid (hk2.below BA (Nat.le_refl _))
  have C6 := Lib.hid (C4.out.below hb' (Nat.le_refl _))
  have HD2 := Lib.hid hd2
  have L46 := Lib.hid S6.out.load
  have L47 := Lib.hid T6.out.load
  have HSM := bsame_any d d2 _ K6.out Q6.out
  rw [HD.out, HD2.out, HSX.out] at HSM
  have HSM := Lib.hid HSM
  obtain ⟨y0, yo, rfl, hyb, hyc⟩ := Y6.out (by simp)
  have c0 := hyc 0 (by simp)
  have hix := ix_at y0 yo 1 k1 0 (by omega) 0 rfl
  simp only [Nat.add_zero, List.getD_cons_zero] at c0 hix
  clear hd2 hk2 hb5 BA hb' hyc
  go_wp2_with (first | ((with_reducible refine wpList_load_by (o := ⟨some 46, .load 24 (.tmp 3), _, _, _, _⟩) ?e1 24 (.tmp 3) ?e2 ⟨w2.heap.size, 0, none⟩ ?e3 _ L46.out ?_); (case e1 => rfl); (case e2 => rfl); (case e3 => rfl)) | ((with_reducible refine wpList_load_by (o := ⟨some 47, .load 24 (.tmp 7), _, _, _, _⟩) ?e1 24 (.tmp 7) ?e2 ⟨w5.heap.size, 0, none⟩ ?e3 _ L47.out ?_); (case e1 => rfl); (case e2 => rfl); (case e3 => rfl)))
  refine HSM.out.mono ?_
  rintro e w7 ⟨rfl, hb⟩
  have B7 := Lib.hid (B6.out.trans (hb.mono B6.out.size))
  have S7 := Lib.hid (S6.out.below hb S6.out.lt)
  have K7 := Lib.hid (K6.out.below hb (Nat.le_refl _))
  have C7 := Lib.hid (C6.out.below hb (Nat.le_refl _))
  have L56 := Lib.hid S7.out.load
  have HDG := digest_any d w7 (HLA.out _ B7.out) K7.out
  unfold DSumPost at HDG
  rw [HD.out, HBB.out] at HDG
  have HDG := Lib.hid HDG
  clear hb c0
  go_wp2_with (first | ((with_reducible refine wpList_load_by (o := ⟨some 56, .load 24 (.tmp 3), _, _, _, _⟩) ?e1 24 (.tmp 3) ?e2 ⟨w2.heap.size, 0, none⟩ ?e3 _ L56.out ?_); (case e1 => rfl); (case e2 => rfl); (case e3 => rfl)))
  refine HDG.out.mono ?_
  rintro e w8 ⟨rfl, hb⟩
  have B8 := Lib.hid (B7.out.trans (hb.mono B7.out.size))
  have C8 := C7.out.below hb (Nat.le_refl _)
  have HSU := dsum_any A4 23 k4 Z w8 (HLA.out _ B8.out) C8.1 HLX.out HNK.out HKM.out (by omega) C8.2.2 HBY.out (Nat.le_refl _)
  unfold DSumPost at HSU
  have HSU := Lib.hid HSU
  clear hb C8
  go_wp2_with fail
  refine HSU.out.mono ?_
  rintro e w9 ⟨rfl, hb⟩
  have B9 := Lib.hid (B8.out.trans (hb.mono B8.out.size))
  have HQ := fun w => eq_dig (SH.sum_bytes Z) (SH.sum_bytes Z) (SH.sum_len Z) (SH.sum_len Z) w
  simp only [beq_self_eq_true] at HQ
  generalize bvals (SH.sum Z) = DD at *
  clear hb
  go_wp2
  go_ret
  exact ⟨rfl, B9.out⟩
end Go.Proofs.YtcmknbdeafcknaaGreatDoor

