/-
  The laws' own 'awake' answers true, whatever the world, and writes nothing that was there.
-/
import Derived.Test.YteipdmckphebmaaWire
namespace Go.Proofs.Yteipdmckphebmaa
open Go.RowKit WM
set_option linter.unusedVariables false
theorem enc_300 : enc 300 = [130, 44] := by decide +kernel
theorem txt_ab : txt ⟨#[97, 98]⟩ = [2, 97, 98] := by decide +kernel
theorem rd_ab : rd [2, 97, 98] 2 = some ([97, 98], 3) := by decide +kernel
theorem dec_300 : dec [130, 44] = some (300, 2) := by decide +kernel
theorem str_ab : strOfNums [97, 98] = ⟨#[97, 98]⟩ := by decide +kernel
set_option maxHeartbeats 1000000 in
theorem awake_any (w : World) : Calls Try.prog 12 #[] w fun e w' => e = .returned (.bool true) ∧ Below w.heap.size w w' := by
  have hp := put_gives 300
  have ht := text_gives ⟨#[97, 98]⟩
  rw [enc_300] at hp
  rw [txt_ab] at ht
  have HP := Lib.hid hp
  have HT := Lib.hid ht
  clear hp ht
  go_enter Try.func12, Try.ntmps12
  go_wp2_with fail
  refine (HP.out _ (by omega) (by omega)).mono ?_
  rintro e w1 ⟨A, n, c, rfl, hn, hnc, hcm, hown, hbel⟩
  obtain rfl : 2 = n := hn
  have hby := Byt.own (zs := [130, 44]) hown
  have hg := get_any A 2 c [130, 44] w1 hby rfl (by intro z hz; simp at hz; omega) (by decide)
  rw [dec_300] at hg
  simp only [getV] at hg
  have HG := Lib.hid hg
  clear hg
  go_wp2_with fail
  refine HG.out.mono ?_
  rintro e w2 ⟨rfl, rfl⟩
  go_wp2_with fail
  refine (HT.out _ (by decide)).mono ?_
  rintro e w3 ⟨A3, n3, c3, rfl, hn3, hnc3, hcm3, hown3, hbel3⟩
  obtain rfl : 3 = n3 := hn3
  have hr := read_any A3 3 c3 [2, 97, 98] 2 w3 (Byt.own hown3) rfl (by intro z hz; simp at hz; omega) hnc3 hcm3
  rw [rd_ab] at hr
  simp only [readV, str_ab] at hr
  have HR := Lib.hid hr
  clear hr
  go_wp2_with fail
  refine HR.out.mono ?_
  rintro e w4 ⟨rfl, rfl⟩
  obtain ⟨b, off, rfl, hb, hc⟩ := (hby.below (B := w1.heap.size) hbel3) (by simp)
  have c0 : w3.cell? ⟨b, off, none⟩ = some (.int .u8 130) := hc 0 (by simp)
  have c1 : w3.cell? ⟨b, off + 1, none⟩ = some (.int .u8 44) := hc 1 (by simp)
  clear hc hown hown3
  go_wp2
  go_ret
  exact ⟨rfl, hbel.trans (hbel3.mono hbel.size)⟩
end Go.Proofs.Yteipdmckphebmaa
