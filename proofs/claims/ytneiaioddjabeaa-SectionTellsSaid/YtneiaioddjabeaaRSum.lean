/-
  What the document's own Sum answers: for every slice that reads as bytes; nothing is written.
-/
import Derived.Test.YtneiaioddjabeaaSecSum
namespace Go.Proofs.Ytneiaioddjabeaa
open Go.RowKit WM
set_option linter.unusedVariables false
theorem rsum_odd {m : Nat} (h : m < 4294967296) (ho : m % 2 = 1) : bits .xor .u32 ((m : Int) / 2) 3988292384 = (SM.step m : Nat) := by
  rw [u32_xor _ _ (by omega) (by omega) (by omega) (by omega), SM.step, if_pos ho]
  congr
theorem rsum_even {m : Nat} (ho : ¬ m % 2 = 1) : (m : Int) / 2 = (SM.step m : Nat) := by
  rw [SM.step, if_neg ho]
  omega
theorem rsum_xor {m : Nat} {x : Int} (h : m < 4294967296) (hx : 0 ≤ x ∧ x ≤ 255) : bits .xor .u32 (m : Int) x = ((m ^^^ x.toNat : Nat) : Int) := by
  rw [u32_xor _ _ (by omega) (by omega) (by omega) (by omega)]
  congr
set_option maxHeartbeats 1000000 in
theorem rsum_any {B : Nat} (A : Option Addr) (len cap : Nat) (zs : List Int) (w : World) (h : Byt w B A zs) (hl : zs.length = len) (hb : AllBytes zs) (hm : len ≤ maxLen) :
    Calls Try.prog 16 #[.slice A len cap] w fun e w' => e = .returned (.int .u32 (SM.sum zs)) ∧ w = w' := by
  unfold maxLen at hm
  have HL := Lib.hid hl
  have HH := Lib.hid h
  have HB := Lib.hid hb
  clear hl h hb
  go_enter Try.func16, Try.ntmps16
  go_wp2
  go_loop [3, 4] (fun x i => ∃ k : Nat, k ≤ len ∧ i = .int .i64 k ∧ x = .int .u32 (SM.crc 4294967295 (zs.take k) : Nat)) (fun _ i => len - (intOf i).toNat)
  case atStart => exact ⟨0, by omega, rfl, rfl⟩
  case round =>
    obtain ⟨k, hk, rfl, rfl⟩ := hrel
    have hcl := SM.crc_lt (w := 4294967295) (by omega) (all_take HB.out k)
    by_cases hlt : k < len
    · have hlt' : k < zs.length := by rw [HL.out]; exact hlt
      obtain ⟨b, off, rfl, _, hcell⟩ := HH.out (fun e => by rw [e] at hlt'; simp at hlt')
      have hc := hcell k hlt'
      have hx := all_get HB.out k
      have hn := Lib.hid (crc_next hlt')
      generalize zs.getD k 0 = x at hc hx hn
      generalize SM.crc 4294967295 (zs.take k) = m at hcl hn ⊢
      have hv := rsum_xor hcl hx
      have hw := IntWalk.u32_in x (by omega)
      have hml : m ^^^ x.toNat < 4294967296 := Nat.xor_lt_two_pow (n := 32) (by omega) (by omega)
      have HE := Lib.hid (show SM.take1 m x = SM.steps 8 (m ^^^ x.toNat) from rfl)
      generalize m ^^^ x.toNat = Y at hv hml HE
      clear hcell hlt'
      go_wp2
      go_loop [3, 5] (fun x j => ∃ i : Nat, i ≤ 8 ∧ j = .int .i64 i ∧ x = .int .u32 (SM.steps i Y : Nat)) (fun _ j => 8 - (intOf j).toNat)
      case atStart => exact ⟨0, by omega, rfl, rfl⟩
      case round =>
        obtain ⟨i, hi, rfl, rfl⟩ := hrel
        have hsl := SM.steps_lt i hml
        by_cases h8 : i < 8
        · have HNX := Lib.hid (show SM.steps (i + 1) Y = SM.step (SM.steps i Y) from rfl)
          generalize SM.steps i Y = s at hsl HNX ⊢
          by_cases ho : s % 2 = 1
          · have h1 : ((s : Int) % 2 == 1) = true := by simp; omega
            have HV := Lib.hid (rsum_odd hsl ho)
            clear ho
            go_wp2
            go_round
            case rel => exact ⟨i + 1, by omega, by go_num, by rw [HNX.out, HV.out]⟩
            case measure => simp [intOf]; omega
          · have h1 : ((s : Int) % 2 == 1) = false := by simp; omega
            have HV := Lib.hid (rsum_even ho)
            clear ho
            go_wp2
            go_round
            case rel => exact ⟨i + 1, by omega, by go_num, by rw [HNX.out, HV.out]⟩
            case measure => simp [intOf]; omega
        · obtain rfl : i = 8 := by omega
          go_wp2
          go_round
          case rel => exact ⟨k + 1, by omega, by go_num, by rw [hn.out, HE.out]⟩
          case measure => simp [intOf]; omega
    · obtain rfl : k = len := by omega
      have hfin := Lib.hid (show zs.take k = zs from List.take_of_length_le (by rw [HL.out]; omega))
      have hs : IntKind.u32.wrap (4294967295 - (SM.crc 4294967295 (zs.take k) : Nat)) = 4294967295 - (SM.crc 4294967295 (zs.take k) : Nat) := IntWalk.u32_in _ (by omega)
      go_wp2
      go_ret
      refine ⟨?_, rfl⟩
      rw [hfin.out]
      rfl
end Go.Proofs.Ytneiaioddjabeaa
