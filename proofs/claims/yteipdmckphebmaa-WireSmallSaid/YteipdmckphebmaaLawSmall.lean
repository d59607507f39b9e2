/-
  The law WireSmall: for every number it answers true, and nothing that was there is written.
-/
import Derived.Test.YteipdmckphebmaaAwake
namespace Go.Proofs.Yteipdmckphebmaa
open Go.RowKit WM
set_option linter.unusedVariables false
theorem encH_count {m : Int} (h0 : 128 ≤ m) (h1 : m ≤ 18446744073709551615) : (encH 9 (m / 128)).length = (encH 9 (m / 128 / 128)).length + 1 := by
  rw [encH, if_neg (by omega), List.length_append, encH_more 8 9 (m / 128 / 128) (by omega) (by omega) (by omega)]
  rfl
theorem encH_first : ∀ (f : Nat) (m : Int), 0 < m → m < 128 ^ f → 128 < (encH f m).getD 0 0 ∧ 0 < (encH f m).length
  | 0, m, h0, h => by simp at h; omega
  | f + 1, m, h0, h => by
    rw [encH, if_neg (by omega)]
    by_cases hz : m / 128 = 0
    · rw [hz, encH_zero]
      simp
      omega
    · have ih := encH_first f (m / 128) (by omega) (by rw [Int.pow_succ] at h; omega)
      refine ⟨?_, by simp⟩
      have : ((encH f (m / 128)) ++ [m % 128 + 128]).getD 0 0 = (encH f (m / 128)).getD 0 0 := by
        simp only [List.getD, List.getElem?_append_left ih.2]
      rw [this]
      exact ih.1
theorem enc_first {n : Int} (h0 : 128 ≤ n) (h1 : n ≤ 18446744073709551615) : 128 < (enc n).getD 0 0 := by
  have := encH_first 9 (n / 128) (by omega) (by omega)
  unfold enc
  simp only [List.getD, List.getElem?_append_left this.2]
  exact this.1
theorem enc_mid {n : Int} {i : Nat} (h : i + 1 < (enc n).length) : 128 ≤ (enc n).getD i 0 := by
  unfold enc at h ⊢
  simp at h
  simp only [List.getD, List.getElem?_append_left h, List.getElem?_eq_getElem h, Option.getD_some]
  exact (encH_bytes 9 _ _ (List.getElem_mem h)).1
theorem enc_last {n : Int} {i : Nat} (h : i + 1 = (enc n).length) : (enc n).getD i 0 = n % 128 := by
  unfold enc at h ⊢
  simp at h
  subst h
  simp [List.getD]
theorem enc_one {n : Int} (h0 : 0 ≤ n) (h1 : n < 128) : enc n = [n] := by
  rw [enc, show n / 128 = 0 by omega, encH_zero, show n % 128 = n by omega]; rfl
theorem enc_two {n : Int} (h0 : 128 ≤ n) (h1 : n ≤ 18446744073709551615) : 2 ≤ (enc n).length := by
  have := encH_first 9 (n / 128) (by omega) (by omega)
  unfold enc
  simp
  omega

set_option maxHeartbeats 1000000 in
theorem walk_wireSmall (n : Int) (w0 : (Lit.int .u64 n).wf = true) (w : World) :
    Calls Try.prog 10 #[.int .u64 n] w fun e w' => e = .returned (.bool true) ∧ Below w.heap.size w w' := by
  obtain ⟨h0, h1⟩ := bounds_u64 w0
  clear w0
  go_enter Try.func10, Try.ntmps10
  go_wp2_with fail
  refine (awake_any _).mono ?_
  rintro e w1 ⟨rfl, hb1⟩
  go_wp2_with fail
  refine (put_gives n _ h0 h1).mono ?_
  rintro e w2 ⟨A, L, c, rfl, hn, hnc, hcm, hown, hb2⟩
  have hby := Lib.hid (Byt.own (zs := enc n) hown)
  have hbel := hb1.trans (hb2.mono hb1.size)
  have hLL := enc_len n
  rw [hn] at hLL
  have HN := Lib.hid hn
  clear hown hb1 hb2 hn hcm hnc
  go_wp2
  go_loop [5, 6] (fun many m => ∃ (j : Nat) (q : Int), many = .int .i64 j ∧ m = .int .u64 q ∧ 0 ≤ q ∧ q ≤ n ∧ j + (encH 9 (q / 128)).length = L) (fun _ m => (intOf m).toNat)
  case atStart => exact ⟨1, n, rfl, rfl, h0, Int.le_refl _, by have := HN.out; unfold enc at this; simp at this; omega⟩
  case round =>
    obtain ⟨j, q, rfl, rfl, q0, q1, hj⟩ := hrel
    by_cases hq : 128 ≤ q
    · have hs := encH_count hq (by omega)
      have hj' : j + 1 ≤ 10 := by omega
      have HJ := Lib.hid (show j + 1 + (encH 9 (q / 128 / 128)).length = L by omega)
      clear hs hj
      go_wp2
      go_round
      case rel => exact ⟨j + 1, q / 128, by go_num, rfl, by omega, by omega, HJ.out⟩
      case measure => simp [intOf]; omega
    · have : (encH 9 (q / 128)).length = 0 := by rw [show q / 128 = 0 by omega, encH_zero]; rfl
      obtain rfl : j = L := by omega
      clear this hj
      go_wp2
      have hz := HN.out
      obtain ⟨b, off, rfl, _, hc⟩ := hby.out (fun e => by rw [e] at hz; simp at hz; omega)
      go_loop [7] (fun i => ∃ k : Nat, i = .int .i64 k ∧ k + 1 ≤ j) (fun i => j - (intOf i).toNat)
      case atStart => exact ⟨0, rfl, by omega⟩
      case round =>
        obtain ⟨k, rfl, hk⟩ := hrel
        have hck := hc k (by omega)
        have h00 := hc 0 (by omega)
        rw [Nat.add_zero] at h00
        by_cases hlt : k + 1 < j
        · have hmid := enc_mid (n := n) (i := k) (by omega)
          generalize (enc n).getD k 0 = z at hck hmid
          clear h00 hc hz
          go_wp2
          go_round
          case rel => exact ⟨k + 1, by go_num, by omega⟩
          case measure => simp [intOf]; omega
        · have hl := enc_last (n := n) (i := k) (by omega)
          rw [hl] at hck
          have hm7 : n % 128 < 128 := by omega
          by_cases h1' : n < 128
          · have : j = 1 := by rw [← hz, enc_one h0 h1']; rfl
            subst this
            obtain rfl : k = 0 := by omega
            have hck' : w2.cell? ⟨b, off, none⟩ = some (.int .u8 (n % 128)) := by simpa using hck
            clear h00 hc hz hl hck
            go_wp2
            go_ret
            exact ⟨rfl, hbel⟩
          · have h2 := enc_two (n := n) (by omega) h1
            have hf := enc_first (n := n) (by omega) h1
            generalize (enc n).getD 0 0 = z0 at h00 hf
            obtain rfl : j = k + 1 := by omega
            have hk1 : 1 ≤ k := by omega
            have hb' : (((k + 1 : Nat) : Int) == 1) = false := by simp; omega
            clear hc hz hl
            go_wp2
            go_ret
            exact ⟨rfl, hbel⟩
end Go.Proofs.Yteipdmckphebmaa
