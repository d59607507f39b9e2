import Derived.Test.YtlahjooofjbfbaaDoorRlRefAll
/-
  What package roll answers: check, Sum, Next. Nothing that was there is written.
-/
namespace Go.Proofs.YtlahjooofjbfbaaDoor
open Go.RowKit WM
set_option linter.unusedVariables false
set_option maxRecDepth 100000
theorem shl16 (b : Nat) : Op.shift BinOp.shl .u32 (b : Int) .u64 16 = pure (.int .u32 ((b * 65536 % 4294967296 : Nat) : Int)) := by
  rw [shift_shl_any _ _ _ _ (by omega), IntKind.wrap_u32', show IntKind.u32.bits = 32 from rfl]
  congr 2
theorem shr16 (b : Nat) : Op.shift BinOp.shr .u32 (b : Int) .u64 16 = pure (.int .u32 ((b / 65536 : Nat) : Int)) := by
  rw [shift_shr_any _ _ _ _ (by omega), show IntKind.u32.bits = 32 from rfl]
  congr 2
theorem mask16 (a : Nat) (h : a < 4294967296) : bits .and .u32 (a : Int) 65535 = ((a % 65536 : Nat) : Int) := by
  rw [show (65535 : Int) = ((65535 : Nat) : Int) from rfl, u32_and_nat _ _ h (by omega)]
  congr 1
  exact Nat.and_two_pow_sub_one_eq_mod a 16
theorem both16 (a b : Nat) : bits .or .u32 ((b * 65536 % 4294967296 : Nat) : Int) ((a % 65536 : Nat) : Int) = ((65536 * (b % 65536) + a % 65536 : Nat) : Int) := by
  rw [u32_or_nat _ _ (Nat.mod_lt _ (by omega)) (by omega)]
  congr 1
  have e : b * 65536 % 4294967296 = (b % 65536) <<< 16 := by rw [Nat.shiftLeft_eq]; omega
  rw [e, ← Nat.shiftLeft_add_eq_or_of_lt (by omega : a % 65536 < 2 ^ 16), Nat.shiftLeft_eq]
  omega
theorem rlchk_any (a b : Nat) (w : World) (ha : a < 4294967296) : Calls Tryd.prog 21 #[.int .u32 a, .int .u32 b] w fun e w' => e = .returned (.int .u32 ((65536 * (b % 65536) + a % 65536 : Nat) : Int)) ∧ Below w.heap.size w w' := by
  have HB := Lib.hid (Below.refl w.heap.size w)
  have h1 := shl16 b
  have h2 := mask16 a ha
  have h3 := both16 a b
  generalize ((65536 * (b % 65536) + a % 65536 : Nat) : Int) = r at *
  generalize ((b * 65536 % 4294967296 : Nat) : Int) = p at *
  generalize ((a % 65536 : Nat) : Int) = q at *
  clear ha
  go_enter Tryd.func21, Tryd.ntmps21
  go_wp2
  go_ret
  exact ⟨rfl, HB.out⟩
theorem take_sA {zs : List Int} {k : Nat} (h : k < zs.length) : sA (zs.take (k + 1)) = sA (zs.take k) + zs.getD k 0 := by
  rw [List.take_succ_eq_append_getElem h, sA_append, List.getD_eq_getElem?_getD, List.getElem?_eq_getElem h]
  simp [sA]
theorem take_sB {zs : List Int} {k : Nat} (h : k < zs.length) : sB (zs.take (k + 1)) = sB (zs.take k) + sA (zs.take (k + 1)) := by
  rw [take_sA h, List.take_succ_eq_append_getElem h, sB_append, List.getD_eq_getElem?_getD, List.getElem?_eq_getElem h]
  simp [sB]
  omega
theorem u32_nat (x : Int) : ∃ n : Nat, n < 4294967296 ∧ IntKind.u32.wrap x = (n : Int) ∧ (n : Int) = x % 4294967296 := ⟨(x % 4294967296).toNat, by omega, by rw [IntKind.wrap_u32']; omega, by omega⟩
set_option maxHeartbeats 4000000 in
theorem rlsum_any (s : ByteArray) (w : World) (hs : s.size ≤ 1000000) : Calls Tryd.prog 16 #[.string s] w fun e w' => e = .returned (.int .u32 (rlS (nums s))) ∧ Below w.heap.size w w' := by
  have HB := Lib.hid (Below.refl w.heap.size w)
  obtain ⟨n, hn⟩ : ∃ n, n = s.size := ⟨_, rfl⟩
  have HN := Lib.hid (show (nums s).length = n by rw [nums_len, hn])
  have hlen : s.size = n := hn.symm
  clear hn
  go_enter Tryd.func16, Tryd.ntmps16
  go_wp2
  go_loopw [3, 4, 8] (fun a b i wr => ∃ (k A B : Nat), k ≤ n ∧ i = .int .i64 k ∧ a = .int .u32 A ∧ b = .int .u32 B ∧ A < 4294967296 ∧ B < 4294967296 ∧ (A : Int) = (sA ((nums s).take k)) % 4294967296 ∧ (B : Int) = (sB ((nums s).take k)) % 4294967296 ∧ Below w.heap.size w wr) (fun _ _ i _ => n - (intOf i).toNat)
  case atStart => exact ⟨0, 0, 0, Nat.zero_le _, rfl, rfl, rfl, by omega, by omega, by simp [sA], by simp [sB], HB.out⟩
  case round =>
    obtain ⟨k, A, B, hk, rfl, rfl, rfl, hA0, hB0, hA, hB, hb⟩ := hrel
    have HBB := Lib.hid hb
    by_cases hlt : k < n
    · have hkl : k < (nums s).length := by rw [HN.out]; exact hlt
      have t1 : (k : Int) < (n : Int) := by omega
      have hix := ix_strR s k hkl k rfl
      have dA := take_sA hkl
      have dB := take_sB hkl
      have hz := byte_at s k
      generalize (nums s).getD k 0 = z at *
      have f1 : IntKind.u32.wrap z = z := IntWalk.u32_in _ (by omega)
      obtain ⟨A', hA1, f2, hA2⟩ := u32_nat ((A : Int) + z)
      obtain ⟨B', hB1, f3, hB2⟩ := u32_nat ((B : Int) + (A' : Int))
      have HF : Hid ((A' : Int) = (sA ((nums s).take (k + 1))) % 4294967296 ∧ (B' : Int) = (sB ((nums s).take (k + 1))) % 4294967296) := Lib.hid ⟨by omega, by omega⟩
      clear hA hB dA dB hA2 hB2 hb hkl
      go_wp2
      go_roundw
      case rel => exact ⟨k + 1, A', B', by omega, by go_num, rfl, rfl, hA1, hB1, HF.out.1, HF.out.2, HBB.out⟩
      case measure => simp [intOf]; omega
    · obtain rfl : k = n := by omega
      have t1 : ¬ (k : Int) < (k : Int) := by omega
      have hd : (nums s).take k = nums s := List.take_of_length_le (by rw [HN.out]; exact Nat.le_refl _)
      rw [hd] at hA hB
      have HV : Hid (rlS (nums s) = ((65536 * (B % 65536) + A % 65536 : Nat) : Int)) := Lib.hid (by unfold rlS; omega)
      have HC := Lib.hid (fun w => rlchk_any A B w hA0)
      generalize ((65536 * (B % 65536) + A % 65536 : Nat) : Int) = R at HV HC
      clear hA hB hd hb
      go_wp2_with fail
      refine (HC.out _).mono ?_
      rintro e w1 ⟨rfl, hb⟩
      have B1 := Lib.hid (HBB.out.trans (hb.mono HBB.out.size))
      clear hb
      go_wp2
      go_ret
      exact ⟨by rw [HV.out]; rfl, B1.out⟩
end Go.Proofs.YtlahjooofjbfbaaDoor

