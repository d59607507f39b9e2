import Derived.Test.YtlahjooofjbfbaaDoorRlMath
import Derived.Test.YtlahjooofjbfbaaDoorGUni
/-
  What the document's own rolling checks answer: Sum, mod, Next. Nothing that was there is written.
-/
namespace Go.Proofs.YtlahjooofjbfbaaDoor
open Go.RowKit WM
set_option linter.unusedVariables false
set_option maxRecDepth 100000
theorem ix_strR (s : ByteArray) (k : Nat) (hk : k < (nums s).length) (K : Int) (e : K = k) (w : World) : (Instr.index 9 (.string s) (.int .i64 K)).run Tryd.prog w = .ok (.int .u8 ((nums s).getD k 0)) w := by
  subst e
  have hs : k < s.size := by rw [nums_len] at hk; exact hk
  have hd : k < s.data.toList.length := by rw [Array.length_toList]; exact hs
  rw [run_index_string (P := Tryd.prog) w 9 s .i64 k Tryd.underlying9]
  simp [nums, List.getD, hs]
  rfl
theorem drop_sA {zs : List Int} {k : Nat} (h : k < zs.length) : sA (zs.drop k) = zs.getD k 0 + sA (zs.drop (k + 1)) := by
  rw [List.drop_eq_getElem_cons h, sA, List.getD_eq_getElem?_getD, List.getElem?_eq_getElem h]
  rfl
theorem drop_sB {zs : List Int} {k : Nat} (h : k < zs.length) : sB (zs.drop k) = ((zs.length : Int) - k) * zs.getD k 0 + sB (zs.drop (k + 1)) := by
  rw [List.drop_eq_getElem_cons h, sB, List.length_drop, List.getD_eq_getElem?_getD, List.getElem?_eq_getElem h]
  simp only [Option.getD_some]
  congr 2
  omega
theorem mul_bound {r z : Int} (h0 : 0 ≤ r) (h1 : r ≤ 65535) (z0 : 0 ≤ z) (z1 : z ≤ 255) : 0 ≤ r * z ∧ r * z ≤ 16711425 := by
  refine ⟨Int.mul_nonneg h0 z0, ?_⟩
  have h := Int.mul_le_mul h1 z1 z0 (by omega)
  omega
theorem mul_mod {r z : Int} : (r % 65536 * z) % 65536 = (r * z) % 65536 := by
  rw [Int.mul_emod, Int.emod_emod_of_dvd _ (Int.dvd_refl _), ← Int.mul_emod]
theorem byte_at (s : ByteArray) (k : Nat) : 0 ≤ (nums s).getD k 0 ∧ (nums s).getD k 0 ≤ 255 := by
  rw [List.getD_eq_getElem?_getD]
  rcases Nat.lt_or_ge k (nums s).length with h | h
  · rw [List.getElem?_eq_getElem h]
    exact nums_bytes s _ (List.getElem_mem h)
  · rw [List.getElem?_eq_none h]
    simp
set_option maxHeartbeats 4000000 in
theorem rrsum_any (s : ByteArray) (w : World) (hs : s.size ≤ 1000000) : Calls Tryd.prog 18 #[.string s] w fun e w' => e = .returned (.int .u32 (rlS (nums s))) ∧ Below w.heap.size w w' := by
  have HB := Lib.hid (Below.refl w.heap.size w)
  obtain ⟨n, hn⟩ : ∃ n, n = s.size := ⟨_, rfl⟩
  have HN := Lib.hid (show (nums s).length = n by rw [nums_len, hn])
  have hlen : s.size = n := hn.symm
  clear hn
  go_enter Tryd.func18, Tryd.ntmps18
  go_wp2
  go_loopw [3, 4, 5] (fun a b i wr => ∃ (k : Nat) (A B : Int), k ≤ n ∧ i = .int .i64 k ∧ a = .int .i64 A ∧ b = .int .i64 B ∧ A = (sA (nums s) - sA ((nums s).drop k)) % 65536 ∧ B = (sB (nums s) - sB ((nums s).drop k)) % 65536 ∧ Below w.heap.size w wr) (fun _ _ i _ => n - (intOf i).toNat)
  case atStart => exact ⟨0, 0, 0, Nat.zero_le _, rfl, rfl, rfl, by simp, by simp, HB.out⟩
  case round =>
    obtain ⟨k, A, B, hk, rfl, rfl, rfl, hA, hB, hb⟩ := hrel
    have hA0 : 0 ≤ A ∧ A ≤ 65535 := by omega
    have hB0 : 0 ≤ B ∧ B ≤ 65535 := by omega
    have HBB := Lib.hid hb
    by_cases hlt : k < n
    · have hkl : k < (nums s).length := by rw [HN.out]; exact hlt
      have t1 : (k : Int) < (n : Int) := by omega
      have hix := ix_strR s k hkl k rfl
      have dA := drop_sA hkl
      have dB := drop_sB hkl
      have hz := byte_at s k
      rw [HN.out] at dB
      generalize (nums s).getD k 0 = z at *
      obtain ⟨r, hr⟩ : ∃ r, r = ((n : Int) - k) % 65536 := ⟨_, rfl⟩
      have hr0 : 0 ≤ r ∧ r ≤ 65535 := by omega
      have hp0 := mul_bound hr0.1 hr0.2 hz.1 hz.2
      have hpm : (r * z) % 65536 = (((n : Int) - k) * z) % 65536 := by rw [hr, mul_mod]
      obtain ⟨p, hp⟩ : ∃ p, p = r * z := ⟨_, rfl⟩
      rw [← hp] at hp0 hpm
      generalize ((n : Int) - k) * z = P at *
      obtain ⟨A', hA'⟩ : ∃ A', A' = (A + z) % 65536 := ⟨_, rfl⟩
      obtain ⟨B', hB'⟩ : ∃ B', B' = (B + p) % 65536 := ⟨_, rfl⟩
      have f1 : IntKind.i64.wrap z = z := IntWalk.i64_in _ (by omega)
      have f2 : IntKind.i64.wrap (A + z) = A + z := IntWalk.i64_in _ (by omega)
      have f3 : Int.tmod (A + z) 65536 = A' := by rw [Int.tmod_eq_emod_of_nonneg (by omega), hA']
      have f4 : IntKind.i64.wrap ((n : Int) - (k : Int)) = (n : Int) - (k : Int) := IntWalk.i64_in _ (by omega)
      have f5 : Int.tmod ((n : Int) - (k : Int)) 65536 = r := by rw [Int.tmod_eq_emod_of_nonneg (by omega), hr]
      have f6 : IntKind.i64.wrap (r * z) = p := by rw [← hp]; exact IntWalk.i64_in _ (by omega)
      have f7 : IntKind.i64.wrap (B + p) = B + p := IntWalk.i64_in _ (by omega)
      have f8 : Int.tmod (B + p) 65536 = B' := by rw [Int.tmod_eq_emod_of_nonneg (by omega), hB']
      have HF : Hid (A' = (sA (nums s) - sA ((nums s).drop (k + 1))) % 65536 ∧ B' = (sB (nums s) - sB ((nums s).drop (k + 1))) % 65536) := Lib.hid ⟨by omega, by omega⟩
      clear hA hB dA dB hp hpm hr hA' hB' hb hkl
      go_wp2
      go_roundw
      case rel => exact ⟨k + 1, A', B', by omega, by go_num, rfl, rfl, HF.out.1, HF.out.2, HBB.out⟩
      case measure => simp [intOf]; omega
    · obtain rfl : k = n := by omega
      have t1 : ¬ (k : Int) < (k : Int) := by omega
      have hd : (nums s).drop k = [] := List.drop_eq_nil_of_le (by rw [HN.out]; exact Nat.le_refl _)
      rw [hd] at hA hB
      simp only [sA, sB, Int.sub_zero] at hA hB
      have HV : Hid (rlS (nums s) = 65536 * B + A) := Lib.hid (by unfold rlS; rw [← hA, ← hB])
      have f1 : IntKind.i64.wrap (65536 * B) = 65536 * B := IntWalk.i64_in _ (by omega)
      have f2 : IntKind.i64.wrap (65536 * B + A) = 65536 * B + A := IntWalk.i64_in _ (by omega)
      have f3 : IntKind.u32.wrap (65536 * B + A) = 65536 * B + A := IntWalk.u32_in _ (by omega)
      clear hA hB hd hb
      go_wp2
      go_ret
      exact ⟨by rw [HV.out]; rfl, HBB.out⟩
theorem mod_mod (m : Int) : m % 65536 % 65536 = m % 65536 := by omega
end Go.Proofs.YtlahjooofjbfbaaDoor

