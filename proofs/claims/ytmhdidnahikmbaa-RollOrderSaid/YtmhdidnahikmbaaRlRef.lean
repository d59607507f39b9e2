import Derived.Test.YtmhdidnahikmbaaRlMath
import Derived.Test.YtmhdidnahikmbaaGUni
/-
  What the document's own rolling checks answer: Sum, mod, Next. Nothing that was there is written.
-/
namespace Go.Proofs.Ytmhdidnahikmbaa
open Go.RowKit WM
set_option linter.unusedVariables false
set_option maxRecDepth 100000
theorem ix_strR (s : ByteArray) (k : Nat) (hk : k < (nums s).length) (K : Int) (e : K = k) (w : World) : (Instr.index 9 (.string s) (.int .i64 K)).run Try.prog w = .ok (.int .u8 ((nums s).getD k 0)) w := by
  subst e
  have hs : k < s.size := by rw [nums_len] at hk; exact hk
  have hd : k < s.data.toList.length := by rw [Array.length_toList]; exact hs
  rw [run_index_string (P := Try.prog) w 9 s .i64 k Try.underlying9]
  simp [nums, List.getD, hs]
  rfl
theorem drop_sA {zs : List Int} {k : Nat} (h : k < zs.length) : sA (zs.drop k) = zs.getD k 0 + sA (zs.drop (k + 1)) := by
  rw [List.drop_eq_getElem_cons h, sA, List.getD_eq_getElem?_getD, List.getElem?_eq_getElem h]
  rfl
theorem drop_sB {zs : List Int} {k : Nat} (h : k < zs.length) : sB (zs.drop k) = ((zs.length : Int) - k) * zs.getD k 0 + sB (zs.drop (k + 1)) := by
  rw [List.drop_eq_getElem_cons h, sB, List.length_drop, List.getD_eq_getElem?_getD, List.getElem?_eq_getElem h]
  simp only [Option.getD_some]
  congr 2
  omega
theorem mul_bound {r z : Int} (h0 : 0 ≤ r) (h1 : r ≤ 65535) (z0 : 0 ≤ z) (z1 : z ≤ 255) : 0 ≤ r * z ∧ r * z ≤ 16711425 := by
  refine ⟨Int.mul_nonneg h0 z0, ?_⟩
  have h := Int.mul_le_mul h1 z1 z0 (by omega)
  omega
theorem mul_mod {r z : Int} : (r % 65536 * z) % 65536 = (r * z) % 65536 := by
  rw [Int.mul_emod, Int.emod_emod_of_dvd _ (Int.dvd_refl _), ← Int.mul_emod]
theorem byte_at (s : ByteArray) (k : Nat) : 0 ≤ (nums s).getD k 0 ∧ (nums s).getD k 0 ≤ 255 := by
  rw [List.getD_eq_getElem?_getD]
  rcases Nat.lt_or_ge k (nums s).length with h | h
  · rw [List.getElem?_eq_getElem h]
    exact nums_bytes s _ (List.getElem_mem h)
  · rw [List.getElem?_eq_none h]
    simp
set_option maxHeartbeats 4000000 in
theorem rrsum_any (s : ByteArray) (w : World) (hs : s.size ≤ 1000000) : Calls Try.prog 14 #[.string s] w fun e w' => e = .returned (.int .u32 (rlS (nums s))) ∧ Below w.heap.size w w' := by
  have HB := Lib.hid (Below.refl w.heap.size w)
  obtain ⟨n, hn⟩ : ∃ n, n = s.size := ⟨_, rfl⟩
  have HN := Lib.hid (show (nums s).length = n by rw [nums_len, hn])
  have hlen : s.size = n := hn.symm
  clear hn
  go_enter Try.func14, Try.ntmps14
  go_wp2
  go_loopw [3, 4, 5] (fun a b i wr => ∃ (k : Nat) (A B : Int), k ≤ n ∧ i = .int .i64 k ∧ a = .int .i64 A ∧ b = .int .i64 B ∧ A = (sA (nums s) - sA ((nums s).drop k)) % 65536 ∧ B = (sB (nums s) - sB ((nums s).drop k)) % 65536 ∧ Below w.heap.size w wr) (fun _ _ i _ => n - (intOf i).toNat)
  case atStart => exact ⟨0, 0, 0, Nat.zero_le _, rfl, rfl, rfl, by simp, by simp, HB.out⟩
  case round =>
    obtain ⟨k, A, B, hk, rfl, rfl, rfl, hA, hB, hb⟩ := hrel
    have hA0 : 0 ≤ A ∧ A ≤ 65535 := by omega
    have hB0 : 0 ≤ B ∧ B ≤ 65535 := by omega
    have HBB := Lib.hid hb
    by_cases hlt : k < n
    · have hkl : k < (nums s).length := by rw [HN.out]; exact hlt
      have t1 : (k : Int) < (n : Int) := by omega
      have hix := ix_strR s k hkl k rfl
      have dA := drop_sA hkl
      have dB := drop_sB hkl
      have hz := byte_at s k
      rw [HN.out] at dB
      generalize (nums s).getD k 0 = z at *
      obtain ⟨r, hr⟩ : ∃ r, r = ((n : Int) - k) % 65536 := ⟨_, rfl⟩
      have hr0 : 0 ≤ r ∧ r ≤ 65535 := by omega
      have hp0 := mul_bound hr0.1 hr0.2 hz.1 hz.2
      have hpm : (r * z) % 65536 = (((n : Int) - k) * z) % 65536 := by rw [hr, mul_mod]
      obtain ⟨p, hp⟩ : ∃ p, p = r * z := ⟨_, rfl⟩
      rw [← hp] at hp0 hpm
      generalize ((n : Int) - k) * z = P at *
      obtain ⟨A', hA'⟩ : ∃ A', A' = (A + z) % 65536 := ⟨_, rfl⟩
      obtain ⟨B', hB'⟩ : ∃ B', B' = (B + p) % 65536 := ⟨_, rfl⟩
      have f1 : IntKind.i64.wrap z = z := IntWalk.i64_in _ (by omega)
      have f2 : IntKind.i64.wrap (A + z) = A + z := IntWalk.i64_in _ (by omega)
      have f3 : Int.tmod (A + z) 65536 = A' := by rw [Int.tmod_eq_emod_of_nonneg (by omega), hA']
      have f4 : IntKind.i64.wrap ((n : Int) - (k : Int)) = (n : Int) - (k : Int) := IntWalk.i64_in _ (by omega)
      have f5 : Int.tmod ((n : Int) - (k : Int)) 65536 = r := by rw [Int.tmod_eq_emod_of_nonneg (by omega), hr]
      have f6 : IntKind.i64.wrap (r * z) = p := by rw [← hp]; exact IntWalk.i64_in _ (by omega)
      have f7 : IntKind.i64.wrap (B + p) = B + p := IntWalk.i64_in _ (by omega)
      have f8 : Int.tmod (B + p) 65536 = B' := by rw [Int.tmod_eq_emod_of_nonneg (by omega), hB']
      have HF : Hid (A' = (sA (nums s) - sA ((nums s).drop (k + 1))) % 65536 ∧ B' = (sB (nums s) - sB ((nums s).drop (k + 1))) % 65536) := Lib.hid ⟨by omega, by omega⟩
      clear hA hB dA dB hp hpm hr hA' hB' hb hkl
      go_wp2
      go_roundw
      case rel => exact ⟨k + 1, A', B', by omega, by go_num, rfl, rfl, HF.out.1, HF.out.2, HBB.out⟩
      case measure => simp [intOf]; omega
    · obtain rfl : k = n := by omega
      have t1 : ¬ (k : Int) < (k : Int) := by omega
      have hd : (nums s).drop k = [] := List.drop_eq_nil_of_le (by rw [HN.out]; exact Nat.le_refl _)
      rw [hd] at hA hB
      simp only [sA, sB, Int.sub_zero] at hA hB
      have HV : Hid (rlS (nums s) = 65536 * B + A) := Lib.hid (by unfold rlS; rw [← hA, ← hB])
      have f1 : IntKind.i64.wrap (65536 * B) = 65536 * B := IntWalk.i64_in _ (by omega)
      have f2 : IntKind.i64.wrap (65536 * B + A) = 65536 * B + A := IntWalk.i64_in _ (by omega)
      have f3 : IntKind.u32.wrap (65536 * B + A) = 65536 * B + A := IntWalk.u32_in _ (by omega)
      clear hA hB hd hb
      go_wp2
      go_ret
      exact ⟨by rw [HV.out]; rfl, HBB.out⟩
set_option maxHeartbeats 1000000 in
theorem rmod_any (n : Int) (w : World) (h0 : -9223372036854775808 ≤ n) (h1 : n ≤ 9223372036854775807) : Calls Try.prog 19 #[.int .i64 n] w fun e w' => e = .returned (.int .i64 (n % 65536)) ∧ Below w.heap.size w w' := by
  have HB := Lib.hid (Below.refl w.heap.size w)
  obtain ⟨m, hm⟩ : ∃ m, m = Int.tmod n 65536 := ⟨_, rfl⟩
  have f1 : Int.tmod n 65536 = m := hm.symm
  have hmm : (0 ≤ m ∧ m = n % 65536 ∧ m ≤ 65535) ∨ (m < 0 ∧ m + 65536 = n % 65536 ∧ -65536 ≤ m) := by
    rcases Int.le_total 0 n with h | h
    · left
      rw [hm, Int.tmod_eq_emod_of_nonneg h]
      omega
    · rw [hm]
      have e : Int.tmod n 65536 = -(Int.tmod (-n) 65536) := by rw [Int.neg_tmod]; omega
      rw [e, Int.tmod_eq_emod_of_nonneg (by omega)]
      omega
  rcases hmm with ⟨t1, e, _⟩ | ⟨t1, e, t2⟩
  · have HV := Lib.hid e
    have t2 : ¬ m < 0 := by omega
    clear hm e
    go_enter Try.func19, Try.ntmps19
    go_wp2
    go_ret
    exact ⟨by rw [HV.out]; rfl, HB.out⟩
  · have HV := Lib.hid e
    have f2 : IntKind.i64.wrap (m + 65536) = m + 65536 := IntWalk.i64_in _ (by omega)
    clear hm e
    go_enter Try.func19, Try.ntmps19
    go_wp2
    go_ret
    exact ⟨by rw [HV.out]; rfl, HB.out⟩
theorem mod_mod (m : Int) : m % 65536 % 65536 = m % 65536 := by omega
set_option maxHeartbeats 2000000 in
theorem rnext9_any (sum many o i : Int) (w : World) (hs0 : 0 ≤ sum) (hs1 : sum ≤ 4294967295) (hm0 : -9223372036854775808 ≤ many) (hm1 : many ≤ 9223372036854775807) (ho0 : 0 ≤ o) (ho1 : o ≤ 255) (hi0 : 0 ≤ i) (hi1 : i ≤ 255) :
    Calls Try.prog 16 #[.int .u32 sum, .int .i64 many, .int .u8 o, .int .u8 i] w fun e w' => e = .returned (.int .u32 (rlN sum many o i)) ∧ Below w.heap.size w w' := by
  have HB := Lib.hid (Below.refl w.heap.size w)
  obtain ⟨x, hx⟩ : ∃ x, x = sum % 65536 := ⟨_, rfl⟩
  obtain ⟨y, hy⟩ : ∃ y, y = sum / 65536 := ⟨_, rfl⟩
  obtain ⟨a, ha⟩ : ∃ a, a = (x - o + i) % 65536 := ⟨_, rfl⟩
  obtain ⟨m, hm⟩ : ∃ m, m = many % 65536 := ⟨_, rfl⟩
  obtain ⟨p, hp⟩ : ∃ p, p = m * o := ⟨_, rfl⟩
  have hp0 := mul_bound (r := m) (z := o) (by omega) (by omega) ho0 ho1
  have hpm : p % 65536 = (many * o) % 65536 := by rw [hp, hm, mul_mod]
  rw [← hp] at hp0
  obtain ⟨b, hb⟩ : ∃ b, b = (y - p + a) % 65536 := ⟨_, rfl⟩
  have HV : Hid (rlN sum many o i = 65536 * b + a) := Lib.hid (by
    unfold rlN
    rw [← hx, ← hy, ← ha]
    generalize many * o = q at *
    omega)
  have f0 : Int.tmod sum 65536 = x := by rw [Int.tmod_eq_emod_of_nonneg hs0, hx]
  have f1 : IntKind.i64.wrap x = x := IntWalk.i64_in _ (by omega)
  have f2 : IntKind.i64.wrap o = o := IntWalk.i64_in _ (by omega)
  have f3 : IntKind.i64.wrap i = i := IntWalk.i64_in _ (by omega)
  have f4 : IntKind.i64.wrap (x - o) = x - o := IntWalk.i64_in _ (by omega)
  have f5 : IntKind.i64.wrap (x - o + i) = x - o + i := IntWalk.i64_in _ (by omega)
  have f6 : Int.tdiv sum 65536 = y := by rw [Int.tdiv_eq_ediv_of_nonneg hs0, hy]
  have f7 : IntKind.i64.wrap y = y := IntWalk.i64_in _ (by omega)
  have f8 : IntKind.i64.wrap (m * o) = p := by rw [← hp]; exact IntWalk.i64_in _ (by omega)
  have f9 : IntKind.i64.wrap (y - p) = y - p := IntWalk.i64_in _ (by omega)
  have g1 : IntKind.i64.wrap (y - p + a) = y - p + a := IntWalk.i64_in _ (by omega)
  have g2 : IntKind.i64.wrap (65536 * b) = 65536 * b := IntWalk.i64_in _ (by omega)
  have g3 : IntKind.i64.wrap (65536 * b + a) = 65536 * b + a := IntWalk.i64_in _ (by omega)
  have g4 : IntKind.u32.wrap (65536 * b + a) = 65536 * b + a := IntWalk.u32_in _ (by omega)
  have f1' : IntKind.u32.wrap x = x := IntWalk.u32_in _ (by omega)
  have f7' : IntKind.u32.wrap y = y := IntWalk.u32_in _ (by omega)
  have C1 := Lib.hid (fun w => rmod_any (x - o + i) w (by omega) (by omega))
  rw [← ha] at C1
  have C2 := Lib.hid (fun w => rmod_any many w hm0 hm1)
  rw [← hm] at C2
  have C3 := Lib.hid (fun w => rmod_any (y - p + a) w (by omega) (by omega))
  rw [← hb] at C3
  clear hx hy ha hm hp hpm hb hm0 hm1
  go_enter Try.func16, Try.ntmps16
  go_wp2_with fail
  refine (C1.out _).mono ?_
  rintro e w1 ⟨rfl, hb1⟩
  have B1 := Lib.hid (HB.out.trans (hb1.mono HB.out.size))
  clear hb1
  go_wp2_with fail
  refine (C2.out _).mono ?_
  rintro e w2 ⟨rfl, hb2⟩
  have B2 := Lib.hid (B1.out.trans (hb2.mono B1.out.size))
  clear hb2
  go_wp2_with fail
  refine (C3.out _).mono ?_
  rintro e w3 ⟨rfl, hb3⟩
  have B3 := Lib.hid (B2.out.trans (hb3.mono B2.out.size))
  clear hb3
  go_wp2
  go_ret
  exact ⟨by rw [HV.out]; rfl, B3.out⟩
end Go.Proofs.Ytmhdidnahikmbaa

