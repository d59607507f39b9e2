import Derived.Test.YtnencoainacpoaaDoorRlMath
import Derived.Test.YtnencoainacpoaaDoorGUni
import Derived.Test.YtnencoainacpoaaDoorGRow
import Derived.RangeFuncBox
section
/-
  What the document's own rolling checks answer: Sum, mod, Next. Nothing that was there is written.
-/
namespace Go.Proofs.YtnencoainacpoaaDoor
open Go.RowKit WM
set_option linter.unusedVariables false
set_option maxRecDepth 100000
theorem ix_strR (s : ByteArray) (k : Nat) (hk : k < (nums s).length) (K : Int) (e : K = k) (w : World) : (Instr.index 9 (.string s) (.int .i64 K)).run Tryd.prog w = .ok (.int .u8 ((nums s).getD k 0)) w := by
  subst e
  have hs : k < s.size := by rw [nums_len] at hk; exact hk
  have hd : k < s.data.toList.length := by rw [Array.length_toList]; exact hs
  rw [run_index_string (P := Tryd.prog) w 9 s .i64 k Tryd.underlying9]
  simp [nums, List.getD, hs]
  rfl
theorem drop_sA {zs : List Int} {k : Nat} (h : k < zs.length) : sA (zs.drop k) = zs.getD k 0 + sA (zs.drop (k + 1)) := by
  rw [List.drop_eq_getElem_cons h, sA, List.getD_eq_getElem?_getD, List.getElem?_eq_getElem h]
  rfl
theorem drop_sB {zs : List Int} {k : Nat} (h : k < zs.length) : sB (zs.drop k) = ((zs.length : Int) - k) * zs.getD k 0 + sB (zs.drop (k + 1)) := by
  rw [List.drop_eq_getElem_cons h, sB, List.length_drop, List.getD_eq_getElem?_getD, List.getElem?_eq_getElem h]
  simp only [Option.getD_some]
  congr 2
  omega
theorem mul_bound {r z : Int} (h0 : 0 ≤ r) (h1 : r ≤ 65535) (z0 : 0 ≤ z) (z1 : z ≤ 255) : 0 ≤ r * z ∧ r * z ≤ 16711425 := by
  refine ⟨Int.mul_nonneg h0 z0, ?_⟩
  have h := Int.mul_le_mul h1 z1 z0 (by omega)
  omega
theorem mul_mod {r z : Int} : (r % 65536 * z) % 65536 = (r * z) % 65536 := by
  rw [Int.mul_emod, Int.emod_emod_of_dvd _ (Int.dvd_refl _), ← Int.mul_emod]
theorem byte_at (s : ByteArray) (k : Nat) : 0 ≤ (nums s).getD k 0 ∧ (nums s).getD k 0 ≤ 255 := by
  rw [List.getD_eq_getElem?_getD]
  rcases Nat.lt_or_ge k (nums s).length with h | h
  · rw [List.getElem?_eq_getElem h]
    exact nums_bytes s _ (List.getElem_mem h)
  · rw [List.getElem?_eq_none h]
    simp
set_option maxHeartbeats 4000000 in
theorem rrsum_any (s : ByteArray) (w : World) (hs : s.size ≤ 1000000) : Calls Tryd.prog 65 #[.string s] w fun e w' => e = .returned (.int .u32 (rlS (nums s))) ∧ Below w.heap.size w w' := by
  have HB := Lib.hid (Below.refl w.heap.size w)
  obtain ⟨n, hn⟩ : ∃ n, n = s.size := ⟨_, rfl⟩
  have HN := Lib.hid (show (nums s).length = n by rw [nums_len, hn])
  have hlen : s.size = n := hn.symm
  clear hn
  go_enter Tryd.func65, Tryd.ntmps65
  go_wp2
  go_loopw [3, 4, 5] (fun a b i wr => ∃ (k : Nat) (A B : Int), k ≤ n ∧ i = .int .i64 k ∧ a = .int .i64 A ∧ b = .int .i64 B ∧ A = (sA (nums s) - sA ((nums s).drop k)) % 65536 ∧ B = (sB (nums s) - sB ((nums s).drop k)) % 65536 ∧ Below w.heap.size w wr) (fun _ _ i _ => n - (intOf i).toNat)
  case atStart => exact ⟨0, 0, 0, Nat.zero_le _, rfl, rfl, rfl, by simp, by simp, HB.out⟩
  case round =>
    obtain ⟨k, A, B, hk, rfl, rfl, rfl, hA, hB, hb⟩ := hrel
    have hA0 : 0 ≤ A ∧ A ≤ 65535 := by omega
    have hB0 : 0 ≤ B ∧ B ≤ 65535 := by omega
    have HBB := Lib.hid hb
    by_cases hlt : k < n
    · have hkl : k < (nums s).length := by rw [HN.out]; exact hlt
      have t1 : (k : Int) < (n : Int) := by omega
      have hix := ix_strR s k hkl k rfl
      have dA := drop_sA hkl
      have dB := drop_sB hkl
      have hz := byte_at s k
      rw [HN.out] at dB
      generalize (nums s).getD k 0 = z at *
      obtain ⟨r, hr⟩ : ∃ r, r = ((n : Int) - k) % 65536 := ⟨_, rfl⟩
      have hr0 : 0 ≤ r ∧ r ≤ 65535 := by omega
      have hp0 := mul_bound hr0.1 hr0.2 hz.1 hz.2
      have hpm : (r * z) % 65536 = (((n : Int) - k) * z) % 65536 := by rw [hr, mul_mod]
      obtain ⟨p, hp⟩ : ∃ p, p = r * z := ⟨_, rfl⟩
      rw [← hp] at hp0 hpm
      generalize ((n : Int) - k) * z = P at *
      obtain ⟨A', hA'⟩ : ∃ A', A' = (A + z) % 65536 := ⟨_, rfl⟩
      obtain ⟨B', hB'⟩ : ∃ B', B' = (B + p) % 65536 := ⟨_, rfl⟩
      have f1 : IntKind.i64.wrap z = z := IntWalk.i64_in _ (by omega)
      have f2 : IntKind.i64.wrap (A + z) = A + z := IntWalk.i64_in _ (by omega)
      have f3 : Int.tmod (A + z) 65536 = A' := by rw [Int.tmod_eq_emod_of_nonneg (by omega), hA']
      have f4 : IntKind.i64.wrap ((n : Int) - (k : Int)) = (n : Int) - (k : Int) := IntWalk.i64_in _ (by omega)
      have f5 : Int.tmod ((n : Int) - (k : Int)) 65536 = r := by rw [Int.tmod_eq_emod_of_nonneg (by omega), hr]
      have f6 : IntKind.i64.wrap (r * z) = p := by rw [← hp]; exact IntWalk.i64_in _ (by omega)
      have f7 : IntKind.i64.wrap (B + p) = B + p := IntWalk.i64_in _ (by omega)
      have f8 : Int.tmod (B + p) 65536 = B' := by rw [Int.tmod_eq_emod_of_nonneg (by omega), hB']
      have HF : Hid (A' = (sA (nums s) - sA ((nums s).drop (k + 1))) % 65536 ∧ B' = (sB (nums s) - sB ((nums s).drop (k + 1))) % 65536) := Lib.hid ⟨by omega, by omega⟩
      clear hA hB dA dB hp hpm hr hA' hB' hb hkl
      go_wp2
      go_roundw
      case rel => exact ⟨k + 1, A', B', by omega, by go_num, rfl, rfl, HF.out.1, HF.out.2, HBB.out⟩
      case measure => simp [intOf]; omega
    · obtain rfl : k = n := by omega
      have t1 : ¬ (k : Int) < (k : Int) := by omega
      have hd : (nums s).drop k = [] := List.drop_eq_nil_of_le (by rw [HN.out]; exact Nat.le_refl _)
      rw [hd] at hA hB
      simp only [sA, sB, Int.sub_zero] at hA hB
      have HV : Hid (rlS (nums s) = 65536 * B + A) := Lib.hid (by unfold rlS; rw [← hA, ← hB])
      have f1 : IntKind.i64.wrap (65536 * B) = 65536 * B := IntWalk.i64_in _ (by omega)
      have f2 : IntKind.i64.wrap (65536 * B + A) = 65536 * B + A := IntWalk.i64_in _ (by omega)
      have f3 : IntKind.u32.wrap (65536 * B + A) = 65536 * B + A := IntWalk.u32_in _ (by omega)
      clear hA hB hd hb
      go_wp2
      go_ret
      exact ⟨by rw [HV.out]; rfl, HBB.out⟩
theorem mod_mod (m : Int) : m % 65536 % 65536 = m % 65536 := by omega
end Go.Proofs.YtnencoainacpoaaDoor

end
section
/-
  Rows of words of 32 bits; a part of a text.
-/
namespace Go.Proofs.YtnencoainacpoaaDoor
open Go.RowKit WM
set_option linter.unusedVariables false
set_option maxRecDepth 20000
def K32 : Kind Int := { n := 1, pos := Nat.one_pos, cs := fun x => [.int .u32 x], d := 0, ok := fun _ _ => True, len := fun _ => rfl, one := fun x u hu => by rw [List.mem_singleton.1 hu]; rfl, below := fun _ _ => trivial }
theorem info32 : (Tryd.prog.info? 79).map (fun i => (i.zero, i.size, i.bytes)) = some (some (.int .u32 0), 1, 4) := by kernel_rfl
theorem row32_cell {w : World} {A : Option Addr} {c : Nat} {xs : List Int} (h : K32.row w A c xs) {i : Nat} (hi : i < xs.length) : ∃ b off, A = some ⟨b, off, none⟩ ∧ b < w.heap.size ∧ w.cell? ⟨b, off + i, none⟩ = some (.int .u32 (xs.getD i 0)) := by
  obtain ⟨b, off, hA, hb, hc⟩ := h.2.2.2.1 (by omega)
  have := hc i hi 0 Nat.one_pos
  refine ⟨b, off, hA, hb, ?_⟩
  rw [show off + i * K32.n + 0 = off + i from by show off + i * 1 + 0 = off + i; omega] at this
  exact this
theorem elem32 : Tryd.prog.elem 109 = 79 := by kernel_rfl
theorem size32W (w : World) : (sizeOf 79).run Tryd.prog w = .ok 1 w := by
  simp [sizeOf, go_sem]
  rfl
theorem ix_32 (b off len cap i : Nat) (h : i < len) (I : Int) (e : I = i) (w : World) : (Instr.indexAt 109 (.slice (some ⟨b, off, none⟩) len cap) (.int .i64 I)).run Tryd.prog w = .ok (.pointer (some ⟨b, off + i, none⟩)) w := by
  subst e
  rw [run_indexAt_slice w 109 _ len cap .i64 i (by rw [elem32]; exact Tryd.underlying109), if_pos (by omega), elem32, size32W]
  simp [Result.andThen, Addr.add_lit]
/-! ### a part of a text -/
theorem nums_extract (s : ByteArray) (i j : Nat) : nums (s.extract i j) = ((nums s).drop i).take (j - i) := by
  unfold nums
  rw [ByteArray.data_extract, Array.toList_extract]
  simp [List.extract, List.map_drop, List.map_take]
theorem sub_str (s : ByteArray) (i j : Nat) (hij : i ≤ j) (hj : j ≤ s.size) (I J : Int) (eI : I = i) (eJ : J = j) (w : World) : (Instr.slice 9 (.string s) (some (.int .i64 I)) (some (.int .i64 J)) none).run Tryd.prog w = .ok (.string (s.extract i j)) w := by
  subst eI
  subst eJ
  have h := run_slice_string (P := Tryd.prog) w 9 s .i64 .i64 (i : Int) (j : Int) Tryd.underlying9 (by omega) (by omega) (by omega)
  simpa using h
theorem extract_size (s : ByteArray) (i j : Nat) (hj : j ≤ s.size) : (s.extract i j).size = j - i := by rw [ByteArray.size_extract]; omega
theorem part_nums (s : ByteArray) (k m : Nat) : nums (s.extract k (k + m)) = ((nums s).drop k).take m := by rw [nums_extract, Nat.add_sub_cancel_left]
end Go.Proofs.YtnencoainacpoaaDoor

end
section
/-
  What the document's own All, and Same of lists of checks, answer. Nothing that was there is written.
-/
namespace Go.Proofs.YtnencoainacpoaaDoor
open Go.RowKit WM
set_option linter.unusedVariables false
set_option maxRecDepth 100000
def RAllPost (w : World) (L : List Int) (e : Ending) (w' : World) : Prop := ∃ A c, e = .returned (.slice A L.length c) ∧ K32.row w' A c L ∧ Below w.heap.size w w'
theorem rall_nil (w : World) : RAllPost w [] (.returned (.slice none 0 0)) w := ⟨none, 0, rfl, Kind.row_nil w none 0 (by decide) (fun _ => rfl), Below.refl _ _⟩
theorem rall_own {w w' : World} {v : Value} {L : List Int} (ho : w'.ownsRow w.heap.size 79 1 v L.length (L.flatMap K32.cs)) (hb : Below w.heap.size w w') : RAllPost w L (.returned v) w' := by
  rcases ho.2 with ⟨rfl, h0⟩ | ⟨g, cap, cur, rfl, _⟩
  · have hn : L = [] := List.eq_nil_of_length_eq_zero h0
    subst hn
    exact ⟨none, 0, rfl, Kind.row_nil _ _ _ (by decide) (fun _ => rfl), hb⟩
  · exact ⟨_, cap, rfl, Kind.row_own (K := K32) ho (fun _ _ => trivial), hb⟩
theorem drop_same {xs ys : List Int} {k : Nat} (h1 : k < xs.length) (h2 : k < ys.length) : (xs.drop k = ys.drop k) ↔ (xs.getD k 0 = ys.getD k 0 ∧ xs.drop (k + 1) = ys.drop (k + 1)) := by
  rw [List.drop_eq_getElem_cons h1, List.drop_eq_getElem_cons h2, List.cons.injEq, List.getD_eq_getElem?_getD, List.getD_eq_getElem?_getD, List.getElem?_eq_getElem h1, List.getElem?_eq_getElem h2]
  rfl
end Go.Proofs.YtnencoainacpoaaDoor

end
section
/-
  What package roll answers: check, Sum, Next. Nothing that was there is written.
-/
namespace Go.Proofs.YtnencoainacpoaaDoor
open Go.RowKit WM
set_option linter.unusedVariables false
set_option maxRecDepth 100000
theorem shl16 (b : Nat) : Op.shift BinOp.shl .u32 (b : Int) .u64 16 = pure (.int .u32 ((b * 65536 % 4294967296 : Nat) : Int)) := by
  rw [shift_shl_any _ _ _ _ (by omega), IntKind.wrap_u32', show IntKind.u32.bits = 32 from rfl]
  congr 2
theorem shr16 (b : Nat) : Op.shift BinOp.shr .u32 (b : Int) .u64 16 = pure (.int .u32 ((b / 65536 : Nat) : Int)) := by
  rw [shift_shr_any _ _ _ _ (by omega), show IntKind.u32.bits = 32 from rfl]
  congr 2
theorem mask16 (a : Nat) (h : a < 4294967296) : bits .and .u32 (a : Int) 65535 = ((a % 65536 : Nat) : Int) := by
  rw [show (65535 : Int) = ((65535 : Nat) : Int) from rfl, u32_and_nat _ _ h (by omega)]
  congr 1
  exact Nat.and_two_pow_sub_one_eq_mod a 16
theorem both16 (a b : Nat) : bits .or .u32 ((b * 65536 % 4294967296 : Nat) : Int) ((a % 65536 : Nat) : Int) = ((65536 * (b % 65536) + a % 65536 : Nat) : Int) := by
  rw [u32_or_nat _ _ (Nat.mod_lt _ (by omega)) (by omega)]
  congr 1
  have e : b * 65536 % 4294967296 = (b % 65536) <<< 16 := by rw [Nat.shiftLeft_eq]; omega
  rw [e, ← Nat.shiftLeft_add_eq_or_of_lt (by omega : a % 65536 < 2 ^ 16), Nat.shiftLeft_eq]
  omega
theorem rlchk_any (a b : Nat) (w : World) (ha : a < 4294967296) : Calls Tryd.prog 69 #[.int .u32 a, .int .u32 b] w fun e w' => e = .returned (.int .u32 ((65536 * (b % 65536) + a % 65536 : Nat) : Int)) ∧ Below w.heap.size w w' := by
  have HB := Lib.hid (Below.refl w.heap.size w)
  have h1 := shl16 b
  have h2 := mask16 a ha
  have h3 := both16 a b
  generalize ((65536 * (b % 65536) + a % 65536 : Nat) : Int) = r at *
  generalize ((b * 65536 % 4294967296 : Nat) : Int) = p at *
  generalize ((a % 65536 : Nat) : Int) = q at *
  clear ha
  go_enter Tryd.func69, Tryd.ntmps69
  go_wp2
  go_ret
  exact ⟨rfl, HB.out⟩
theorem take_sA {zs : List Int} {k : Nat} (h : k < zs.length) : sA (zs.take (k + 1)) = sA (zs.take k) + zs.getD k 0 := by
  rw [List.take_succ_eq_append_getElem h, sA_append, List.getD_eq_getElem?_getD, List.getElem?_eq_getElem h]
  simp [sA]
theorem take_sB {zs : List Int} {k : Nat} (h : k < zs.length) : sB (zs.take (k + 1)) = sB (zs.take k) + sA (zs.take (k + 1)) := by
  rw [take_sA h, List.take_succ_eq_append_getElem h, sB_append, List.getD_eq_getElem?_getD, List.getElem?_eq_getElem h]
  simp [sB]
  omega
theorem u32_nat (x : Int) : ∃ n : Nat, n < 4294967296 ∧ IntKind.u32.wrap x = (n : Int) ∧ (n : Int) = x % 4294967296 := ⟨(x % 4294967296).toNat, by omega, by rw [IntKind.wrap_u32']; omega, by omega⟩
set_option maxHeartbeats 4000000 in
theorem rlsum_any (s : ByteArray) (w : World) (hs : s.size ≤ 1000000) : Calls Tryd.prog 57 #[.string s] w fun e w' => e = .returned (.int .u32 (rlS (nums s))) ∧ Below w.heap.size w w' := by
  have HB := Lib.hid (Below.refl w.heap.size w)
  obtain ⟨n, hn⟩ : ∃ n, n = s.size := ⟨_, rfl⟩
  have HN := Lib.hid (show (nums s).length = n by rw [nums_len, hn])
  have hlen : s.size = n := hn.symm
  clear hn
  go_enter Tryd.func57, Tryd.ntmps57
  go_wp2
  go_loopw [3, 4, 8] (fun a b i wr => ∃ (k A B : Nat), k ≤ n ∧ i = .int .i64 k ∧ a = .int .u32 A ∧ b = .int .u32 B ∧ A < 4294967296 ∧ B < 4294967296 ∧ (A : Int) = (sA ((nums s).take k)) % 4294967296 ∧ (B : Int) = (sB ((nums s).take k)) % 4294967296 ∧ Below w.heap.size w wr) (fun _ _ i _ => n - (intOf i).toNat)
  case atStart => exact ⟨0, 0, 0, Nat.zero_le _, rfl, rfl, rfl, by omega, by omega, by simp [sA], by simp [sB], HB.out⟩
  case round =>
    obtain ⟨k, A, B, hk, rfl, rfl, rfl, hA0, hB0, hA, hB, hb⟩ := hrel
    have HBB := Lib.hid hb
    by_cases hlt : k < n
    · have hkl : k < (nums s).length := by rw [HN.out]; exact hlt
      have t1 : (k : Int) < (n : Int) := by omega
      have hix := ix_strR s k hkl k rfl
      have dA := take_sA hkl
      have dB := take_sB hkl
      have hz := byte_at s k
      generalize (nums s).getD k 0 = z at *
      have f1 : IntKind.u32.wrap z = z := IntWalk.u32_in _ (by omega)
      obtain ⟨A', hA1, f2, hA2⟩ := u32_nat ((A : Int) + z)
      obtain ⟨B', hB1, f3, hB2⟩ := u32_nat ((B : Int) + (A' : Int))
      have HF : Hid ((A' : Int) = (sA ((nums s).take (k + 1))) % 4294967296 ∧ (B' : Int) = (sB ((nums s).take (k + 1))) % 4294967296) := Lib.hid ⟨by omega, by omega⟩
      clear hA hB dA dB hA2 hB2 hb hkl
      go_wp2
      go_roundw
      case rel => exact ⟨k + 1, A', B', by omega, by go_num, rfl, rfl, hA1, hB1, HF.out.1, HF.out.2, HBB.out⟩
      case measure => simp [intOf]; omega
    · obtain rfl : k = n := by omega
      have t1 : ¬ (k : Int) < (k : Int) := by omega
      have hd : (nums s).take k = nums s := List.take_of_length_le (by rw [HN.out]; exact Nat.le_refl _)
      rw [hd] at hA hB
      have HV : Hid (rlS (nums s) = ((65536 * (B % 65536) + A % 65536 : Nat) : Int)) := Lib.hid (by unfold rlS; omega)
      have HC := Lib.hid (fun w => rlchk_any A B w hA0)
      generalize ((65536 * (B % 65536) + A % 65536 : Nat) : Int) = R at HV HC
      clear hA hB hd hb
      go_wp2_with fail
      refine (HC.out _).mono ?_
      rintro e w1 ⟨rfl, hb⟩
      have B1 := Lib.hid (HBB.out.trans (hb.mono HBB.out.size))
      clear hb
      go_wp2
      go_ret
      exact ⟨by rw [HV.out]; rfl, B1.out⟩
end Go.Proofs.YtnencoainacpoaaDoor

end
