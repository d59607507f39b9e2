import Derived.Test.YtnencoainacpoaaDoorGBase
/-
  Rolling checks, as numbers. No walk.
-/
namespace Go.Proofs.YtnencoainacpoaaDoor
open Go.RowKit WM
set_option linter.unusedVariables false
/-- All bytes together. -/
def sA : List Int → Int
  | [] => 0
  | z :: zs => z + sA zs
/-- So many times the first one, and so on to once the last one. -/
def sB : List Int → Int
  | [] => 0
  | z :: zs => ((zs.length : Int) + 1) * z + sB zs
theorem sA_append (xs ys : List Int) : sA (xs ++ ys) = sA xs + sA ys := by
  induction xs with
  | nil => simp [sA]
  | cons x xs ih => simp only [List.cons_append, sA, ih]; omega
theorem sB_append (xs ys : List Int) : sB (xs ++ ys) = sB xs + ys.length * sA xs + sB ys := by
  induction xs with
  | nil => simp [sA, sB]
  | cons x xs ih =>
    simp only [List.cons_append, sA, sB, ih, List.length_append, Int.natCast_add]
    grind
/-- A check. -/
def rlS (zs : List Int) : Int := 65536 * (sB zs % 65536) + sA zs % 65536
theorem rlS_range (zs : List Int) : 0 ≤ rlS zs ∧ rlS zs ≤ 4294967295 := by unfold rlS; omega
theorem rlS_lo (zs : List Int) : rlS zs % 65536 = sA zs % 65536 := by unfold rlS; omega
theorem rlS_hi (zs : List Int) : rlS zs / 65536 = sB zs % 65536 := by unfold rlS; omega
theorem rlS_nil : rlS [] = 0 := rfl
/-- The next one. -/
def rlN (sum many o i : Int) : Int := 65536 * ((sum / 65536 - many * o + (sum % 65536 - o + i) % 65536) % 65536) + (sum % 65536 - o + i) % 65536
theorem rlN_range (sum many o i : Int) : 0 ≤ rlN sum many o i ∧ rlN sum many o i ≤ 4294967295 := by unfold rlN; omega
/-- All of so many bytes each. -/
def rlA (zs : List Int) (m : Int) : List Int := if m < 1 ∨ (zs.length : Int) < m then [] else (List.range (zs.length - m.toNat + 1)).map fun k => rlS ((zs.drop k).take m.toNat)
theorem rlA_none {zs : List Int} {m : Int} (h : m < 1 ∨ (zs.length : Int) < m) : rlA zs m = [] := if_pos h
theorem rlA_some {zs : List Int} {m : Nat} (h1 : 1 ≤ m) (h2 : m ≤ zs.length) : rlA zs m = (List.range (zs.length - m + 1)).map fun k => rlS ((zs.drop k).take m) := by
  unfold rlA
  rw [if_neg (by omega), Int.toNat_natCast]
theorem rlA_len {zs : List Int} {m : Nat} (h1 : 1 ≤ m) (h2 : m ≤ zs.length) : (rlA zs m).length = zs.length - m + 1 := by rw [rlA_some h1 h2, List.length_map, List.length_range]
theorem rlA_at {zs : List Int} {m : Nat} (h1 : 1 ≤ m) (h2 : m ≤ zs.length) {k : Nat} (hk : k + m ≤ zs.length) : (rlA zs m).getD k 0 = rlS ((zs.drop k).take m) := by
  rw [rlA_some h1 h2, List.getD_eq_getElem?_getD, List.getElem?_map, List.getElem?_range (by omega)]
  rfl
theorem rlA_range {zs : List Int} {m : Int} : ∀ n ∈ rlA zs m, 0 ≤ n ∧ n ≤ 4294967295 := fun n hn => by
  unfold rlA at hn
  split at hn
  · cases hn
  · obtain ⟨k, _, rfl⟩ := List.mem_map.1 hn
    exact rlS_range _
/-! ### what follows -/
theorem next_step (x y : Int) (ys : List Int) : rlN (rlS (x :: ys)) ((ys.length : Int) + 1) x y = rlS (ys ++ [y]) := by
  unfold rlN
  rw [rlS_lo, rlS_hi]
  have hA : sA (ys ++ [y]) = sA ys + y := by rw [sA_append]; simp [sA]
  have hB : sB (ys ++ [y]) = sB ys + sA ys + y := by rw [sB_append]; simp [sB]
  unfold rlS
  rw [hA, hB, sA, sB]
  generalize ((ys.length : Int) + 1) * x = p
  omega
theorem part_cons {zs : List Int} {k m : Nat} (hm : 1 ≤ m) (hk : k + m < zs.length) : ∃ ys : List Int, (zs.drop k).take m = zs.getD k 0 :: ys ∧ ys.length + 1 = m ∧ (zs.drop (k + 1)).take m = ys ++ [zs.getD (k + m) 0] := by
  refine ⟨(zs.drop (k + 1)).take (m - 1), ?_, ?_, ?_⟩
  · obtain ⟨m', rfl⟩ : ∃ m', m = m' + 1 := ⟨m - 1, by omega⟩
    rw [List.drop_eq_getElem_cons (show k < zs.length by omega), List.take_succ_cons, List.getD_eq_getElem?_getD, List.getElem?_eq_getElem (show k < zs.length by omega)]
    rfl
  · rw [List.length_take, List.length_drop]; omega
  · obtain ⟨m', rfl⟩ : ∃ m', m = m' + 1 := ⟨m - 1, by omega⟩
    rw [List.take_succ_eq_append_getElem (by rw [List.length_drop]; omega), List.getElem_drop, List.getD_eq_getElem?_getD, List.getElem?_eq_getElem (show k + (m' + 1) < zs.length by omega)]
    simp only [Nat.add_sub_cancel, Option.getD_some]
    congr 2
    congr 1
    omega
theorem next_part {zs : List Int} {k m : Nat} (hm : 1 ≤ m) (hk : k + m < zs.length) : rlN (rlS ((zs.drop k).take m)) (m : Int) (zs.getD k 0) (zs.getD (k + m) 0) = rlS ((zs.drop (k + 1)).take m) := by
  obtain ⟨ys, h1, h2, h3⟩ := part_cons hm hk
  rw [h1, h3, ← next_step]
  congr 1
  omega
theorem join_sum (xs ys : List Int) : rlS (xs ++ ys) = 65536 * ((rlS xs / 65536 + rlS ys / 65536 + (ys.length : Int) * (rlS xs % 65536)) % 65536) + (rlS xs % 65536 + rlS ys % 65536) % 65536 := by
  rw [rlS_lo, rlS_lo, rlS_hi, rlS_hi]
  unfold rlS
  rw [sA_append, sB_append]
  have h : ((ys.length : Int) * (sA xs % 65536)) % 65536 = ((ys.length : Int) * sA xs) % 65536 := by
    rw [Int.mul_emod, Int.emod_emod_of_dvd _ (Int.dvd_refl _), ← Int.mul_emod]
  generalize (ys.length : Int) * (sA xs % 65536) = p at *
  generalize (ys.length : Int) * sA xs = q at *
  omega
theorem one_sum {a : Int} (h0 : 0 ≤ a) (h1 : a ≤ 255) : rlS [a] = 65537 * a := by
  unfold rlS
  simp only [sA, sB, List.length_nil, Int.natCast_zero]
  omega
theorem back_one {a b : Int} : rlN (rlS [a]) 1 a b = rlS [b] := by
  have h := next_step a b []
  simpa using h
theorem sA_set (v : Int) : ∀ (zs : List Int) {i : Nat}, i < zs.length → sA (zs.set i v) = sA zs - zs.getD i 0 + v
  | z :: zs, 0, _ => by simp [sA]; omega
  | z :: zs, i + 1, h => by
    have := sA_set v zs (i := i) (by simpa using h)
    simp only [List.set_cons_succ, sA, this, List.getD_cons_succ]
    omega
theorem sB_set (v : Int) : ∀ (zs : List Int) {i : Nat}, i < zs.length → sB (zs.set i v) = sB zs + ((zs.length : Int) - i) * (v - zs.getD i 0)
  | z :: zs, 0, _ => by
    simp only [List.set_cons_zero, sB, List.length_cons, List.getD_cons_zero, Int.natCast_add, Int.natCast_one, Int.natCast_zero]
    grind
  | z :: zs, i + 1, h => by
    have := sB_set v zs (i := i) (by simpa using h)
    simp only [List.set_cons_succ, sB, this, List.getD_cons_succ, List.length_set, List.length_cons, Int.natCast_add, Int.natCast_one]
    grind
/-- Two bytes changed about. -/
theorem swap_sums {zs : List Int} {i k : Nat} (hik : i < k) (hk : k < zs.length) :
    sA ((zs.set i (zs.getD k 0)).set k (zs.getD i 0)) = sA zs ∧ sB ((zs.set i (zs.getD k 0)).set k (zs.getD i 0)) = sB zs - ((k : Int) - i) * (zs.getD i 0 - zs.getD k 0) := by
  have hg : (zs.set i (zs.getD k 0)).getD k 0 = zs.getD k 0 := by
    rw [List.getD_eq_getElem?_getD, List.getElem?_set_ne (by omega), ← List.getD_eq_getElem?_getD]
  constructor
  · rw [sA_set _ _ (by rw [List.length_set]; exact hk), hg, sA_set _ _ (by omega)]
    omega
  · rw [sB_set _ _ (by rw [List.length_set]; exact hk), hg, sB_set _ _ (by omega), List.length_set]
    grind
theorem swap_lo {zs : List Int} {i k : Nat} (hik : i < k) (hk : k < zs.length) : rlS ((zs.set i (zs.getD k 0)).set k (zs.getD i 0)) % 65536 = rlS zs % 65536 := by
  rw [rlS_lo, rlS_lo, (swap_sums hik hk).1]
theorem swap_eq {zs : List Int} {i k : Nat} (hik : i < k) (hk : k < zs.length) : rlS zs = rlS ((zs.set i (zs.getD k 0)).set k (zs.getD i 0)) ↔ (((k : Int) - i) * (zs.getD i 0 - zs.getD k 0)) % 65536 = 0 := by
  obtain ⟨h1, h2⟩ := swap_sums hik hk
  unfold rlS
  rw [h1, h2]
  generalize ((k : Int) - i) * (zs.getD i 0 - zs.getD k 0) = p
  omega
end Go.Proofs.YtnencoainacpoaaDoor

