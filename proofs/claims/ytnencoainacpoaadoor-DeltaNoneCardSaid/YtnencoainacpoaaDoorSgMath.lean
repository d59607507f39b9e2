import Derived.Test.YtnencoainacpoaaDoorRlMath
import Derived.Test.YtnencoainacpoaaDoorGShaA
/-
  What a long value is like, as lists of numbers. No walk.
-/
namespace Go.Proofs.YtnencoainacpoaaDoor
open Go.RowKit WM
set_option linter.unusedVariables false
/-- A block's check and digest. -/
structure Sg where
  wk : Int
  ds : List Int
deriving DecidableEq
def sg0 : Sg := ⟨0, []⟩
def Sg.Ok (x : Sg) : Prop := 0 ≤ x.wk ∧ x.wk ≤ 4294967295 ∧ x.ds.length = 32 ∧ AllBytes x.ds
def sgOne (zs : List Int) : Sg := ⟨rlS zs, SH.sum zs⟩
theorem sgOne_ok (zs : List Int) : (sgOne zs).Ok := ⟨(rlS_range zs).1, (rlS_range zs).2, SH.sum_len zs, SH.sum_bytes zs⟩
/-- All blocks. -/
def sgOf (zs : List Int) : List Sg := if zs.length < 24 then [] else (List.range (zs.length / 8)).map fun k => sgOne ((zs.drop (8 * k)).take 8)
theorem sgOf_none {zs : List Int} (h : zs.length < 24) : sgOf zs = [] := if_pos h
theorem sgOf_some {zs : List Int} (h : ¬ zs.length < 24) : sgOf zs = (List.range (zs.length / 8)).map fun k => sgOne ((zs.drop (8 * k)).take 8) := if_neg h
theorem sgOf_len {zs : List Int} (h : ¬ zs.length < 24) : (sgOf zs).length = zs.length / 8 := by rw [sgOf_some h, List.length_map, List.length_range]
theorem sgOf_at {zs : List Int} (h : ¬ zs.length < 24) {k : Nat} (hk : k < zs.length / 8) : (sgOf zs).getD k sg0 = sgOne ((zs.drop (8 * k)).take 8) := by
  rw [sgOf_some h, List.getD_eq_getElem?_getD, List.getElem?_map, List.getElem?_range hk]
  rfl
theorem sgOf_le (zs : List Int) : (sgOf zs).length ≤ zs.length / 8 := by
  by_cases h : zs.length < 24
  · rw [sgOf_none h]; simp
  · rw [sgOf_len h]; omega
theorem sgOf_ok (zs : List Int) : ∀ x ∈ sgOf zs, x.Ok := fun x hx => by
  unfold sgOf at hx
  split at hx
  · cases hx
  · obtain ⟨k, _, rfl⟩ := List.mem_map.1 hx
    exact sgOne_ok _
/-- The place of the first one, counted from k on. -/
def sgFrom (x : Sg) : Nat → List Sg → Int
  | _, [] => -1
  | k, y :: ys => if y = x then k else sgFrom x (k + 1) ys
def sgFind (l : List Sg) (zs : List Int) : Int := if zs.length = 8 then sgFrom (sgOne zs) 0 l else -1
theorem sgFrom_cases (x : Sg) : ∀ (l : List Sg) (k : Nat), (sgFrom x k l = -1 ∧ x ∉ l) ∨ ∃ i, i < l.length ∧ sgFrom x k l = ((k + i : Nat) : Int) ∧ l.getD i sg0 = x ∧ x ∉ l.take i
  | [], k => .inl ⟨rfl, by simp⟩
  | y :: ys, k => by
    by_cases h : y = x
    · exact .inr ⟨0, by simp, by simp [sgFrom, h], by simpa using h, by simp⟩
    · rcases sgFrom_cases x ys (k + 1) with ⟨h1, h2⟩ | ⟨i, h1, h2, h3, h4⟩
      · exact .inl ⟨by simp [sgFrom, h, h1], by simp [h2, Ne.symm h]⟩
      · refine .inr ⟨i + 1, by simpa using h1, ?_, by simpa using h3, ?_⟩
        · simp only [sgFrom, h, if_false, h2]
          omega
        · simp [List.take_succ_cons, h4, Ne.symm h]
theorem sgFrom_none {x : Sg} {l : List Sg} {k : Nat} (h : x ∉ l) : sgFrom x k l = -1 := by
  rcases sgFrom_cases x l k with ⟨h1, _⟩ | ⟨i, h1, _, h3, _⟩
  · exact h1
  · exfalso
    apply h
    rw [List.getD_eq_getElem?_getD, List.getElem?_eq_getElem h1] at h3
    have h3 : l[i] = x := h3
    rw [← h3]
    exact List.getElem_mem h1
theorem sgFrom_found {x : Sg} {l : List Sg} {i : Nat} (hi : i < l.length) (h : l.getD i sg0 = x) : ∃ j, j ≤ i ∧ sgFrom x 0 l = (j : Int) ∧ l.getD j sg0 = x := by
  rcases sgFrom_cases x l 0 with ⟨_, h1⟩ | ⟨j, h1, h2, h3, h4⟩
  · exfalso
    apply h1
    rw [List.getD_eq_getElem?_getD, List.getElem?_eq_getElem hi] at h
    have h : l[i] = x := h
    rw [← h]
    exact List.getElem_mem hi
  · refine ⟨j, ?_, by rw [h2]; omega, h3⟩
    rcases Nat.lt_or_ge i j with hij | hij
    · exfalso
      apply h4
      rw [List.getD_eq_getElem?_getD, List.getElem?_eq_getElem hi] at h
      have h : l[i] = x := h
      rw [← h]
      exact List.mem_take_iff_getElem.2 ⟨i, by omega, rfl⟩
    · exact hij
theorem sgFrom_step {x : Sg} {l : List Sg} {k : Nat} (hk : k < l.length) : sgFrom x k (l.drop k) = if l.getD k sg0 = x then (k : Int) else sgFrom x (k + 1) (l.drop (k + 1)) := by
  rw [List.drop_eq_getElem_cons hk, List.getD_eq_getElem?_getD, List.getElem?_eq_getElem hk]
  rfl
/-! ### what follows -/
/-- The blocks of two texts, one behind the other. -/
theorem sgOf_append {xs ys : List Int} (h1 : ¬ xs.length < 24) (h2 : ¬ ys.length < 24) (h8 : xs.length % 8 = 0) : sgOf (xs ++ ys) = sgOf xs ++ sgOf ys := by
  obtain ⟨q, hq⟩ : ∃ q, xs.length = 8 * q := ⟨xs.length / 8, by omega⟩
  have hl : (xs ++ ys).length = 8 * q + ys.length := by rw [List.length_append, hq]
  rw [sgOf_some (by rw [hl]; omega), sgOf_some h1, sgOf_some h2]
  have e1 : (xs ++ ys).length / 8 = q + ys.length / 8 := by rw [hl]; omega
  have e2 : xs.length / 8 = q := by omega
  rw [e1, e2, List.range_add, List.map_append, List.map_map]
  congr 1
  · refine List.map_congr_left fun k hk => ?_
    have hk := List.mem_range.1 hk
    rw [List.drop_append_of_le_length (by omega), List.take_append_of_le_length (by rw [List.length_drop]; omega)]
  · refine List.map_congr_left fun k hk => ?_
    simp only [Function.comp]
    rw [List.drop_append, List.drop_eq_nil_of_le (by omega), List.nil_append]
    congr 3
    omega
end Go.Proofs.YtnencoainacpoaaDoor

