/-
  The order of numbers' bytes: a greater number has no fewer, and, of as many, greater ones. No program is named here.
-/
import Derived.Test.YtomlckefkamdgaaTexts
namespace Go.Proofs.Ytomlckefkamdgaa
open Go.RowKit WM
set_option linter.unusedVariables false
theorem encH_len_mono : ∀ (f : Nat) {m k : Int}, 0 ≤ m → m ≤ k → (encH f m).length ≤ (encH f k).length
  | 0, m, k, _, _ => by simp [encH]
  | f + 1, m, k, h0, h => by
    by_cases hm : m = 0
    · subst hm; simp [encH_zero]
    · have := encH_len_mono f (m := m / 128) (k := k / 128) (by omega) (by omega)
      rw [encH, if_neg hm, encH, if_neg (by omega), List.length_append, List.length_append]
      simpa using this
theorem encH_lex : ∀ (f : Nat) {m k : Int}, 0 ≤ m → m < k → k < 128 ^ f → (encH f m).length = (encH f k).length → lessL (encH f m) (encH f k) = true
  | 0, m, k, h0, h, hk, _ => by simp at hk; omega
  | f + 1, m, k, h0, h, hk, hl => by
    by_cases hm : m = 0
    · subst hm
      rw [encH_zero, encH, if_neg (by omega)] at hl
      simp at hl
    · rw [encH, if_neg hm, encH, if_neg (by omega)] at hl ⊢
      have hl' : (encH f (m / 128)).length = (encH f (k / 128)).length := by simpa using hl
      by_cases he : m / 128 = k / 128
      · rw [he, lessL_pre]
        simp [lessL]
        omega
      · exact lessL_more _ _ hl' (encH_lex f (by omega) (by omega) (by rw [Int.pow_succ] at hk; omega) hl')
theorem enc_len_mono {n m : Int} (h0 : 0 ≤ n) (h : n ≤ m) : (enc n).length ≤ (enc m).length := by
  have := encH_len_mono 9 (m := n / 128) (k := m / 128) (by omega) (by omega)
  unfold enc
  simpa using this
theorem enc_lex {n m : Int} (h0 : 0 ≤ n) (h : n < m) (hm : m ≤ 18446744073709551615) (hl : (enc n).length = (enc m).length) : lessL (enc n) (enc m) = true := by
  unfold enc at hl ⊢
  have hl' : (encH 9 (n / 128)).length = (encH 9 (m / 128)).length := by simpa using hl
  by_cases he : n / 128 = m / 128
  · rw [he, lessL_pre]
    simp [lessL]
    omega
  · exact lessL_more _ _ hl' (encH_lex 9 (by omega) (by omega) (by omega) hl')
theorem lessL_no : ∀ xs : List Int, lessL xs xs = false
  | [] => rfl
  | x :: xs => by rw [lessL, lessL_no xs]; simp
theorem lessL_asym : ∀ {xs ys : List Int}, lessL xs ys = true → lessL ys xs = false
  | _, [], h => by simp [lessL] at h
  | [], _ :: _, _ => rfl
  | x :: xs, y :: ys, h => by
    rw [lessL] at h ⊢
    simp only [Bool.or_eq_true, Bool.and_eq_true, decide_eq_true_eq, beq_iff_eq] at h
    rcases h with h | ⟨h, h2⟩
    · have h1 : ¬ y < x := by omega
      have h2 : ¬ y = x := by omega
      simp [h1, h2]
    · subst h
      simp [lessL_asym h2]
/-- Fewer bytes, or as many and lesser ones: just if the number is less. -/
theorem enc_order {n m : Int} (h0 : 0 ≤ n) (h1 : 0 ≤ m) (hn : n ≤ 18446744073709551615) (hm : m ≤ 18446744073709551615) :
    (decide ((enc n).length < (enc m).length) || (decide ((enc n).length = (enc m).length) && lessL (enc n) (enc m))) = decide (n < m) := by
  rcases Int.lt_trichotomy n m with h | h | h
  · rw [decide_eq_true h]
    have := enc_len_mono h0 (Int.le_of_lt h)
    by_cases hl : (enc n).length = (enc m).length
    · rw [enc_lex h0 h hm hl]; simp [hl]
    · have : (enc n).length < (enc m).length := by omega
      simp [this]
  · subst h; simp [lessL_no]
  · have h2 : ¬ n < m := by omega
    rw [decide_eq_false h2]
    have := enc_len_mono h1 (Int.le_of_lt h)
    have h3 : ¬ (enc n).length < (enc m).length := by omega
    by_cases hl : (enc n).length = (enc m).length
    · rw [lessL_asym (enc_lex h1 h hn hl.symm)]; simp [h3]
    · simp [h3, hl]
end Go.Proofs.Ytomlckefkamdgaa
