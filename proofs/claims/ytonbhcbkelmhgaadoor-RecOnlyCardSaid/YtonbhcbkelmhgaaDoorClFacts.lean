/-
  Cells are ordered: one is less, or they are the same; of three it goes on; so the greater one is the same, whichever are taken first.
-/
import Derived.Test.YtonbhcbkelmhgaaDoorClJoin
namespace Go.Proofs.YtonbhcbkelmhgaaDoor
open Go.RowKit WM
set_option linter.unusedVariables false
theorem lessL_goes : ∀ {xs ys zs : List Int}, lessL xs ys = true → lessL ys zs = true → lessL xs zs = true
  | _, [], _, h, _ => by simp [lessL] at h
  | _, _ :: _, [], _, h => by simp [lessL] at h
  | [], _ :: _, _ :: _, _, _ => rfl
  | x :: xs, y :: ys, z :: zs, h1, h2 => by
    rw [lessL] at h1 h2 ⊢
    simp only [Bool.or_eq_true, Bool.and_eq_true, decide_eq_true_eq, beq_iff_eq] at h1 h2 ⊢
    rcases h1 with h1 | ⟨h1, h1'⟩ <;> rcases h2 with h2 | ⟨h2, h2'⟩
    · exact .inl (by omega)
    · exact .inl (by omega)
    · exact .inl (by omega)
    · exact .inr ⟨by omega, lessL_goes h1' h2'⟩
theorem lessL_not {xs ys : List Int} (h : lessL xs ys = true) : lessL ys xs = false := by
  cases h1 : lessL ys xs
  · rfl
  · have := lessL_goes h h1
    rw [lessL_self] at this
    cases this
theorem lessL_total : ∀ {xs ys : List Int}, lessL xs ys = false → lessL ys xs = false → xs = ys
  | [], [], _, _ => rfl
  | [], _ :: _, h, _ => by simp [lessL] at h
  | _ :: _, [], _, h => by simp [lessL] at h
  | x :: xs, y :: ys, h1, h2 => by
    rw [lessL] at h1 h2
    simp only [Bool.or_eq_false_iff, Bool.and_eq_false_iff, decide_eq_false_iff_not, beq_eq_false_iff_ne] at h1 h2
    obtain ⟨a1, a2⟩ := h1
    obtain ⟨b1, b2⟩ := h2
    have e : x = y := by omega
    subst e
    have c1 : lessL xs ys = false := by
      rcases a2 with h | h
      · exact absurd rfl h
      · exact h
    have c2 : lessL ys xs = false := by
      rcases b2 with h | h
      · exact absurd rfl h
      · exact h
    rw [lessL_total c1 c2]
def CL (a b : Cel) : Prop := (a.n < b.n ∨ a.n = b.n ∧ a.r < b.r) ∨ (a.n = b.n ∧ a.r = b.r) ∧ (lessL (SH.sum (nums a.s)) (SH.sum (nums b.s)) = true ∨ SH.sum (nums a.s) = SH.sum (nums b.s) ∧ lessL (nums a.s) (nums b.s) = true)
theorem cless_iff {a b : Cel} : cless a b = true ↔ CL a b := by
  unfold cless CL
  generalize SH.sum (nums a.s) = S
  generalize SH.sum (nums b.s) = R
  generalize nums a.s = P
  generalize nums b.s = Q
  cases h1 : stLess a.n a.r b.n b.r
  · rw [st_no] at h1
    simp only [Bool.false_eq_true, if_false]
    cases h2 : stLess b.n b.r a.n a.r
    · rw [st_no] at h2
      have e : a.n = b.n ∧ a.r = b.r := by omega
      simp only [Bool.false_eq_true, if_false]
      cases h3 : lessL S R
      · simp only [Bool.false_eq_true, if_false]
        cases h4 : lessL R S
        · have e2 := lessL_total h3 h4
          simp only [Bool.false_eq_true, if_false]
          constructor
          · intro h; exact .inr ⟨e, .inr ⟨e2, h⟩⟩
          · rintro (h | ⟨_, h | ⟨_, h⟩⟩)
            · exact absurd h h1
            · exact absurd h (by simp)
            · exact h
        · simp only [if_true]
          constructor
          · intro h; cases h
          · rintro (h | ⟨_, h | ⟨h, _⟩⟩)
            · exact absurd h h1
            · exact absurd h (by simp)
            · rw [h, lessL_self] at h4; cases h4
      · simp only [if_true, true_iff]
        exact .inr ⟨e, .inl trivial⟩
    · rw [stLess_iff] at h2
      simp only [if_true]
      constructor
      · intro h; cases h
      · rintro (h | ⟨h, _⟩) <;> omega
  · rw [stLess_iff] at h1
    simp only [if_true, true_iff]
    exact .inl h1
theorem cless_goes {a b c : Cel} (h1 : cless a b = true) (h2 : cless b c = true) : cless a c = true := by
  rw [cless_iff] at h1 h2 ⊢
  rcases h1 with h1 | ⟨e1, h1⟩ <;> rcases h2 with h2 | ⟨e2, h2⟩
  · exact .inl (by omega)
  · exact .inl (by omega)
  · exact .inl (by omega)
  · refine .inr ⟨by omega, ?_⟩
    rcases h1 with h1 | ⟨f1, h1⟩ <;> rcases h2 with h2 | ⟨f2, h2⟩
    · exact .inl (lessL_goes h1 h2)
    · rw [← f2]; exact .inl h1
    · rw [f1]; exact .inl h2
    · exact .inr ⟨f1.trans f2, lessL_goes h1 h2⟩
theorem cless_not {a b : Cel} (h : cless a b = true) : cless b a = false := by
  cases h1 : cless b a
  · rfl
  · have := cless_goes h h1
    rw [cless_self] at this
    cases this
theorem nums_inj {s t : ByteArray} (h : nums s = nums t) : s = t := by rw [← str_nums s, ← str_nums t, h]
theorem cless_total {a b : Cel} (h1 : cless a b = false) (h2 : cless b a = false) : a = b := by
  have k1 : ¬ CL a b := fun h => by rw [cless_iff.2 h] at h1; cases h1
  have k2 : ¬ CL b a := fun h => by rw [cless_iff.2 h] at h2; cases h2
  unfold CL at k1 k2
  have e : a.n = b.n ∧ a.r = b.r := by omega
  have e2 : SH.sum (nums a.s) = SH.sum (nums b.s) := by
    refine lessL_total ?_ ?_
    · cases h : lessL (SH.sum (nums a.s)) (SH.sum (nums b.s))
      · rfl
      · exact absurd (.inr ⟨e, .inl h⟩) k1
    · cases h : lessL (SH.sum (nums b.s)) (SH.sum (nums a.s))
      · rfl
      · exact absurd (.inr ⟨⟨e.1.symm, e.2.symm⟩, .inl h⟩) k2
  have e3 : nums a.s = nums b.s := by
    refine lessL_total ?_ ?_
    · cases h : lessL (nums a.s) (nums b.s)
      · rfl
      · exact absurd (.inr ⟨e, .inr ⟨e2, h⟩⟩) k1
    · cases h : lessL (nums b.s) (nums a.s)
      · rfl
      · exact absurd (.inr ⟨⟨e.1.symm, e.2.symm⟩, .inr ⟨e2.symm, h⟩⟩) k2
  have e4 := nums_inj e3
  clear h1 h2 k1 k2 e2 e3
  obtain ⟨n, r, s⟩ := a
  obtain ⟨m, q, t⟩ := b
  obtain ⟨h1, h2⟩ := e
  dsimp only at h1 h2 e4
  rw [h1, h2, e4]
theorem cless_ne {a b : Cel} (h : cless a b = true) : ¬ a = b := fun e => by rw [e, cless_self] at h; cases h
theorem cjoin_yes {a b : Cel} (h : cless a b = true) : cjoin a b = b := by rw [cjoin, if_pos h]
theorem cjoin_no {a b : Cel} (h : cless a b = false) : cjoin a b = a := by rw [cjoin, if_neg (by rw [h]; decide)]
theorem cjoin_self (a : Cel) : cjoin a a = a := cjoin_no (cless_self a)
theorem cjoin_comm (a b : Cel) : cjoin b a = cjoin a b := by
  cases h1 : cless a b
  · cases h2 : cless b a
    · rw [cless_total h1 h2]
    · rw [cjoin_no h1, cjoin_yes h2]
  · rw [cjoin_yes h1, cjoin_no (cless_not h1)]
theorem cjoin_assoc (a b c : Cel) : cjoin a (cjoin b c) = cjoin (cjoin a b) c := by
  cases h1 : cless a b
  · cases h2 : cless b c
    · rw [cjoin_no h2, cjoin_no h1]
      cases h3 : cless a c
      · rw [cjoin_no h3]
      · rw [cjoin_yes h3]
        cases h4 : cless b a
        · rw [cless_total h1 h4] at h3; rw [h2] at h3; cases h3
        · rw [cless_goes h4 h3] at h2; cases h2
    · rw [cjoin_yes h2, cjoin_no h1]
  · rw [cjoin_yes h1]
    cases h2 : cless b c
    · rw [cjoin_no h2, cjoin_yes h1]
    · rw [cjoin_yes h2, cjoin_yes (cless_goes h1 h2)]
end Go.Proofs.YtonbhcbkelmhgaaDoor
