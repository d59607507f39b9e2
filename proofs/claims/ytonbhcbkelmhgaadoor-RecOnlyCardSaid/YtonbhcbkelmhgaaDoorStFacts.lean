/-
  Facts on stamps for the layers above: their order, the greater one, what is put is got. Nothing that was there is written by any call named here.
-/
import Derived.Test.YtonbhcbkelmhgaaDoorStPut
namespace Go.Proofs.YtonbhcbkelmhgaaDoor
open Go.RowKit WM
set_option linter.unusedVariables false
/-- The greater one of two stamps, as numbers. -/
def mx (a b : Int × Int) : Int × Int := if stLess a.1 a.2 b.1 b.2 then b else a
theorem stLess_iff {n r m s : Int} : stLess n r m s = true ↔ (n < m ∨ n = m ∧ r < s) := by rw [stLess, decide_eq_true_iff]
theorem mx_is (a b : Int × Int) : (stLess a.1 a.2 b.1 b.2 = true ∧ mx a b = b) ∨ (stLess a.1 a.2 b.1 b.2 = false ∧ mx a b = a) := by
  unfold mx
  cases h : stLess a.1 a.2 b.1 b.2
  · exact .inr ⟨rfl, by simp⟩
  · exact .inl ⟨rfl, by simp⟩
theorem st_no {n r m s : Int} : stLess n r m s = false ↔ ¬ (n < m ∨ n = m ∧ r < s) := by rw [stLess, decide_eq_false_iff_not]
theorem mx_comm (a b : Int × Int) : mx b a = mx a b := by
  rcases mx_is a b with ⟨h1, e1⟩ | ⟨h1, e1⟩ <;> rcases mx_is b a with ⟨h2, e2⟩ | ⟨h2, e2⟩ <;> rw [e1, e2] <;> simp only [stLess_iff, st_no] at h1 h2
  · exact Prod.ext (by omega) (by omega)
  · exact Prod.ext (by omega) (by omega)
theorem mx_assoc (a b c : Int × Int) : mx a (mx b c) = mx (mx a b) c := by
  rcases mx_is a b with ⟨h1, e1⟩ | ⟨h1, e1⟩ <;> rcases mx_is b c with ⟨h2, e2⟩ | ⟨h2, e2⟩ <;> rw [e1, e2]
  · rcases mx_is a c with ⟨h3, e3⟩ | ⟨h3, e3⟩
    · exact e3
    · exfalso; simp only [stLess_iff, st_no] at h1 h2 h3; omega
  · exact e1
  · rcases mx_is a c with ⟨h3, e3⟩ | ⟨h3, e3⟩ <;> rw [e1, e3]
    exfalso; simp only [stLess_iff, st_no] at h1 h2 h3; omega
theorem mx_self (a : Int × Int) : mx a a = a := by rcases mx_is a a with ⟨_, e⟩ | ⟨_, e⟩ <;> exact e
theorem mx_no1 (a b c : Int × Int) : stLess (mx (mx a b) c).1 (mx (mx a b) c).2 a.1 a.2 = false := by
  rw [st_no]
  rcases mx_is a b with ⟨h1, e1⟩ | ⟨h1, e1⟩ <;> rw [e1]
  · rcases mx_is b c with ⟨h2, e2⟩ | ⟨h2, e2⟩ <;> rw [e2] <;> simp only [stLess_iff, st_no] at h1 h2 <;> omega
  · rcases mx_is a c with ⟨h2, e2⟩ | ⟨h2, e2⟩ <;> rw [e2] <;> simp only [stLess_iff, st_no] at h1 h2 <;> omega
theorem mx_no2 (a c : Int × Int) : stLess (mx a c).1 (mx a c).2 c.1 c.2 = false := by
  rw [st_no]
  rcases mx_is a c with ⟨h2, e2⟩ | ⟨h2, e2⟩ <;> rw [e2] <;> simp only [stLess_iff, st_no] at h2 <;> omega
/-- Two stamps that are not the same. -/
theorem st_ne {n r m s : Int} (h : ¬ (n = m ∧ r = s)) (w : World) : (Op.equalIn 10000 23 (.agg #[.int .i64 n, .int .i64 r]) (.agg #[.int .i64 m, .int .i64 s])).run Tryd.prog w = .ok false w := by
  by_cases h1 : n = m
  · have h2 : ¬ r = s := fun e => h ⟨h1, e⟩
    subst h1
    go_simp
  · go_simp
theorem stPut_yes (n r : Int) (w : World) (h : may n r = true) : Calls Tryd.prog 39 #[st n r] w (GivesT w (enc (n * 8 + r))) := by
  have := stPut_any n r w
  unfold StPutPost at this
  rw [h] at this
  exact this
theorem stGet_put {n r : Int} (t : List Int) (h : may n r = true) : stGet (enc (n * 8 + r) ++ t) = some (n, r, (enc (n * 8 + r)).length) := by
  have hm := may_iff.1 h
  unfold stGet
  rw [dec_enc _ _ (by omega) (by omega)]
  simp only
  rw [show (n * 8 + r) / 8 = n by omega, show (n * 8 + r) % 8 = r by omega, h]
  rfl
theorem stGet_some {zs : List Int} {n r : Int} {k : Nat} (hb : AllBytes zs) (h : stGet zs = some (n, r, k)) : may n r = true ∧ k ≤ zs.length ∧ enc (n * 8 + r) = zs.take k := by
  unfold stGet at h
  split at h
  · cases h
  · rename_i x j hd
    obtain ⟨d1, d2, d3, d4, d5⟩ := dec_some hb hd
    split at h
    · rename_i hm
      simp only [Option.some.injEq, Prod.mk.injEq] at h
      obtain ⟨rfl, rfl, rfl⟩ := h
      exact ⟨hm, d2, by rw [show x / 8 * 8 + x % 8 = x by omega]; exact d3⟩
    · cases h
theorem st_order {n r m s : Int} (h1 : may n r = true) (h2 : may m s = true) : stLess n r m s = decide (n * 8 + r < m * 8 + s) := by
  have a := may_iff.1 h1
  have b := may_iff.1 h2
  rw [stLess, decide_eq_decide]
  omega
theorem putPost_any {w : World} {n r : Int} (e : Ending) (w' : World) (h : StPutPost w n r e w') : ∃ v z, e = .returned (.tuple #[v, .bool z]) ∧ Below w.heap.size w w' := by
  unfold StPutPost at h
  split at h
  · obtain ⟨A, n, c, rfl, _, _, _, _, hb⟩ := h
    exact ⟨_, _, rfl, hb⟩
  · obtain ⟨rfl, hb⟩ := h
    exact ⟨_, _, rfl, hb⟩
end Go.Proofs.YtonbhcbkelmhgaaDoor
