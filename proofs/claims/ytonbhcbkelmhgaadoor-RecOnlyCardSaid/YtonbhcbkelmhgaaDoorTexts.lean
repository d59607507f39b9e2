/-
  Texts of bytes, compared: equal, and less, as the lists of their bytes are.
-/
import Derived.Test.YtonbhcbkelmhgaaDoorWords
import Derived.Laws.Cover1
namespace Go.Proofs.YtonbhcbkelmhgaaDoor
open Go.RowKit WM
theorem toList_loop (b : ByteArray) : ∀ (k i : Nat) (r : List UInt8), b.size - i = k → ByteArray.toList.loop b i r = r.reverse ++ b.data.toList.drop i
  | 0, i, r, h => by
    rw [ByteArray.toList.loop, if_neg (by omega), List.drop_eq_nil_of_le (by rw [Array.length_toList]; show b.size ≤ i; omega), List.append_nil]
  | k + 1, i, r, h => by
    have hi : i < b.size := by omega
    have hi' : i < b.data.toList.length := by rw [Array.length_toList]; exact hi
    rw [ByteArray.toList.loop, if_pos hi, toList_loop b k (i + 1) _ (by omega), List.drop_eq_getElem_cons hi']
    simp [ByteArray.get!, getElem!_pos b.data i hi]
theorem toList_data (b : ByteArray) : b.toList = b.data.toList := by
  rw [ByteArray.toList, toList_loop b _ 0 [] rfl]
  simp
theorem str_toList (xs : List Int) : (strOfNums xs).toList = xs.map fun n => UInt8.ofNat n.toNat := by rw [toList_data, strOfNums_data]
theorem str_same (xs : List Int) : ((strOfNums xs).toList == (strOfNums xs).toList) = true := by simp
theorem str_eq {xs ys : List Int} (hx : AllBytes xs) (hy : AllBytes ys) : ((strOfNums xs).toList == (strOfNums ys).toList) = decide (xs = ys) := by
  by_cases h : xs = ys
  · subst h; simp
  · rw [decide_eq_false h]
    rw [beq_eq_false_iff_ne]
    intro e
    refine h ((strOfNums_inj hx hy).1 ?_)
    rw [toList_data, toList_data] at e
    unfold strOfNums at e ⊢
    simpa using e
/-- Bytes, the lesser ones ahead. -/
def lessL : List Int → List Int → Bool
  | _, [] => false
  | [], _ :: _ => true
  | a :: x, b :: y => decide (a < b) || (a == b && lessL x y)
theorem str_less : ∀ {xs ys : List Int}, AllBytes xs → AllBytes ys → Op.bytesLess (strOfNums xs).toList (strOfNums ys).toList = lessL xs ys := by
  intro xs ys hx hy
  rw [str_toList, str_toList]
  induction xs generalizing ys with
  | nil => cases ys <;> simp [Op.bytesLess, lessL]
  | cons x xs ih => cases ys with
    | nil => simp [Op.bytesLess, lessL]
    | cons y ys =>
      have a := hx x (by simp)
      have b := hy y (by simp)
      rw [List.map_cons, List.map_cons, Op.bytesLess, lessL, ih (fun z hz => hx z (by simp [hz])) (fun z hz => hy z (by simp [hz]))]
      have e1 : (UInt8.ofNat x.toNat < UInt8.ofNat y.toNat) ↔ x < y := by
        rw [UInt8.lt_iff_toNat_lt, UInt8.toNat_ofNat', UInt8.toNat_ofNat']; omega
      have e2 : (UInt8.ofNat x.toNat = UInt8.ofNat y.toNat) ↔ x = y := by
        rw [← UInt8.toNat_inj, UInt8.toNat_ofNat', UInt8.toNat_ofNat']; omega
      have e3 : (UInt8.ofNat x.toNat == UInt8.ofNat y.toNat) = (x == y) := by
        rw [Bool.eq_iff_iff]; simp only [beq_iff_eq]; exact e2
      rw [e3, decide_eq_decide.2 e1]
theorem lessL_pre (p xs ys : List Int) : lessL (p ++ xs) (p ++ ys) = lessL xs ys := by
  induction p with
  | nil => rfl
  | cons a p ih => rw [List.cons_append, List.cons_append, lessL, ih]; simp
theorem lessL_more : ∀ {xs ys : List Int} (as bs : List Int), xs.length = ys.length → lessL xs ys = true → lessL (xs ++ as) (ys ++ bs) = true
  | xs, [], as, bs, hl, h => by cases xs <;> simp [lessL] at h
  | [], y :: ys, as, bs, hl, h => by simp at hl
  | x :: xs, y :: ys, as, bs, hl, h => by
    rw [lessL] at h
    rw [List.cons_append, List.cons_append, lessL]
    simp only [Bool.or_eq_true, Bool.and_eq_true, decide_eq_true_eq, beq_iff_eq] at h ⊢
    rcases h with h | ⟨h, h2⟩
    · exact .inl h
    · exact .inr ⟨h, lessL_more as bs (by simpa using hl) h2⟩
end Go.Proofs.YtonbhcbkelmhgaaDoor
