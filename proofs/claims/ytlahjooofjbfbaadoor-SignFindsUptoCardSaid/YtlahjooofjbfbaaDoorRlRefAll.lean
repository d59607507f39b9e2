import Derived.Test.YtlahjooofjbfbaaDoorRlRow
import Derived.Test.YtlahjooofjbfbaaDoorGUni
/-
  What the document's own All, and Same of lists of checks, answer. Nothing that was there is written.
-/
namespace Go.Proofs.YtlahjooofjbfbaaDoor
open Go.RowKit WM
set_option linter.unusedVariables false
set_option maxRecDepth 100000
def RAllPost (w : World) (L : List Int) (e : Ending) (w' : World) : Prop := ∃ A c, e = .returned (.slice A L.length c) ∧ K32.row w' A c L ∧ Below w.heap.size w w'
theorem rall_nil (w : World) : RAllPost w [] (.returned (.slice none 0 0)) w := ⟨none, 0, rfl, Kind.row_nil w none 0 (by decide) (fun _ => rfl), Below.refl _ _⟩
theorem rall_own {w w' : World} {v : Value} {L : List Int} (ho : w'.ownsRow w.heap.size 26 1 v L.length (L.flatMap K32.cs)) (hb : Below w.heap.size w w') : RAllPost w L (.returned v) w' := by
  rcases ho.2 with ⟨rfl, h0⟩ | ⟨g, cap, cur, rfl, _⟩
  · have hn : L = [] := List.eq_nil_of_length_eq_zero h0
    subst hn
    exact ⟨none, 0, rfl, Kind.row_nil _ _ _ (by decide) (fun _ => rfl), hb⟩
  · exact ⟨_, cap, rfl, Kind.row_own (K := K32) ho (fun _ _ => trivial), hb⟩
theorem drop_same {xs ys : List Int} {k : Nat} (h1 : k < xs.length) (h2 : k < ys.length) : (xs.drop k = ys.drop k) ↔ (xs.getD k 0 = ys.getD k 0 ∧ xs.drop (k + 1) = ys.drop (k + 1)) := by
  rw [List.drop_eq_getElem_cons h1, List.drop_eq_getElem_cons h2, List.cons.injEq, List.getD_eq_getElem?_getD, List.getD_eq_getElem?_getD, List.getElem?_eq_getElem h1, List.getElem?_eq_getElem h2]
  rfl
end Go.Proofs.YtlahjooofjbfbaaDoor

