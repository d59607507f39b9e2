/-
  A slice of cells that came in, as a law is told of it.
-/
import Derived.Test.YtonbhcbkelmhgaaDoorClArgs
import Derived.Deep.Slices
namespace Go.Proofs.YtonbhcbkelmhgaaDoor
open Go.ChangeShapes Go.WideShapes Go.ChangeAt Go.RowKit Go.Deep WM
set_option linter.unusedVariables false
/-- The cells of a row of structs: element i lies at K * i. -/
theorem cells_at {w : World} {a : Addr} {n : Nat} {cs : List Value} (h : w.cells? 0 a n = some cs) : cs.length = n ∧ ∀ k, k < n → w.cell? (a.add k) = cs[k]? := by
  obtain ⟨hb, hl, h2⟩ := World.cells?_some h
  exact ⟨hl, h2⟩
/-- nil, or a row of which each of the first len elements is a cell: R i. -/
def IsCels (w : World) (a : Option Addr) (len cap : Nat) (R : Nat → Cel) : Prop :=
  (a = none ∧ len = 0 ∧ cap = 0) ∨
  ∃ x, a = some x ∧ len ≤ cap ∧ cap ≤ maxLen ∧ ∀ i, i < len → IsCel (R i) ∧ w.cell? (x.add (i * 3)) = some (.int .i64 (R i).n) ∧ w.cell? (x.add (i * 3 + 1)) = some (.int .i64 (R i).r) ∧ w.cell? (x.add (i * 3 + 2)) = some (.string (R i).s)
theorem open_cells {H : Type} {enc : TypeId × Value → H} {W : World} {a : Option Addr} {len cap : Nat} {d : DataW H} {p : List MemPlace}
    (h : DataW.Trod enc Tryd.prog W 0 (fun _ => true) true 37 (.slice a len cap) d p) : ∃ R, IsCels W a len cap R := by
  obtain ⟨fuel, hf⟩ := h
  have k3 : Tryd.prog.cellsOf 25 = 3 := by kernel_rfl
  rcases open_slice Tryd.underlying37 hf with ⟨hcs, _⟩ | ⟨ad, len', cap', m, n, D, Pl, hcs, _, hl, hm, hmm, _, hall⟩
  · simp [Value.cells] at hcs
    obtain ⟨rfl, rfl, rfl⟩ := hcs
    exact ⟨fun _ => ⟨0, 0, ⟨#[]⟩⟩, .inl ⟨rfl, rfl, rfl⟩⟩
  · simp [Value.cells] at hcs
    obtain ⟨rfl, rfl, rfl⟩ := hcs
    have key : ∀ i, ∃ c : Cel, i < len → IsCel c ∧ W.cell? (ad.add (i * 3)) = some (.int .i64 c.n) ∧ W.cell? (ad.add (i * 3 + 1)) = some (.int .i64 c.r) ∧ W.cell? (ad.add (i * 3 + 2)) = some (.string c.s) := fun i => by
      by_cases hi : i < len
      · obtain ⟨cs, hc, hd⟩ := hall i (by rw [hmm]; simp; omega)
        rw [k3] at hc
        obtain ⟨hlen, hat⟩ := cells_at hc
        match cs, hlen with
        | [c0, c1, c2], _ =>
          obtain ⟨c, hcc, rfl, rfl, rfl⟩ := cell_trod hd
          refine ⟨c, fun _ => ⟨hcc, ?_, ?_, ?_⟩⟩
          · have := hat 0 (by omega)
            rwa [add_add] at this
          · have := hat 1 (by omega)
            rwa [add_add] at this
          · have := hat 2 (by omega)
            rwa [add_add] at this
      · exact ⟨⟨0, 0, ⟨#[]⟩⟩, fun h => absurd h hi⟩
    exact ⟨fun i => (key i).choose, .inr ⟨ad, rfl, hl, hm, fun i hi => (key i).choose_spec hi⟩⟩
end Go.Proofs.YtonbhcbkelmhgaaDoor
