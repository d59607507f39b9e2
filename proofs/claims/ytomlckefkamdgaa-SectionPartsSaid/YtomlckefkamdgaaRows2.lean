/-
  A slice of slices of bytes that came in, as a law is told of it. No program is named here.
-/
import Derived.Test.YtomlckefkamdgaaWords
import Derived.ProofKit
import Derived.OpenShut
import Derived.Deep.Slices
namespace Go.Proofs.Ytomlckefkamdgaa
open Go.ChangeShapes Go.WideShapes Go.ChangeAt Go.RowKit Go.Deep WM
set_option linter.unusedVariables false
/-- nil, or a row of which each of the first len cells is a slice of bytes: R i is its address, its length, its capacity and its bytes. -/
def IsRows (w : World) (a : Option Addr) (len cap : Nat) (R : Nat → Option Addr × Nat × Nat × List Int) : Prop :=
  (a = none ∧ len = 0 ∧ cap = 0) ∨
  ∃ x, a = some x ∧ len ≤ cap ∧ cap ≤ maxLen ∧ ∀ i, i < len → w.cell? (x.add i) = some (.slice (R i).1 (R i).2.1 (R i).2.2.1) ∧ IsRow .u8 w (R i).1 (R i).2.1 (R i).2.2.1 (R i).2.2.2
theorem open_rows {H : Type} {enc : TypeId × Value → H} {P : Program} {W : World} {t e u : TypeId} {fuel : Nat} {a : Option Addr} {len cap : Nat} {x : DataW H × List MemPlace}
    (ht : P.underlying t = some (.slice e)) (he : P.underlying e = some (.slice u)) (hu : P.underlying u = some (.int .u8)) (ce : P.cellsOf e = 1) (cu : P.cellsOf u = 1)
    (h : DataW.trod enc P W 0 (fun _ => true) true fuel t [.slice a len cap] = some x) : ∃ R, IsRows W a len cap R := by
  rcases open_slice1 ht ce h with ⟨hcs, _⟩ | ⟨ad, len', cap', m, n, V, D, Pl, hcs, _, hl, hm, hmm, _, hall⟩
  · simp at hcs
    obtain ⟨rfl, rfl, rfl⟩ := hcs
    exact ⟨fun _ => (none, 0, 0, []), .inl ⟨rfl, rfl, rfl⟩⟩
  · simp at hcs
    obtain ⟨rfl, rfl, rfl⟩ := hcs
    have key : ∀ i, ∃ r : Option Addr × Nat × Nat × List Int, i < len → W.cell? (ad.add i) = some (.slice r.1 r.2.1 r.2.2.1) ∧ IsRow .u8 W r.1 r.2.1 r.2.2.1 r.2.2.2 := fun i => by
      by_cases hi : i < len
      · obtain ⟨hc, hd⟩ := hall i (by rw [hmm]; simp; omega)
        rcases open_ints he hu cu hd with ⟨h1, _⟩ | ⟨ad', l, c, zs, h1, _, h2, h3, h4, _, h5, h6⟩
        · simp at h1
          refine ⟨(none, 0, 0, []), fun _ => ⟨by rw [hc, h1], .inl ⟨rfl, rfl, rfl, rfl⟩⟩⟩
        · simp at h1
          refine ⟨(some ad', l, c, zs), fun _ => ⟨by rw [hc, h1], .inr ⟨ad', rfl, h2, h3, by simpa using h4, h5, h6⟩⟩⟩
      · exact ⟨(none, 0, 0, []), fun h => absurd h hi⟩
    exact ⟨fun i => (key i).choose, .inr ⟨ad, rfl, hl, hm, fun i hi => (key i).choose_spec hi⟩⟩
end Go.Proofs.Ytomlckefkamdgaa
