/-
  A cell that came in, as a law is told of it: two whole numbers of 64 bits, and a text.
-/
import Derived.Test.YtonbhcbkelmhgaaDoorClBase
import Derived.ProofKit
import Derived.OpenShut
import Derived.ChangeSame
import Derived.Lib.SmallJoins
namespace Go.Proofs.YtonbhcbkelmhgaaDoor
open Go.ChangeShapes Go.WideShapes Go.ChangeAt Go.RowKit Go.Joins WM
set_option linter.unusedVariables false
/-- What is known of a cell that came in. -/
def IsCel (c : Cel) : Prop := (Lit.int .i64 c.n).wf = true ∧ (Lit.int .i64 c.r).wf = true ∧ c.s.size ≤ maxLen
theorem cell_trod {H : Type} {enc : TypeId × Value → H} {W : World} {base : Nat} {spare : Nat → Bool} {held : Bool} {fuel : Nat} {c0 c1 c2 : Value} {x : DataW H × List MemPlace}
    (hf : DataW.trod enc Tryd.prog W base spare held fuel 25 [c0, c1, c2] = some x) : ∃ c : Cel, IsCel c ∧ c0 = .int .i64 c.n ∧ c1 = .int .i64 c.r ∧ c2 = .string c.s := by
  obtain ⟨y0, y1, m, _, _, h0, h1⟩ := trod_struct2 Tryd.underlying25 hf
  have k0 : Tryd.prog.cellsOf 23 = 2 := by kernel_rfl
  have k1 : Tryd.prog.cellsOf 9 = 1 := by kernel_rfl
  have k2 : Tryd.prog.cellsOf 3 = 1 := by kernel_rfl
  dsimp only at h0 h1
  rw [k0] at h0
  rw [k1] at h1
  obtain ⟨z0, z1, m', _, _, g0, g1⟩ := trod_struct2 Tryd.underlying23 h0
  dsimp only at g0 g1
  rw [k2] at g0 g1
  obtain ⟨n0, e0, _, w0⟩ := DataW.trod_int Tryd.underlying3 g0
  obtain ⟨n1, e1, _, w1⟩ := DataW.trod_int Tryd.underlying3 g1
  obtain ⟨s, e2, _, w2⟩ := DataW.trod_string Tryd.underlying9 h1
  simp at e0 e1 e2
  subst e0 e1 e2
  exact ⟨⟨n0, n1, s⟩, ⟨w0, w1, w2⟩, rfl, rfl, rfl⟩
theorem open_cell {H : Type} {enc : TypeId × Value → H} {W : World} {r : Reach} {b0 base : Nat} {spare : Nat → Bool} {held : Bool} {v : Value} {d : DataW H} {p : List MemPlace}
    (hv : Value.okWide Tryd.prog W r b0 25 v) (h : DataW.Trod enc Tryd.prog W base spare held 25 v d p) : ∃ c : Cel, v = c.v ∧ IsCel c := by
  obtain ⟨cs, rfl, hsz⟩ := okWide_struct Tryd.underlying25 hv
  obtain ⟨c0, c1, c2, rfl⟩ := array3 (hsz.trans (by kernel_rfl : Tryd.prog.cellsOf 25 = 3))
  obtain ⟨fuel, hf⟩ := h
  obtain ⟨c, hc, rfl, rfl, rfl⟩ := cell_trod (c0 := c0) (c1 := c1) (c2 := c2) (by simpa [Value.cells] using hf)
  exact ⟨c, rfl, hc⟩
end Go.Proofs.YtonbhcbkelmhgaaDoor
