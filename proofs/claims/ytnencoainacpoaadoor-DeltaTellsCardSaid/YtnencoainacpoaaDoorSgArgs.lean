import Derived.Test.YtnencoainacpoaaDoorSgBase
import Derived.Test.YtnencoainacpoaaDoorGArgs2
/-
  Blocks that came in, as a law is told of them.
-/
namespace Go.Proofs.YtnencoainacpoaaDoor
open Go.ChangeShapes Go.WideShapes Go.ChangeAt Go.RowKit Go.Deep WM
set_option linter.unusedVariables false
set_option maxRecDepth 40000
section
variable {H : Type} {enc : TypeId × Value → H} {W : World}
theorem sig_trod {base : Nat} {spare : Nat → Bool} {held : Bool} {fuel : Nat} {l : List Value} {x : DataW H × List MemPlace} (hl : l.length = 33) (hf : DataW.trod enc Tryd.prog W base spare held fuel 81 l = some x) :
    ∃ e : Sg, l = KSig.cs e ∧ KSig.ok W e := by
  have k1 : Tryd.prog.cellsOf 79 = 1 := by kernel_rfl
  have k32 : Tryd.prog.cellsOf 39 = 32 := by kernel_rfl
  obtain ⟨y0, y1, m, _, _, h0, h1⟩ := trod_struct2 Tryd.underlying81 hf
  dsimp only at h0 h1
  rw [k1, List.drop_zero] at h0
  rw [k32] at h1
  match l, hl with
  | c0 :: cs, hl =>
    have hcl : cs.length = 32 := by simpa using hl
    obtain ⟨n, e0, _, w0⟩ := DataW.trod_int Tryd.underlying79 h0
    simp at e0
    subst e0
    rw [List.drop_one, List.tail_cons, List.take_of_length_le (by omega)] at h1
    obtain ⟨z, rfl, hz, hb⟩ := bytes_trod Tryd.underlying39 Tryd.underlying5 (by kernel_rfl) k32 h1
    have hw : 0 ≤ n ∧ n ≤ 4294967295 := by
      simp [Lit.wf, IntKind.min, IntKind.max, IntKind.bits, IntKind.signed] at w0
      omega
    exact ⟨⟨n, z⟩, rfl, hw.1, hw.2, hz, hb⟩
theorem open_sigs {A : Option Addr} {len c : Nat} {d : DataW H} {p : List MemPlace} (h : DataW.Trod enc Tryd.prog W 0 (fun _ => true) true 23 (.slice A len c) d p) : ∃ xs : List Sg, xs.length = len ∧ KSig.row W A c xs := by
  obtain ⟨fuel, hf⟩ := h
  exact open_rowK KSig Tryd.underlying23 (by kernel_rfl) (fun hl hf => sig_trod hl hf) hf
end
end Go.Proofs.YtnencoainacpoaaDoor

