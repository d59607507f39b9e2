/-
  A digest that came in, as a law is told of it: 32 bytes.
-/
import Derived.Test.YtojmmjecfpdmoaaDoorShaBase
import Derived.ProofKit
import Derived.OpenShut
namespace Go.Proofs.YtojmmjecfpdmoaaDoor
open Go.ChangeShapes Go.WideShapes Go.ChangeAt Go.RowKit WM
set_option linter.unusedVariables false
def IsDig (xs : List Int) : Prop := xs.length = 32 ∧ AllBytes xs
theorem open_dig {H : Type} {enc : TypeId × Value → H} {P : Program} {W : World} {r : Reach} {b0 base : Nat} {spare : Nat → Bool} {held : Bool} {t e : TypeId} {v : Value} {d : DataW H} {p : List MemPlace}
    (ht : P.underlying t = some (.array 32 e)) (he : P.underlying e = some (.int .u8)) (ce : P.cellsOf e = 1) (ct : P.cellsOf t = 32) (hv : Value.okWide P W r b0 t v) (h : DataW.Trod enc P W base spare held t v d p) :
    ∃ xs, v = .agg (bvals xs) ∧ IsDig xs := by
  simp only [Value.okWide, ht] at hv
  obtain ⟨cs, rfl, hsz, _⟩ := hv
  obtain ⟨fuel, hf⟩ := h
  obtain ⟨ys, m, rfl, hx, hcl, hyl, hall⟩ := DataW.trod_array ht hf
  have hlen : cs.toList.length = 32 := by rw [Array.length_toList, hsz, ct]
  have key : ∀ (i : Nat) (hi : i < cs.toList.length), ∃ n : Int, cs.toList[i] = .int .u8 n ∧ 0 ≤ n ∧ n ≤ 255 := fun i hi => by
    have h1 := hall i (by omega)
    rw [ce, Nat.mul_one, List.getElem?_eq_getElem (by omega)] at h1
    obtain ⟨n, hc, _, hw⟩ := DataW.trod_int he h1
    refine ⟨n, ?_, (bounds_u8 hw).1, (bounds_u8 hw).2⟩
    have h2 := congrArg (fun l => l[0]?) hc
    have h3 : cs.toList[i]? = some (.int .u8 n) := by simpa [Value.cells, List.getElem?_take, List.getElem?_drop] using h2
    exact (List.getElem?_eq_some_iff.1 h3).2
  refine ⟨cs.toList.map intOf, ?_, by rw [List.length_map, hlen], fun z hz => ?_⟩
  · congr 1
    apply Array.ext'
    unfold bvals
    rw [List.map_map]
    apply List.ext_getElem
    · simp
    · intro i h1 h2
      obtain ⟨n, hn, _⟩ := key i h1
      simp only [List.getElem_map, Function.comp]
      rw [hn]
      rfl
  · obtain ⟨v, hv, rfl⟩ := List.mem_map.1 hz
    obtain ⟨i, hi, rfl⟩ := List.getElem_of_mem hv
    obtain ⟨n, hn, h0, h1⟩ := key i hi
    rw [hn]
    exact ⟨h0, h1⟩
end Go.Proofs.YtojmmjecfpdmoaaDoor
