import Derived.Test.YtnencoainacpoaaDoorGRow
import Derived.Test.YtnencoainacpoaaDoorGShaA
import Derived.ProofKit
import Derived.OpenShut
import Derived.Deep.Slices
import Derived.Deep.Strs
/-
  A slice of one kind of element that came in, as a law is told of it, whatever the kind; a digest within.
-/
namespace Go.Proofs.YtnencoainacpoaaDoor
open Go.ChangeShapes Go.WideShapes Go.ChangeAt Go.RowKit Go.Deep WM
set_option linter.unusedVariables false
set_option maxRecDepth 40000
section
variable {H : Type} {enc : TypeId × Value → H} {W : World} {P : Program}
theorem open_rowK {α : Type} (K : Kind α) {ts te : TypeId} (ht : P.underlying ts = some (.slice te)) (hk : P.cellsOf te = K.n)
    (hel : ∀ {fuel : Nat} {l : List Value} {x : DataW H × List MemPlace}, l.length = K.n → DataW.trod enc P W 0 (fun _ => true) true fuel te l = some x → ∃ e : α, l = K.cs e ∧ K.ok W e)
    {fuel : Nat} {A : Option Addr} {len c : Nat} {x : DataW H × List MemPlace} (h : DataW.trod enc P W 0 (fun _ => true) true fuel ts [.slice A len c] = some x) : ∃ xs : List α, xs.length = len ∧ K.row W A c xs := by
  rcases open_slice ht h with ⟨hcs, _⟩ | ⟨ad, len', cap', m, n, D, Pl, hcs, _, hl, hm, hmm, _, hall⟩
  · simp at hcs
    obtain ⟨rfl, rfl, rfl⟩ := hcs
    exact ⟨[], rfl, Kind.row_nil _ _ _ (by decide) (fun _ => rfl)⟩
  · simp at hcs
    obtain ⟨rfl, rfl, rfl⟩ := hcs
    have key : ∀ i, ∃ e : α, i < len → K.ok W e ∧ ∀ j, j < K.n → W.cell? (ad.add (i * K.n + j)) = (K.cs e)[j]? := fun i => by
      by_cases hi : i < len
      · obtain ⟨us, hc, hd⟩ := hall i (by rw [hmm]; simp; omega)
        rw [hk] at hc
        obtain ⟨_, hlen, hat⟩ := World.cells?_some hc
        obtain ⟨e, he, hok⟩ := hel hlen hd
        refine ⟨e, fun _ => ⟨hok, fun j hj => ?_⟩⟩
        have := hat j hj
        rw [add_add] at this
        rw [this, he]
      · exact ⟨K.d, fun h => absurd h hi⟩
    obtain ⟨F, hF⟩ : ∃ F : Nat → α, ∀ i, i < len → K.ok W (F i) ∧ ∀ j, j < K.n → W.cell? (ad.add (i * K.n + j)) = (K.cs (F i))[j]? := ⟨fun i => (key i).choose, fun i hi => (key i).choose_spec hi⟩
    clear key
    have hln : ((List.range len).map F).length = len := by simp
    have hg : ∀ i, i < len → ((List.range len).map F).getD i K.d = F i := fun i hi => by simp [List.getD, hi]
    refine ⟨(List.range len).map F, hln, by rw [hln]; exact hl, hm, (fun h => by cases h), fun h0 => ?_, fun e he => ?_⟩
    · rw [hln] at h0
      obtain ⟨b, off, spot⟩ := ad
      obtain ⟨h1, h2⟩ := hF 0 h0
      have h3 := h2 0 K.pos
      obtain ⟨u, hu⟩ : ∃ u, (K.cs (F 0))[0]? = some u := ⟨_, List.getElem?_eq_getElem (by rw [K.len h1]; exact K.pos)⟩
      rw [hu] at h3
      have hspot : spot = none := by simpa [Addr.add] using World.cell?_spot h3
      subst hspot
      have hlt : b < W.heap.size := by
        rcases Nat.lt_or_ge b W.heap.size with h4 | h4
        · exact h4
        · rw [Addr.add_lit, World.cell?] at h3
          rw [Array.getElem?_eq_none h4] at h3
          cases h3
      refine ⟨b, off, rfl, hlt, fun i hi j hj => ?_⟩
      rw [hln] at hi
      rw [hg i hi]
      have := (hF i hi).2 j hj
      rw [Addr.add_lit] at this
      rw [Nat.add_assoc]
      exact this
    · obtain ⟨i, hi, rfl⟩ := List.mem_map.1 he
      exact (hF i (by simpa using hi)).1
/-- Bytes in a row of cells of their own. -/
theorem bytes_trod {base : Nat} {spare : Nat → Bool} {held : Bool} {t e : TypeId} {n : Nat} (ht : P.underlying t = some (.array n e)) (he : P.underlying e = some (.int .u8)) (ce : P.cellsOf e = 1) (ct : P.cellsOf t = n)
    {fuel : Nat} {cs : List Value} {x : DataW H × List MemPlace} (hf : DataW.trod enc P W base spare held fuel t cs = some x) : ∃ z : List Int, cs = z.map (Value.int .u8) ∧ z.length = n ∧ AllBytes z := by
  obtain ⟨ys, m, rfl, hx, hcl, hyl, hall⟩ := DataW.trod_array ht hf
  have hlen : cs.length = n := by rw [hcl, ct]
  have key : ∀ (i : Nat) (hi : i < cs.length), ∃ n : Int, cs[i] = .int .u8 n ∧ 0 ≤ n ∧ n ≤ 255 := fun i hi => by
    have h1 := hall i (by omega)
    rw [ce, Nat.mul_one, List.getElem?_eq_getElem (by omega)] at h1
    obtain ⟨n, hc, _, hw⟩ := DataW.trod_int he h1
    refine ⟨n, ?_, (bounds_u8 hw).1, (bounds_u8 hw).2⟩
    have h2 := congrArg (fun l => l[0]?) hc
    have h3 : cs[i]? = some (.int .u8 n) := by simpa [Value.cells, List.getElem?_take, List.getElem?_drop] using h2
    exact (List.getElem?_eq_some_iff.1 h3).2
  refine ⟨cs.map intOf, ?_, by rw [List.length_map, hlen], fun z hz => ?_⟩
  · rw [List.map_map]
    apply List.ext_getElem
    · simp
    · intro i h1 h2
      obtain ⟨n, hn, _⟩ := key i h1
      simp only [List.getElem_map, Function.comp]
      rw [hn]
      rfl
  · obtain ⟨v, hv, rfl⟩ := List.mem_map.1 hz
    obtain ⟨i, hi, rfl⟩ := List.getElem_of_mem hv
    obtain ⟨n, hn, h0, h1⟩ := key i hi
    rw [hn]
    exact ⟨h0, h1⟩
end
end Go.Proofs.YtnencoainacpoaaDoor

