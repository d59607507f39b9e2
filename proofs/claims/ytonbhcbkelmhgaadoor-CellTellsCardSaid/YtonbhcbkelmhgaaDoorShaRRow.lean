/-
  Rows of words of a call's own: what they read as, and one word more.
-/
import Derived.Test.YtonbhcbkelmhgaaDoorShaRef
import Derived.Deep.RegionHeld3
namespace Go.Proofs.YtonbhcbkelmhgaaDoor
open Go.RowKit WM
set_option linter.unusedVariables false
theorem infoWord : (Tryd.prog.info? 90).map (fun i => (i.zero, i.size, i.bytes)) = some (some (.int .u32 0), 1, 4) := by kernel_rfl
def wv (n : Nat) : Value := .int .u32 (n : Int)
/-- A row of words of its own, in a world that has grown. -/
def OwnW (w wr : World) (v : Value) (L : List Nat) : Prop := wr.ownsRow w.heap.size 90 1 v L.length (L.map wv) ∧ Below w.heap.size w wr
theorem OwnW.open {w wr : World} {v : Value} {L : List Nat} (h : OwnW w wr v L) (h0 : 0 < L.length) : ∃ g c, v = .slice (some ⟨g, 0, none⟩) L.length c ∧ w.heap.size ≤ g ∧ g < wr.heap.size ∧ L.length ≤ c ∧ c ≤ maxLen ∧ ∀ j, j < L.length → wr.cell? ⟨g, j, none⟩ = some (.int .u32 (L.getD j 0 : Nat)) := by
  rcases h.1.2 with ⟨_, h1⟩ | ⟨g, cap, cur, hv, hb, hh, hnc, hcm, hsz, htk⟩
  · omega
  · have hlt : g < wr.heap.size := by
      rcases Nat.lt_or_ge g wr.heap.size with h1 | h1
      · exact h1
      · rw [Array.getElem?_eq_none h1] at hh; cases hh
    refine ⟨g, cap, hv, hb, hlt, hnc, hcm, fun j hj => ?_⟩
    rw [cell_of_row wr g j cur _ _ hh]
    have h2 := congrArg (fun l => l[j]?) htk
    simp only [List.getElem?_take, Nat.mul_one, hj, if_true, Array.getElem?_toList, List.getElem?_map, List.getElem?_eq_getElem hj, Option.map_some] at h2
    rw [h2]
    simp [List.getD, List.getElem?_eq_getElem hj, wv]
/-- append(v, x) inside a region that draws its order: one word. -/
theorem step_append_word {w X : World} {ops : Array Oper} {o : Oper} {a : Act} {K : Act → World → Prop} {Q : Exit → Act → World → Prop} {E : Prop} (hgd : o.guard = none) (s x : Operand)
    (ho : o.op = .call { callee := .builtin .append, args := #[s, x], argTypes := #[91, 91] })
    (v : Value) (L : List Nat) (n : Nat) (hs : a.eval s = v) (hown : OwnW w X v L) (hL : L.length ≤ 1000) (hx : a.eval x = .slice (some ⟨X.heap.size, 0, none⟩) 1 1)
    (h : ∀ v' w', OwnW w w' v' (L ++ [n]) → K (a.put o.dst v') w') :
    if Region.wanted o (yielded ops a.tmps) = true then Oper.wp Tryd.prog o a (X.alloc (.cells #[.int .u32 (n : Int)] 90)) K Q else E := by
  have hw : Region.wanted o (yielded ops a.tmps) = true := by simp [Region.wanted, hgd]
  rw [if_pos hw]
  obtain ⟨i0, hi, hz0, hz1, hz2⟩ := info_parts infoWord
  have hb' := hown.2.alloc hown.2.size (.cells #[.int .u32 (n : Int)] 90)
  have ho' := own_below hown.1 ((Below.refl X.heap.size X).alloc (Nat.le_refl _) (.cells #[.int .u32 (n : Int)] 90))
  refine wp_append_own _ s x 91 ho w.heap.size 90 i0 (.int .u32 0) 1 4 Tryd.underlying91 hi hz0 hz1 hz2 rfl (by omega) v L.length _ hs ho' ⟨X.heap.size, 0, none⟩ 1 1 [.int .u32 (n : Int)] hx rfl (one_cell rfl) (by
    intro u hu
    rw [List.mem_singleton.1 hu]
    rfl) (by simp only [maxLen]; omega) (by omega) hb'.size ?_
  intro v' w' h1 h2 _
  refine h v' w' ⟨?_, hb'.grown h2 hb'.size (fun g hg => own_base hown.1 hg)⟩
  rw [List.length_append, List.map_append]
  exact h1
theorem ownW_nil (w : World) : OwnW w w (.slice none 0 0) [] := ⟨World.ownsRow_nil _ _ _ _, Below.refl _ _⟩
theorem OwnW.drew {w wr : World} {v : Value} {L : List Nat} (h : OwnW w wr v L) (n : Nat) : OwnW w (wr.drewN n) v L := ⟨own_below h.1 (below_drewN (Below.refl _ _) n), below_drewN h.2 n⟩
theorem OwnW.drew1 {w wr : World} {v : Value} {L : List Nat} (h : OwnW w wr v L) : OwnW w wr.drew v L := ⟨own_below h.1 (Below.refl _ _).drew, h.2.drew⟩
end Go.Proofs.YtonbhcbkelmhgaaDoor
