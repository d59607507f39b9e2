import Derived.Test.YtcmknbdeafcknaaDoorBkRec
/-
  A row of fields lies in a block of fields: what keeps it.
-/
namespace Go.Proofs.YtcmknbdeafcknaaDoor
open Go.RowKit WM
set_option linter.unusedVariables false
set_option maxRecDepth 20000
/-- A row of fields lies in a block of fields. -/
def FTag (w : World) (A : Option Addr) : Prop := ∀ p, A = some p → ∃ cur, w.heap[p.block]? = some (.cells cur 40)
theorem FTag.own {w : World} {base n c size : Nat} {A : Option Addr} {xs : List Value} (h : w.ownsRow base 40 size (.slice A n c) n xs) : FTag w A := by
  intro p e
  rcases h.2 with ⟨h1, _⟩ | ⟨g, cap, cur, h1, _, hg, _⟩
  · simp only [Value.slice.injEq] at h1
    rw [h1.1] at e; cases e
  · simp only [Value.slice.injEq] at h1
    rw [h1.1] at e
    cases e
    exact ⟨cur, hg⟩
theorem one_fs (w : World) (f : Fld) : FsAt (w.alloc (.cells #[.int .i64 f.no, .int .i64 f.c.n, .int .i64 f.c.r, .string f.c.s] 40)) (some ⟨w.heap.size, 0, none⟩) 1 [f] := by
  have h := FlAt.new w f
  refine ⟨Nat.le_refl _, by decide, (fun h => by cases h), fun _ => ⟨_, 0, rfl, h.lt, fun i hi => ?_⟩⟩
  obtain rfl : i = 0 := by simpa using hi
  exact ⟨h.c0, h.c1, h.c2, h.c3⟩
theorem tag_ne {w : World} {g : Nat} {cur : Array Value} {t : TypeId} (h : w.heap[g]? = some (.cells cur t)) (ht : t ≠ 40) : ∀ c, w.heap[g]? ≠ some (.cells c 40) := by
  intro c e
  rw [h] at e
  simp only [Option.some.injEq, Obj.cells.injEq] at e
  exact ht e.2.1
theorem FTag.kept {w w' : World} {A : Option Addr} {row : Option Nat} (h : FTag w A) (hg : w.grownBy w' row) (hr : ∀ g, row = some g → ∀ c, w.heap[g]? ≠ some (.cells c 40)) : FTag w' A := fun p e => by
  obtain ⟨cur, hc⟩ := h p e
  refine ⟨cur, (hg.block _ (Array.getElem?_eq_some_iff.1 hc).1 (fun e2 => hr _ e2.symm cur hc)).trans hc⟩
theorem FsAt.kept_tag {w w' : World} {A : Option Addr} {c : Nat} {fs : List Fld} {row : Option Nat} (h : FsAt w A c fs) (t : FTag w A) (hg : w.grownBy w' row) (hr : ∀ g, row = some g → ∀ c, w.heap[g]? ≠ some (.cells c 40)) : FsAt w' A c fs := by
  cases row with
  | none => exact h.below (B := w.heap.size) ⟨hg.os, hg.tape, hg.output, hg.size, fun k hk => hg.block k hk (fun e => by cases e)⟩ (Nat.le_refl _)
  | some b =>
    refine h.kept' hg fun off h0 e => ?_
    obtain ⟨cur, hc⟩ := t _ e
    exact hr b rfl cur hc
theorem RvAt.kept_tag {w w' : World} {x : RcA} {row : Option Nat} (h : RvAt w x) (t : FTag w x.A) (hg : w.grownBy w' row) (hr : ∀ g, row = some g → ∀ c, w.heap[g]? ≠ some (.cells c 40)) : RvAt w' x := ⟨h.1, h.2.kept_tag t hg hr⟩
theorem own_tag {w : World} {base size n : Nat} {t : TypeId} {v : Value} {xs : List Value} (h : w.ownsRow base t size v n xs) (ht : t ≠ 40) : ∀ g, v.ownBlock = some g → ∀ c, w.heap[g]? ≠ some (.cells c 40) := by
  intro g e
  rcases h.2 with ⟨rfl, _⟩ | ⟨g', cap, cur, rfl, _, hg, _⟩
  · simp [Value.ownBlock] at e
  · obtain rfl : g' = g := by simpa [Value.ownBlock] using e
    exact tag_ne hg ht
end Go.Proofs.YtcmknbdeafcknaaDoor

