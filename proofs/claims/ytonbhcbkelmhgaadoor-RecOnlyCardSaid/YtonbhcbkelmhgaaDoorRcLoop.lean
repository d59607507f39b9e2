/-
  What a record's loop keeps: facts for rec.Join's range over a function.
-/
import Derived.Test.YtonbhcbkelmhgaaDoorRcJoinNo
import Derived.RangeFuncBox
namespace Go.Proofs.YtonbhcbkelmhgaaDoor
open Go.RowKit Go.Shelf WM
set_option linter.unusedVariables false
section
variable {W W' : World} {row : Option Nat} {b : Nat} {z : List Int} {n r : Int} {v u : Value} {base k : Nat} {xs : List Value}
theorem RcAt.kept (h : RcAt W b z n r v) (hg : W.grownBy W' row) (hne : some b ≠ row) : RcAt W' b z n r v := ⟨h.1, (hg.block b h.lt hne).trans h.2⟩
theorem RcAt.not_row (h : RcAt W b z n r v) (hr : W.ownsRow base 55 4 u k xs) : some b ≠ u.ownBlock := by
  rcases hr.2 with ⟨rfl, _⟩ | ⟨g, cap, cur, rfl, _, hgb, _⟩
  · simp [Value.ownBlock]
  · intro e'
    obtain rfl : b = g := by simpa [Value.ownBlock] using e'
    have := h.2.symm.trans hgb
    simp at this
theorem RcAt.turned (h : RcAt W b z n r v) (hg : W.grownBy W' row) (hr : ∀ r, row = some r → ∃ o : Obj, W.heap[r]? = some o ∧ o.isCells = false) : RcAt W' b z n r v :=
  h.kept hg (fun e => by
    obtain ⟨o, ho, hc⟩ := hr b e.symm
    rw [h.2] at ho
    cases ho
    cases hc)
theorem own_turned {e : TypeId} {size : Nat} (h : W.ownsRow base e size v k xs) (hg : W.grownBy W' row) (hr : ∀ r, row = some r → ∃ o : Obj, W.heap[r]? = some o ∧ o.isCells = false) : W'.ownsRow base e size v k xs := by
  refine h.kept hg ?_
  rcases h.2 with ⟨rfl, _⟩ | ⟨g, cap, cur, rfl, _, hgb, _⟩
  · exact .inl rfl
  · refine .inr fun e' => ?_
    obtain ⟨o, ho, hc⟩ := hr g (by simpa [Value.ownBlock] using e'.symm)
    rw [hgb] at ho; cases ho; cases hc
theorem grownBy_setCell18 (W : World) (b j : Nat) (v : Value) : W.grownBy (W.setCell ⟨b, j, none⟩ v) (some b) :=
  ⟨rfl, rfl, rfl, (KeepsWalks.setCell W _ v).size, fun k _ hk => Below.heap_setCell _ _ _ k (fun e => hk (by rw [e]))⟩
theorem KeepsFrom.of_below {B : Nat} (h : Below W.heap.size W W') : KeepsFrom B W W' := ⟨h.size, fun k o _ hk _ => (h.block k (Array.getElem?_eq_some_iff.1 hk).1).trans hk⟩
end
/-- What holds between two rounds. -/
def JI (w : World) (n0 g b2 : Nat) (z : List Int) (m : Int × Int) (pre : List (Int × Cel)) (W : World) : Prop :=
  ∃ v, RcAt W g z m.1 m.2 v ∧ W.ownsRow n0 55 4 v (keep m.1 m.2 pre).length ((keep m.1 m.2 pre).flatMap Fld.cs) ∧ RcAt W b2 z16 0 0 (.slice none 0 0) ∧ Below w.heap.size w W ∧ n0 ≤ W.heap.size
theorem JI_own {w : World} {n0 g b2 : Nat} {z : List Int} {m : Int × Int} {B : Nat} (hB : w.heap.size ≤ B) : OwnFrom B (JI w n0 g b2 z m) := by
  rintro s X Y row ⟨v, h1, h2, h3, h4, h5⟩ hg hr
  have hr' : ∀ r, row = some r → ∃ o : Obj, X.heap[r]? = some o ∧ o.isCells = false := fun r e => (hr r e).2
  exact ⟨v, h1.turned hg hr', own_turned h2 hg hr', h3.turned hg hr', ownFrom_below (β := Unit) (Nat.le_refl _) hB () X Y row h4 hg hr, Nat.le_trans h5 hg.size⟩
theorem JI.below {w W W' : World} {n0 g b2 : Nat} {z : List Int} {m : Int × Int} {pre : List (Int × Cel)} (h : JI w n0 g b2 z m pre W) (hb : Below W.heap.size W W') : JI w n0 g b2 z m pre W' := by
  obtain ⟨v, h1, h2, h3, h4, h5⟩ := h
  exact ⟨v, h1.below hb h1.lt, own_below h2 hb, h3.below hb h3.lt, h4.trans (hb.mono h4.size), Nat.le_trans h5 hb.size⟩
theorem JI.dead {w W : World} {n0 g b2 : Nat} {z : List Int} {m : Int × Int} {pre : List (Int × Cel)} {x : Int × Cel} (h : JI w n0 g b2 z m pre W) (hl : stLess m.1 m.2 x.2.n x.2.r = false) : JI w n0 g b2 z m (pre ++ [x]) W := by
  have e : keep m.1 m.2 (pre ++ [x]) = keep m.1 m.2 pre := by rw [keep_snoc, hl]; simp
  obtain ⟨v, h1, h2, h3⟩ := h
  exact ⟨v, h1, by rw [e]; exact h2, h3⟩
/-- A field in a block that was just laid. -/
theorem fld_cell (w : World) (f : Fld) (t : TypeId) : ∀ (j : Nat) (u : Value), (Fld.cs f)[j]? = some u → (w.alloc (.cells #[.int .i64 f.no, .int .i64 f.c.n, .int .i64 f.c.r, .string f.c.s] t)).cell? ((⟨w.heap.size, 0, none⟩ : Addr).add j) = some u := by
  intro j u hu
  have hh := heap_alloc_new w (.cells #[.int .i64 f.no, .int .i64 f.c.n, .int .i64 f.c.r, .string f.c.s] t)
  rw [Addr.add_lit, cell_of_row _ _ _ _ _ _ hh, Nat.zero_add, List.getElem?_toArray]
  exact hu
theorem keep_len (n r : Int) (pre : List (Int × Cel)) : (keep n r pre).length ≤ pre.length := List.length_filterMap_le _ _
/-- Behind append and store: what holds. -/
theorem JI_step {w W w1 : World} {n0 g b2 Bx bm : Nat} {z : List Int} {m : Int × Int} {pre : List (Int × Cel)} {x : Int × Cel} {v v' : Value} (hlive : stLess m.1 m.2 x.2.n x.2.r = true)
    (hG : RcAt W g z m.1 m.2 v) (hO : W.ownsRow n0 55 4 v (keep m.1 m.2 pre).length ((keep m.1 m.2 pre).flatMap Fld.cs)) (hR : RcAt W b2 z16 0 0 (.slice none 0 0)) (hB : Below w.heap.size w W)
    (hwn : w.heap.size ≤ n0) (hwg : w.heap.size ≤ g) (hbg : b2 ≠ g) (hb2 : b2 < n0) (hBx : Bx < n0) (hbm : bm < n0) (hBxg : Bx ≠ g) (hbmg : bm ≠ g) (hnW : n0 ≤ W.heap.size)
    (hO' : w1.ownsRow n0 55 4 v' ((keep m.1 m.2 pre).length + 1) ((keep m.1 m.2 pre).flatMap Fld.cs ++ Fld.cs ⟨x.1, x.2⟩)) (hg : W.grownBy w1 v.ownBlock) :
    RcAt w1 g z m.1 m.2 v ∧ KeepsFrom n0 W (w1.setCell ⟨g, 18, none⟩ v') ∧ Kp2 Bx bm W (w1.setCell ⟨g, 18, none⟩ v') ∧ JI w n0 g b2 z m (pre ++ [x]) (w1.setCell ⟨g, 18, none⟩ v') := by
  have hG1 := hG.kept hg (hG.not_row hO)
  have hown : ∀ j, v.ownBlock = some j → n0 ≤ j := fun j hj => own_base hO hj
  have hblk : ∀ j, j < n0 → j ≠ g → (w1.setCell ⟨g, 18, none⟩ v').heap[j]? = W.heap[j]? := fun j hj hne => by
    rw [Below.heap_setCell _ _ _ j hne]
    exact hg.block j (by omega) (fun e => by have := hown j e.symm; omega)
  have hBw := ((hB.grown hg hB.size (fun j e => Nat.le_trans hwn (hown j e))).setCell (p := ⟨g, 18, none⟩) hwg v')
  refine ⟨hG1, ?_, ⟨hblk Bx hBx hBxg, hblk bm hbm hbmg⟩, v', hG1.put v', ?_, ⟨hR.1, (hblk b2 hb2 hbg).trans hR.2⟩, hBw, Nat.le_trans hnW (Nat.le_trans hg.size (KeepsWalks.setCell w1 _ v').size)⟩
  · refine ((KeepsOthers.of_grownBy hg fun j o ej hj => ?_).from n0).trans ((KeepsOthers.setCell _ _ _).from n0)
    rcases hO.2 with ⟨rfl, _⟩ | ⟨g', cap, cur, rfl, _, hgb, _⟩
    · simp [Value.ownBlock] at ej
    · obtain rfl : g' = j := by simpa [Value.ownBlock] using ej
      rw [hgb] at hj; cases hj; rfl
  · have h1 : keep m.1 m.2 (pre ++ [x]) = keep m.1 m.2 pre ++ [⟨x.1, x.2⟩] := by rw [keep_snoc, if_pos hlive]
    rw [h1, List.length_append, List.flatMap_append, List.flatMap_singleton]
    exact hO'.kept (grownBy_setCell18 w1 g 18 v') (.inr (hG1.not_row hO').symm)
theorem own_slice {W : World} {base k : Nat} {e : TypeId} {size : Nat} {v : Value} {xs : List Value} (h : W.ownsRow base e size v k xs) : ∃ A c, v = .slice A k c := by
  rcases h.2 with ⟨rfl, rfl⟩ | ⟨g, cap, cur, rfl, _⟩
  · exact ⟨none, 0, rfl⟩
  · exact ⟨_, cap, rfl⟩
theorem grownBy_setRow (W : World) (b : Nat) (cs : Array Value) : W.grownBy (W.setRow b cs) (some b) :=
  ⟨rfl, rfl, rfl, by simp, fun k _ hk => setRow_other W b k _ (fun e => hk (by rw [e]))⟩
/-- At the function's end: the result is stored; the rounds' block is shut. -/
theorem JI_end {w W : World} {n0 g b2 D : Nat} {z : List Int} {m : Int × Int} {pre : List (Int × Cel)} {A : Option Addr} {c : Nat} (hz : z.length = 16)
    (hG : RcAt W g z m.1 m.2 (.slice A (keep m.1 m.2 pre).length c)) (hO : W.ownsRow n0 55 4 (.slice A (keep m.1 m.2 pre).length c) (keep m.1 m.2 pre).length ((keep m.1 m.2 pre).flatMap Fld.cs)) (hR : RcAt W b2 z16 0 0 (.slice none 0 0)) (hB : Below w.heap.size w W)
    (hwb : w.heap.size ≤ b2) (hb2 : b2 < n0) (hD : n0 ≤ D) (hK : W.heap[D]? = some (.deferred (some []))) :
    (W.setRow b2 (rcells z m.1 m.2 (.slice A (keep m.1 m.2 pre).length c))).heap[D]? = some (.deferred (some [])) ∧
    ∀ o, RcAt ((W.setRow b2 (rcells z m.1 m.2 (.slice A (keep m.1 m.2 pre).length c))).putObj D o) b2 z m.1 m.2 (.slice A (keep m.1 m.2 pre).length c) ∧
      FsAt ((W.setRow b2 (rcells z m.1 m.2 (.slice A (keep m.1 m.2 pre).length c))).putObj D o) A c (keep m.1 m.2 pre) ∧ Below w.heap.size w ((W.setRow b2 (rcells z m.1 m.2 (.slice A (keep m.1 m.2 pre).length c))).putObj D o) := by
  have h1 : (W.setRow b2 (rcells z m.1 m.2 (.slice A (keep m.1 m.2 pre).length c))).heap[D]? = some (.deferred (some [])) := (setRow_other W b2 D _ (by omega)).trans hK
  refine ⟨h1, fun o => ⟨⟨hz, (World.putObj_heap_other (by omega)).trans (hR.putAll hz).2⟩, ?_, ?_⟩⟩
  · have h2 := hO.kept (grownBy_setRow W b2 (rcells z m.1 m.2 (.slice A (keep m.1 m.2 pre).length c))) (.inr (hR.not_row hO).symm)
    exact FsAt.own (ownsRow_putObj h2 o h1 rfl)
  · exact (below_setRow hB hwb _).trans (belowK_b (w := w) (Nat.le_refl _) _ D _ _ (by omega) h1 rfl rfl)
end Go.Proofs.YtonbhcbkelmhgaaDoor
