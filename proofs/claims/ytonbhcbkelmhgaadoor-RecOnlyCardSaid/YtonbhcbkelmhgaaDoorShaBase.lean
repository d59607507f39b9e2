/-
  Rows of words in memory, and what the two tables hold.
-/
import Derived.Test.YtonbhcbkelmhgaaDoorShaRot
import Derived.Deep.WholeRow
import Derived.Deep.MidRow
import Derived.Lib.LaidTab
import Derived.BigQuiet
import Derived.WalkSmall
import Derived.StillTailTactics
namespace Go.Proofs.YtonbhcbkelmhgaaDoor
open Go.RowKit WM
set_option linter.unusedVariables false

/-- Words as cells. -/
def vals (l : List Nat) : Array Value := (l.map fun n : Nat => Value.int .u32 (n : Int)).toArray
theorem vals_size (l : List Nat) : (vals l).size = l.length := by simp [vals]
theorem vals_get {l : List Nat} {j : Nat} (h : j < l.length) : (vals l)[j]? = some (.int .u32 (l.getD j 0 : Nat)) := by
  simp [vals, List.getD, List.getElem?_eq_getElem h]
theorem vals_set (l : List Nat) (j x : Nat) : (vals l).setIfInBounds j (.int .u32 (x : Int)) = vals (l.set j x) := by
  simp [vals, List.map_set]
theorem vals_one (l : List Nat) : (vals l).all (·.oneCell') = true := by
  refine Array.all_eq_true_iff_forall_mem.2 fun v hv => ?_
  simp only [vals, List.mem_toArray, List.mem_map] at hv
  obtain ⟨n, _, rfl⟩ := hv
  rfl
/-- Bytes as cells. -/
def bvals (l : List Int) : Array Value := (l.map fun n => Value.int .u8 n).toArray
theorem bvals_size (l : List Int) : (bvals l).size = l.length := by simp [bvals]
theorem bvals_get {l : List Int} {j : Nat} (h : j < l.length) : (bvals l)[j]? = some (.int .u8 (l.getD j 0)) := by
  simp [bvals, List.getD, List.getElem?_eq_getElem h]
theorem bvals_set (l : List Int) (j : Nat) (x : Int) : (bvals l).setIfInBounds j (.int .u8 x) = bvals (l.set j x) := by
  simp [bvals, List.map_set]
theorem bvals_one (l : List Int) : (bvals l).all (·.oneCell') = true := by
  refine Array.all_eq_true_iff_forall_mem.2 fun v hv => ?_
  simp only [bvals, List.mem_toArray, List.mem_map] at hv
  obtain ⟨n, _, rfl⟩ := hv
  rfl

/-- The block g of a world holds these words. -/
def Row (w : World) (g : Nat) (t : TypeId) (l : List Nat) : Prop := w.heap[g]? = some (.cells (vals l) t (0, 0))
theorem Row.cell {w : World} {g : Nat} {t : TypeId} {l : List Nat} (h : Row w g t l) {j : Nat} (hj : j < l.length) : w.cell? ⟨g, j, none⟩ = some (.int .u32 (l.getD j 0 : Nat)) :=
  (cell_of_row w g j _ _ _ h).trans (vals_get hj)
theorem Row.frozen {w : World} {g : Nat} {t : TypeId} {l : List Nat} (h : Row w g t l) (j : Nat) : w.frozen? ⟨g, j, none⟩ = false := frozen_of_row w g j _ _ h
theorem Row.set {w : World} {g : Nat} {t : TypeId} {l : List Nat} (h : Row w g t l) (j x : Nat) : Row (w.setCell ⟨g, j, none⟩ (.int .u32 (x : Int))) g t (l.set j x) := by
  unfold Row
  rw [heap_setCell_same w g j _ _ _ h, vals_set]
theorem Row.other {w : World} {g : Nat} {t : TypeId} {l : List Nat} (h : Row w g t l) {a : Addr} (ha : g ≠ a.block) (v : Value) : Row (w.setCell a v) g t l := by
  unfold Row
  rw [heap_setCell_other w a g v ha]; exact h
theorem Row.lt {w : World} {g : Nat} {t : TypeId} {l : List Nat} (h : Row w g t l) : g < w.heap.size := by
  rcases Nat.lt_or_ge g w.heap.size with h1 | h1
  · exact h1
  · unfold Row at h; rw [Array.getElem?_eq_none h1] at h; cases h
theorem Row.below {w w' : World} {g B : Nat} {t : TypeId} {l : List Nat} (h : Row w g t l) (hb : Below B w w') (hg : g < B) : Row w' g t l := by
  unfold Row
  rw [hb.block g hg]; exact h
theorem Row.new (w : World) (t : TypeId) (l : List Nat) : Row (w.alloc (.cells (vals l) t)) w.heap.size t l := heap_alloc_new w _
theorem Row.old {w : World} {g : Nat} {t : TypeId} {l : List Nat} (h : Row w g t l) (o : Obj) : Row (w.alloc o) g t l := by
  unfold Row
  rw [Below.heap_alloc w o g h.lt]; exact h

/-- What the two tables hold. -/
def Laid (w : World) : Prop := (∀ i, i < 8 → w.cell? ⟨0, i, none⟩ = some (.int .u32 (SH.H0.list.getD i 0 : Nat))) ∧ (∀ i, i < 64 → w.cell? ⟨1, i, none⟩ = some (.int .u32 (SH.K.getD i 0 : Nat))) ∧ 0 < w.heap.size ∧ 1 < w.heap.size
theorem Laid.below {w w' : World} {B : Nat} (h : Laid w) (hb : Below B w w') (hB : w.heap.size ≤ B) : Laid w' := by
  have h3 := h.2.2.1
  have h4 := h.2.2.2
  have hs := hb.size
  refine ⟨fun i hi => ?_, fun i hi => ?_, by omega, by omega⟩
  · rw [hb.cell (p := ⟨0, i, none⟩) (by simp only; omega)]; exact h.1 i hi
  · rw [hb.cell (p := ⟨1, i, none⟩) (by simp only; omega)]; exact h.2.1 i hi

theorem infoW64 : (Tryd.prog.info? 101).map (fun i => (i.zero, i.size)) = some (some (.agg (vals (List.replicate 64 0))), 64) := by kernel_rfl
theorem zeroW64 (w : World) : (zeroValue 101).run Tryd.prog w = .ok (.agg (vals (List.replicate 64 0))) w := (zero_of_info infoW64).1 w
theorem sizeW64 : (Tryd.prog.info? 101).map (·.size) = some 64 := (zero_of_info infoW64).2
theorem infoW8 : (Tryd.prog.info? 96).map (fun i => (i.zero, i.size)) = some (some (.agg (vals (List.replicate 8 0))), 8) := by kernel_rfl
theorem zeroW8 (w : World) : (zeroValue 96).run Tryd.prog w = .ok (.agg (vals (List.replicate 8 0))) w := (zero_of_info infoW8).1 w
theorem sizeW8 : (Tryd.prog.info? 96).map (·.size) = some 8 := (zero_of_info infoW8).2
theorem infoD : (Tryd.prog.info? 69).map (fun i => (i.zero, i.size)) = some (some (.agg (bvals (List.replicate 32 0))), 32) := by kernel_rfl
theorem zeroD (w : World) : (zeroValue 69).run Tryd.prog w = .ok (.agg (bvals (List.replicate 32 0))) w := (zero_of_info infoD).1 w
theorem sizeD : (Tryd.prog.info? 69).map (·.size) = some 32 := (zero_of_info infoD).2

/-- A region that draws its order, only reads, calls what writes nothing, and ends by a tail: in a world that has a name. -/
theorem wp_still_at {P : Program} {id : Nat} {Q : Exit → Act → World → Prop} {a : Act} {w : World} {l : List Oper} (n : Nat) (hm : P.follows .mixedOrders = true) (hB : Region.lexTailB .any l.toArray n = true)
    (h : ∀ w2, w2 = w.drew → wpStill P l.toArray w2 (fun a' => wpList P l.toArray Q (l.drop n) a' w2) (l.take n) a) : (Code.region id l.toArray true).wp P Q a w :=
  wp_region_still_tail n hm hB (h _ rfl)
/-- .. a whole row read in its head. -/
theorem wpStill_load_row {P : Program} {ops : Array Oper} {rest : List Oper} {o : Oper} {a : Act} {w : World} {Q : Act → Prop} (hgd : o.guard = none) (ty : TypeId) (x : Operand) (ho : o.op = .load ty x)
    (g : Nat) (hx : a.eval x = .pointer (some ⟨g, 0, none⟩)) (t : TypeId) (cs : Array Value) (fr : Nat × Nat) (d : TypeDesc) (hg : w.heap[g]? = some (.cells cs t fr))
    (hu : P.underlying ty = some d) (hd : (match d with | .struct _ | .array _ _ => true | _ => false) = true) (hi : (P.info? ty).map (·.size) = some cs.size)
    (h : wpStill P ops w Q rest (a.put o.dst (.agg cs))) : wpStill P ops w Q (o :: rest) a := by
  have hw : Region.wanted o (yielded ops a.tmps) = true := by simp [Region.wanted, hgd]
  unfold wpStill
  rw [if_pos hw]
  unfold Oper.still execOp
  simp only [ho, hx, Instr.loadAt, Instr.sureAddr, Sem.run_bind, Sem.run_pure, Result.andThen_ok, run_loadVar_row w g t ty cs fr d hg hu hd hi]
  exact ⟨rfl, h⟩
theorem below_setRow {B : Nat} {a w : World} (h : Below B a w) {g : Nat} (hg : B ≤ g) (cs : Array Value) : Below B a (w.setRow g cs) :=
  ⟨h.os, h.tape, h.output, by rw [setRow_size]; exact h.size, fun k hk => by rw [setRow_other w g k cs (by omega)]; exact h.block k hk⟩
theorem Row.put {w : World} {g : Nat} {t : TypeId} {l : List Nat} (h : Row w g t l) (l' : List Nat) : Row (w.setRow g (vals l')) g t l' := setRow_heap w g _ _ _ _ h
theorem Row.putOther {w : World} {g : Nat} {t : TypeId} {l : List Nat} (h : Row w g t l) {k : Nat} (hk : g ≠ k) (cs : Array Value) : Row (w.setRow k cs) g t l := by
  unfold Row
  rw [setRow_other w k g cs hk]; exact h
/-! ### Words as integers -/
theorem u32_sum (a b : Nat) : ((a : Int) + (b : Int)) % 4294967296 = (SH.add a b : Nat) := by
  rw [SH.add]; omega
end Go.Proofs.YtonbhcbkelmhgaaDoor
