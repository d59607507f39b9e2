/-
  Records: as values, in a block of their own; fields in a row of memory; what rec.lives answers. Nothing that was there is written.
-/
import Derived.Test.YtonbhcbkelmhgaaDoorClJoin
import Derived.Test.YtonbhcbkelmhgaaDoorStMax
namespace Go.Proofs.YtonbhcbkelmhgaaDoor
open Go.RowKit WM
set_option linter.unusedVariables false
/-- A field: its number and its cell. -/
structure Fld where
  no : Int
  c : Cel
def cel00 : Cel := ⟨0, 0, ⟨#[]⟩⟩
def fld0 : Fld := ⟨0, cel00⟩
def Fld.v (f : Fld) : Value := .agg #[.int .i64 f.no, .int .i64 f.c.n, .int .i64 f.c.r, .string f.c.s]
def Fld.cs (f : Fld) : List Value := [.int .i64 f.no, .int .i64 f.c.n, .int .i64 f.c.r, .string f.c.s]
/-- A record's cells: its name's sixteen bytes, since when it is dead, its fields' slice. -/
def rcells (z : List Int) (n r : Int) (v : Value) : Array Value := (z.map (Value.int .u8) ++ [.int .i64 n, .int .i64 r, v]).toArray
def rv (z : List Int) (n r : Int) (v : Value) : Value := .agg (rcells z n r v)
/-- Block b holds a record. -/
def RcAt (w : World) (b : Nat) (z : List Int) (n r : Int) (v : Value) : Prop := z.length = 16 ∧ w.heap[b]? = some (.cells (rcells z n r v) 43)
theorem rcells_get {z : List Int} (hz : z.length = 16) (n r : Int) (v : Value) : (rcells z n r v)[16]? = some (.int .i64 n) ∧ (rcells z n r v)[17]? = some (.int .i64 r) ∧ (rcells z n r v)[18]? = some v := by
  refine ⟨?_, ?_, ?_⟩ <;> (unfold rcells; rw [List.getElem?_toArray, List.getElem?_append_right (by simp [hz])]; simp [hz])
theorem rcells_size {z : List Int} (hz : z.length = 16) (n r : Int) (v : Value) : (rcells z n r v).size = 19 := by simp [rcells, hz]
section
variable {w w' : World} {b B : Nat} {z : List Int} {n r : Int} {v : Value}
theorem RcAt.c16 (h : RcAt w b z n r v) : w.cell? ⟨b, 16, none⟩ = some (.int .i64 n) := by rw [cell_of_row _ _ _ _ _ _ h.2]; exact (rcells_get h.1 n r v).1
theorem RcAt.c17 (h : RcAt w b z n r v) : w.cell? ⟨b, 17, none⟩ = some (.int .i64 r) := by rw [cell_of_row _ _ _ _ _ _ h.2]; exact (rcells_get h.1 n r v).2.1
theorem RcAt.c18 (h : RcAt w b z n r v) : w.cell? ⟨b, 18, none⟩ = some v := by rw [cell_of_row _ _ _ _ _ _ h.2]; exact (rcells_get h.1 n r v).2.2
theorem RcAt.fz (h : RcAt w b z n r v) (j : Nat) : w.frozen? ⟨b, j, none⟩ = false := frozen_of_row _ _ _ _ _ h.2
theorem RcAt.lt (h : RcAt w b z n r v) : b < w.heap.size := by
  rcases Nat.lt_or_ge b w.heap.size with h1 | h1
  · exact h1
  · have h2 := h.2; rw [Array.getElem?_eq_none h1] at h2; cases h2
theorem RcAt.below (h : RcAt w b z n r v) (hb : Below B w w') (hB : b < B) : RcAt w' b z n r v := ⟨h.1, by rw [hb.block b hB]; exact h.2⟩
theorem RcAt.new (w : World) (hz : z.length = 16) (n r : Int) (v : Value) : RcAt (w.alloc (.cells (rcells z n r v) 43)) w.heap.size z n r v := ⟨hz, heap_alloc_new w _⟩
theorem RcAt.old (h : RcAt w b z n r v) (o : Obj) : RcAt (w.alloc o) b z n r v := h.below ((Below.refl w.heap.size w).alloc (Nat.le_refl _) o) h.lt
end
theorem rcells_set {z : List Int} (hz : z.length = 16) (n r : Int) (v u : Value) : (rcells z n r v).setIfInBounds 18 u = rcells z n r u := by
  unfold rcells
  rw [List.setIfInBounds_toArray]
  congr 1
  rw [List.set_append_right _ _ (by simp [hz])]
  simp [hz]
theorem RcAt.put {w : World} {b : Nat} {z : List Int} {n r : Int} {v : Value} (h : RcAt w b z n r v) (u : Value) : RcAt (w.setCell ⟨b, 18, none⟩ u) b z n r u :=
  ⟨h.1, by rw [heap_setCell_same _ _ _ _ _ _ h.2, rcells_set h.1]⟩
/-! ### A name, and a whole record, read out of the block -/
theorem sizeRec : (Tryd.prog.info? 43).map (·.size) = some 19 := by kernel_rfl
theorem sizeID : (Tryd.prog.info? 40).map (·.size) = some 16 := by kernel_rfl
theorem load_rec {w : World} {b : Nat} {z : List Int} {n r : Int} {v : Value} (h : RcAt w b z n r v) : (loadVar 43 ⟨b, 0, none⟩).run Tryd.prog w = .ok (rv z n r v) w :=
  run_loadVar_row w b 43 43 _ (0, 0) _ h.2 Tryd.underlying43 rfl (by rw [rcells_size h.1]; exact sizeRec)
theorem load_id {w : World} {b : Nat} {z : List Int} {n r : Int} {v : Value} (h : RcAt w b z n r v) : (loadVar 40 ⟨b, 0, none⟩).run Tryd.prog w = .ok (.agg (bvals z)) w := by
  have hl : (loadCells ⟨b, 0, none⟩ 16).run Tryd.prog w = .ok (bvals z) w := by
    have h1 := run_loadCells_list (P := Tryd.prog) w ⟨b, 0, none⟩ (z.map (Value.int .u8)) (fun j u hu => by
      rw [Addr.add_lit, cell_of_row w b _ _ _ _ h.2, rcells, List.getElem?_toArray, List.getElem?_append_left (by simpa using (List.getElem?_eq_some_iff.1 hu).1)]
      simpa using hu)
    rw [List.length_map, h.1] at h1
    exact h1
  have hs := sizeID
  cases hq : Tryd.prog.info? 40 with
  | none => simp [hq] at hs
  | some i =>
    have hs : i.size = 16 := by simpa [hq] using hs
    have hagg : (isAgg 40).run Tryd.prog w = .ok true w := by
      unfold isAgg
      rw [Sem.run_bind, run_underlying Tryd.underlying40 w]
      simp
    simp [loadVar, Sem.run_bind, hagg, sizeOf, typeInfo, hq, hs, hl]
theorem eq_id {xs ys : List Int} (hx : AllBytes xs) (hy : AllBytes ys) (lx : xs.length = 16) (ly : ys.length = 16) (w : World) : (Op.equalIn 10000 40 (.agg (bvals xs)) (.agg (bvals ys))).run Tryd.prog w = .ok (xs == ys) w := by
  rw [bvals_u8 hx, bvals_u8 hy, ← u8_inj hx hy]
  exact run_equalIn_bytes w 9998 40 5 16 Tryd.underlying40 Tryd.underlying5 (fun w => sizeByte w) _ _ (by rw [List.length_map, lx]) (by rw [List.length_map, ly])
/-- A load, by what it gives. -/
theorem wpList_load_by {P : Program} {ops : Array Oper} {rest : List Oper} {o : Oper} {a : Act} {w : World} {Q : Exit → Act → World → Prop} (hw : Region.wanted o (yielded ops a.tmps) = true) (ty : TypeId) (x : Operand) (ho : o.op = .load ty x)
    (ad : Addr) (hx : a.eval x = .pointer (some ad)) (v : Value) (hv : (loadVar ty ad).run P w = .ok v w)
    (h : wpList P ops Q rest (a.put o.dst v) w) : wpList P ops Q (o :: rest) a w :=
  BigFrame.wpList_want hw fun _ hK => by
    unfold Oper.wp execOp
    simp only [ho, hx, Instr.loadAt, Instr.sureAddr, Sem.run_bind, Sem.run_pure, Result.andThen_ok, hv]
    exact hK _ _ h
/-! ### A row of fields -/
/-- Fields lie in a row, one behind the other, from a place on. -/
def FsAt (w : World) (A : Option Addr) (c : Nat) (fs : List Fld) : Prop :=
  fs.length ≤ c ∧ c ≤ maxLen ∧ (A = none → c = 0) ∧
  (0 < fs.length → ∃ b off, A = some ⟨b, off, none⟩ ∧ b < w.heap.size ∧ ∀ i, i < fs.length →
    w.cell? ⟨b, off + i * 4, none⟩ = some (.int .i64 (fs.getD i fld0).no) ∧ w.cell? ⟨b, off + i * 4 + 1, none⟩ = some (.int .i64 (fs.getD i fld0).c.n) ∧
    w.cell? ⟨b, off + i * 4 + 2, none⟩ = some (.int .i64 (fs.getD i fld0).c.r) ∧ w.cell? ⟨b, off + i * 4 + 3, none⟩ = some (.string (fs.getD i fld0).c.s))
theorem FsAt.below {w w' : World} {B : Nat} {A : Option Addr} {c : Nat} {fs : List Fld} (h : FsAt w A c fs) (hb : Below B w w') (hB : w.heap.size ≤ B) : FsAt w' A c fs := by
  obtain ⟨h1, h2, h3, h4⟩ := h
  refine ⟨h1, h2, h3, fun h0 => ?_⟩
  obtain ⟨b, off, rfl, hlt, hc⟩ := h4 h0
  have hbb := hb.mono hB
  refine ⟨b, off, rfl, Nat.lt_of_lt_of_le hlt hbb.size, fun i hi => ?_⟩
  obtain ⟨c0, c1, c2, c3⟩ := hc i hi
  exact ⟨(hbb.cell (p := ⟨b, _, none⟩) hlt).trans c0, (hbb.cell (p := ⟨b, _, none⟩) hlt).trans c1, (hbb.cell (p := ⟨b, _, none⟩) hlt).trans c2, (hbb.cell (p := ⟨b, _, none⟩) hlt).trans c3⟩
theorem FsAt.nil (w : World) (A : Option Addr) (c : Nat) (hc : c ≤ maxLen) (h : A = none → c = 0) : FsAt w A c [] := ⟨Nat.zero_le _, hc, h, fun h => absurd h (by simp)⟩
/-- A row of the call's own. -/
theorem FsAt.own {w : World} {base c : Nat} {A : Option Addr} {fs : List Fld} (h : w.ownsRow base 55 4 (.slice A fs.length c) fs.length (fs.flatMap Fld.cs)) : FsAt w A c fs := by
  rcases h.2 with ⟨h1, h2⟩ | ⟨g, cap, cur, h1, hb, hg, hn, hm, hs, ht⟩
  · simp only [Value.slice.injEq] at h1
    obtain ⟨rfl, h3, rfl⟩ := h1
    exact ⟨by omega, by decide, fun _ => rfl, fun h0 => by omega⟩
  · simp only [Value.slice.injEq] at h1
    obtain ⟨rfl, _, rfl⟩ := h1
    refine ⟨hn, hm, fun h => (by cases h), fun h0 => ⟨g, 0, rfl, (Array.getElem?_eq_some_iff.1 hg).1, fun i hi => ?_⟩⟩
    have key : ∀ j, j < 4 → w.cell? ⟨g, 0 + i * 4 + j, none⟩ = (fs.getD i fld0).cs[j]? := fun j hj => by
      rw [cell_of_row w g _ cur _ (0, 0) hg]
      have h2 : (fs.flatMap Fld.cs)[i * 4 + j]? = (fs.getD i fld0).cs[j]? := by
        clear ht h0 h hg hs hn
        induction fs generalizing i with
        | nil => simp at hi
        | cons x fs ih =>
          cases i with
          | zero =>
            simp only [List.flatMap_cons, Nat.zero_mul, Nat.zero_add, List.getD_cons_zero]
            rw [List.getElem?_append_left (by simp [Fld.cs]; omega)]
          | succ i =>
            simp only [List.flatMap_cons, List.getD_cons_succ]
            rw [List.getElem?_append_right (by simp [Fld.cs]; omega)]
            have e : (i + 1) * 4 + j - x.cs.length = i * 4 + j := by simp [Fld.cs]; omega
            rw [e]
            exact ih i (by simpa using hi)
      rw [← h2, ← ht, List.getElem?_take, if_pos (by omega)]
      simp
    have k0 := key 0 (by omega); have k1 := key 1 (by omega); have k2 := key 2 (by omega); have k3 := key 3 (by omega)
    exact ⟨k0, k1, k2, k3⟩
theorem sizeFld (w : World) : (sizeOf 55).run Tryd.prog w = .ok 4 w := by
  simp [sizeOf, go_sem]
  rfl
theorem elemFld : Tryd.prog.elem 41 = 55 := by kernel_rfl
theorem ix_fld (b off len cap i : Nat) (h : i < len) (I : Int) (e : I = i) (w : World) : (Instr.indexAt 41 (.slice (some ⟨b, off, none⟩) len cap) (.int .i64 I)).run Tryd.prog w = .ok (.pointer (some ⟨b, off + i * 4, none⟩)) w := by
  subst e
  rw [run_indexAt_slice w 41 _ len cap .i64 i (by rw [elemFld]; exact Tryd.underlying41), if_pos (by omega), elemFld, sizeFld]
  simp [Result.andThen, Addr.add_lit]
theorem res_cl2 {fn : Func} {p q : Tmp} (h : fn.results = #[.cell p 25, .tmp q]) {tmps : Array Value} {w : World} {b : Nat} {c : Cel} (hp : tmps.getD p undef = .pointer (some ⟨b, 0, none⟩)) (hs : ClAt w b c) :
    (results fn tmps).run Tryd.prog w = .ok (.tuple #[c.v, tmps.getD q undef]) w := by
  have hp' : tmps[p]?.getD undef = .pointer (some ⟨b, 0, none⟩) := by simpa using hp
  simp [results, h, hp', asAddr, load_cl hs]
/-- Block b holds a field. -/
def FlAt (w : World) (b : Nat) (f : Fld) : Prop := w.heap[b]? = some (.cells #[.int .i64 f.no, .int .i64 f.c.n, .int .i64 f.c.r, .string f.c.s] 55)
theorem FlAt.c0 {w : World} {b : Nat} {f : Fld} (h : FlAt w b f) : w.cell? ⟨b, 0, none⟩ = some (.int .i64 f.no) := by rw [cell_of_row _ _ _ _ _ _ h]; rfl
theorem FlAt.c1 {w : World} {b : Nat} {f : Fld} (h : FlAt w b f) : w.cell? ⟨b, 1, none⟩ = some (.int .i64 f.c.n) := by rw [cell_of_row _ _ _ _ _ _ h]; rfl
theorem FlAt.c2 {w : World} {b : Nat} {f : Fld} (h : FlAt w b f) : w.cell? ⟨b, 2, none⟩ = some (.int .i64 f.c.r) := by rw [cell_of_row _ _ _ _ _ _ h]; rfl
theorem FlAt.c3 {w : World} {b : Nat} {f : Fld} (h : FlAt w b f) : w.cell? ⟨b, 3, none⟩ = some (.string f.c.s) := by rw [cell_of_row _ _ _ _ _ _ h]; rfl
theorem FlAt.fz {w : World} {b : Nat} {f : Fld} (h : FlAt w b f) (j : Nat) : w.frozen? ⟨b, j, none⟩ = false := frozen_of_row _ _ _ _ _ h
theorem FlAt.lt {w : World} {b : Nat} {f : Fld} (h : FlAt w b f) : b < w.heap.size := by
  rcases Nat.lt_or_ge b w.heap.size with h1 | h1
  · exact h1
  · unfold FlAt at h; rw [Array.getElem?_eq_none h1] at h; cases h
theorem FlAt.below {w w' : World} {b B : Nat} {f : Fld} (h : FlAt w b f) (hb : Below B w w') (hB : b < B) : FlAt w' b f := by
  unfold FlAt; rw [hb.block b hB]; exact h
theorem FlAt.new (w : World) (f : Fld) : FlAt (w.alloc (.cells #[.int .i64 f.no, .int .i64 f.c.n, .int .i64 f.c.r, .string f.c.s] 55)) w.heap.size f := heap_alloc_new w _
theorem FlAt.old {w : World} {b : Nat} {f : Fld} (h : FlAt w b f) (o : Obj) : FlAt (w.alloc o) b f := h.below ((Below.refl w.heap.size w).alloc (Nat.le_refl _) o) h.lt
/-! ### fields, compared by == -/
noncomputable instance : DecidableEq Fld := fun _ _ => Classical.propDecidable _
theorem fl_same (a : Fld) (w : World) : (Op.equalIn 10000 55 (.agg #[.int .i64 a.no, .int .i64 a.c.n, .int .i64 a.c.r, .string a.c.s]) (.agg #[.int .i64 a.no, .int .i64 a.c.n, .int .i64 a.c.r, .string a.c.s])).run Tryd.prog w = .ok true w := by
  have h4 : (a.c.s.toList == a.c.s.toList) = true := (str_beq _ _).2 rfl
  go_simp
theorem fl_if {a b : Fld} (h : ¬ a = b) {α : Type} (x y : α) : (if a.no = b.no then if a.c.n = b.c.n then if a.c.r = b.c.r then if a.c.s.toList = b.c.s.toList then x else y else y else y else y) = y := by
  by_cases h1 : a.no = b.no
  · rw [if_pos h1]
    refine cl_if (a := a.c) (b := b.c) (fun e => h ?_) x y
    obtain ⟨n, c⟩ := a
    obtain ⟨m, d⟩ := b
    dsimp only at h1 e
    rw [h1, e]
  · rw [if_neg h1]
/-! ### lives -/
theorem lives_any (n r : Int) (c : Cel) (w : World) : Calls Tryd.prog 57 #[st n r, c.v] w fun e w' => e = .returned (.bool (stLess n r c.n c.r)) ∧ Below w.heap.size w w' := by
  have HC := Lib.hid (stLess_any n r c.n c.r)
  have HB := Lib.hid (((Below.refl w.heap.size w).alloc (Nat.le_refl _) (.cells #[.int .i64 n, .int .i64 r] 23)).alloc (by simp) (.cells #[.int .i64 c.n, .int .i64 c.r, .string c.s] 25))
  unfold st Cel.v at *
  go_enter Tryd.func57, Tryd.ntmps57
  go_wp2_with fail
  refine (HC.out _).mono ?_
  rintro e w1 ⟨rfl, hb1⟩
  have bw := Lib.hid (HB.out.trans (hb1.mono HB.out.size))
  clear hb1
  go_wp2
  go_ret
  exact ⟨rfl, bw.out⟩
end Go.Proofs.YtonbhcbkelmhgaaDoor
