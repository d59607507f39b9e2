import Derived.Test.YtcmknbdeafcknaaDoorGShaD
import Derived.BigQuiet
import Derived.Lib.Bytealg
import Derived.Sort.Grow
import Derived.Deep.Draws
import Derived.Test.YtcmknbdeafcknaaDoorGRcJoin
section
/-
  What bytes.Compare, book.compare and book.Less answer of two names, and the world that they leave: blocks more, draws more, nothing else.
-/
namespace Go.Proofs.YtcmknbdeafcknaaDoor
open Go.RowKit WM
set_option linter.unusedVariables false
set_option maxRecDepth 20000
/-- Which of two lists of bytes is less. -/
def cmpB : List Int → List Int → Int
  | [], [] => 0
  | [], _ :: _ => -1
  | _ :: _, [] => 1
  | a :: x, b :: y => if a < b then -1 else if b < a then 1 else cmpB x y
def toU (xs : List Int) : List UInt8 := xs.map fun z => z.toNat.toUInt8
theorem u8_lt {a b : Int} (ha : 0 ≤ a ∧ a ≤ 255) (hb : 0 ≤ b ∧ b ≤ 255) : (a.toNat.toUInt8 < b.toNat.toUInt8) ↔ a < b := by
  rw [UInt8.lt_iff_toNat_lt]
  have h1 : a.toNat.toUInt8.toNat = a.toNat := by simp [Nat.toUInt8, UInt8.toNat_ofNat']; omega
  have h2 : b.toNat.toUInt8.toNat = b.toNat := by simp [Nat.toUInt8, UInt8.toNat_ofNat']; omega
  rw [h1, h2]
  omega
theorem cmp_toU : ∀ {xs ys : List Int}, AllBytes xs → AllBytes ys → Lib.compareBytes (toU xs) (toU ys) = cmpB xs ys
  | [], [], _, _ => rfl
  | [], _ :: _, _, _ => rfl
  | _ :: _, [], _, _ => rfl
  | a :: x, b :: y, hx, hy => by
    have ha := hx a (by simp)
    have hb := hy b (by simp)
    have ih := cmp_toU (xs := x) (ys := y) (fun z hz => hx z (by simp [hz])) (fun z hz => hy z (by simp [hz]))
    show (if a.toNat.toUInt8 < b.toNat.toUInt8 then (-1 : Int) else if b.toNat.toUInt8 < a.toNat.toUInt8 then 1 else Lib.compareBytes (toU x) (toU y)) = _
    rw [ih, cmpB]
    simp only [u8_lt ha hb, u8_lt hb ha]
theorem cmpB_less : ∀ {xs ys : List Int}, decide (cmpB xs ys < 0) = lessL xs ys
  | [], [] => rfl
  | [], _ :: _ => rfl
  | _ :: _, [] => rfl
  | a :: x, b :: y => by
    rw [cmpB, lessL]
    by_cases h : a < b
    · simp [h]
    · rw [if_neg h]
      by_cases h2 : b < a
      · rw [if_pos h2]
        have : (a == b) = false := by rw [beq_eq_false_iff_ne]; omega
        simp [h, this]
      · rw [if_neg h2, cmpB_less]
        have : (a == b) = true := by rw [beq_iff_eq]; omega
        simp [h, this]
/-! ### bytes out of a row -/
theorem loadBytes_row {w : World} : ∀ (xs : List Int) (b off : Nat) (acc : List UInt8), (∀ i, i < xs.length → w.cell? ⟨b, off + i, none⟩ = some (.int .u8 (xs.getD i 0))) →
    (Extern.Bytes.loadBytes ⟨b, off, none⟩ xs.length ⟨acc.toArray⟩).run Tryd.prog w = .ok ⟨(acc ++ toU xs).toArray⟩ w
  | [], b, off, acc, _ => by simp [Extern.Bytes.loadBytes, toU]
  | x :: xs, b, off, acc, h => by
    have h0 := h 0 (by simp)
    rw [Nat.add_zero] at h0
    have hr := loadBytes_row xs b (off + 1) (acc ++ [x.toNat.toUInt8]) (fun i hi => by
      have := h (i + 1) (by simp; omega)
      rw [show off + 1 + i = off + (i + 1) by omega]
      simpa using this)
    have e : (ByteArray.mk acc.toArray).push x.toNat.toUInt8 = ⟨(acc ++ [x.toNat.toUInt8]).toArray⟩ := by simp [ByteArray.push]
    have hl : (load ⟨b, off, none⟩).run Tryd.prog w = .ok (.int .u8 x) w := by
      rw [List.getD_cons_zero] at h0
      go_simp
    rw [List.length_cons, Extern.Bytes.loadBytes, Sem.run_bind, hl]
    simp only [Result.andThen, e, Addr.add_lit]
    rw [hr]
    simp [toU]
theorem run_compareBytes {w : World} {xs ys : List Int} {b1 o1 c1 b2 o2 c2 : Nat} (hx : AllBytes xs) (hy : AllBytes ys)
    (h1 : ∀ i, i < xs.length → w.cell? ⟨b1, o1 + i, none⟩ = some (.int .u8 (xs.getD i 0))) (h2 : ∀ i, i < ys.length → w.cell? ⟨b2, o2 + i, none⟩ = some (.int .u8 (ys.getD i 0))) :
    (Extern.BytealgCompare.compare #[.slice (some ⟨b1, o1, none⟩) xs.length c1, .slice (some ⟨b2, o2, none⟩) ys.length c2]).run Tryd.prog w = .ok (.int .i64 (cmpB xs ys)) w := by
  have l1 : (Extern.Bytes.bytesOf (.slice (some ⟨b1, o1, none⟩) xs.length c1)).run Tryd.prog w = .ok ⟨(toU xs).toArray⟩ w := loadBytes_row xs b1 o1 [] h1
  have l2 : (Extern.Bytes.bytesOf (.slice (some ⟨b2, o2, none⟩) ys.length c2)).run Tryd.prog w = .ok ⟨(toU ys).toArray⟩ w := loadBytes_row ys b2 o2 [] h2
  change Sem.run Tryd.prog (do pure (goInt (Extern.BytealgCompare.cmp (← Extern.Bytes.bytesOf (.slice (some ⟨b1, o1, none⟩) xs.length c1)) (← Extern.Bytes.bytesOf (.slice (some ⟨b2, o2, none⟩) ys.length c2))))) w = _
  simp only [Sem.run_bind, l1, l2, Sem.run_pure, Result.andThen, Lib.cmp_eq, cmp_toU hx hy]
  rfl
/-! ### names -/
/-- A name in a block of its own. -/
def IdAt (w : World) (b : Nat) (z : List Int) : Prop := z.length = 16 ∧ w.heap[b]? = some (.cells (bvals z) 23)
/-- A load, by what it gives. -/
theorem wpList_load_by16 {P : Program} {ops : Array Oper} {rest : List Oper} {o : Oper} {a : Act} {w : World} {Q : Exit → Act → World → Prop} (hw : Region.wanted o (yielded ops a.tmps) = true) (ty : TypeId) (x : Operand) (ho : o.op = .load ty x)
    (ad : Addr) (hx : a.eval x = .pointer (some ad)) (v : Value) (hv : (loadVar ty ad).run P w = .ok v w)
    (h : wpList P ops Q rest (a.put o.dst v) w) : wpList P ops Q (o :: rest) a w :=
  BigFrame.wpList_want hw fun _ hK => by
    unfold Oper.wp execOp
    simp only [ho, hx, Instr.loadAt, Instr.sureAddr, Sem.run_bind, Sem.run_pure, Result.andThen_ok, hv]
    exact hK _ _ h
theorem sizeID16 : (Tryd.prog.info? 23).map (·.size) = some 16 := by kernel_rfl
theorem load_arr16 {w : World} {b : Nat} {z : List Int} (h : IdAt w b z) : (loadVar 23 ⟨b, 0, none⟩).run Tryd.prog w = .ok (.agg (bvals z)) w :=
  run_loadVar_row w b 23 23 _ (0, 0) _ h.2 Tryd.underlying23 rfl (by rw [show (bvals z).size = 16 by simp [bvals, h.1]]; exact sizeID16)
theorem IdAt.cell {w : World} {b : Nat} {z : List Int} (h : IdAt w b z) : ∀ i, i < z.length → w.cell? ⟨b, 0 + i, none⟩ = some (.int .u8 (z.getD i 0)) := fun i hi => by
  rw [Nat.zero_add, cell_of_row _ _ _ _ _ _ h.2]
  simp [bvals, List.getD, List.getElem?_eq_getElem hi]
theorem below_grow {w : World} (q : Nat) (os : Array Obj) : Below w.heap.size w (Go.Sort.grow (w.drewN q) os) :=
  ⟨rfl, rfl, rfl, by rw [Go.Sort.size_grow]; exact Nat.le_add_right _ _, fun k hk => by
    show (w.heap ++ os)[k]? = w.heap[k]?
    rw [Array.getElem?_append_left hk]⟩
end Go.Proofs.YtcmknbdeafcknaaDoor

end
section
/-
  Books: a record in memory, a row of records, a book's one cell; what is read out of them. Nothing that was there is written.
-/
namespace Go.Proofs.YtcmknbdeafcknaaDoor
open Go.RowKit WM
set_option linter.unusedVariables false
set_option maxRecDepth 20000
/-- A record in memory: what it is, and where its fields lie. -/
structure RcA where
  R : Rc
  A : Option Addr
  c : Nat
def rcA0 : RcA := ⟨rc0, none, 0⟩
def RcA.s (x : RcA) : Value := .slice x.A x.R.fs.length x.c
def RcA.cells (x : RcA) : Array Value := rcells x.R.z x.R.n x.R.r x.s
def RcA.cs (x : RcA) : List Value := x.cells.toList
def RcA.v (x : RcA) : Value := .agg x.cells
theorem RcA.v_eq (x : RcA) : x.R.v x.A x.c = x.v := rfl
theorem RcA.rv_eq (x : RcA) : rv x.R.z x.R.n x.R.r (.slice x.A x.R.fs.length x.c) = x.v := rfl
theorem RcA.cells_eq (x : RcA) : rcells x.R.z x.R.n x.R.r (.slice x.A x.R.fs.length x.c) = x.cells := rfl
/-- What is known of a record in memory. -/
def RvAt (w : World) (x : RcA) : Prop := x.R.Ok ∧ FsAt w x.A x.c x.R.fs
theorem RvAt.below {w w' : World} {B : Nat} {x : RcA} (h : RvAt w x) (hb : Below B w w') (hB : w.heap.size ≤ B) : RvAt w' x := ⟨h.1, h.2.below hb hB⟩
theorem RvAt.len {w : World} {x : RcA} (h : RvAt w x) : x.R.z.length = 16 := h.1.1
theorem RvAt.zero (w : World) : RvAt w rcA0 := ⟨⟨z16_len, z16_bytes⟩, FsAt.nil _ _ _ (by decide) (fun _ => rfl)⟩
theorem cells_len {x : RcA} (h : x.R.z.length = 16) : x.cells.size = 19 := rcells_size h _ _ _
theorem cs_len {x : RcA} (h : x.R.z.length = 16) : x.cs.length = 19 := by rw [RcA.cs, Array.length_toList, cells_len h]
theorem cs_one (x : RcA) : ∀ u ∈ x.cs, u.oneCell' = true := by
  have h := rcells_one (z := x.R.z) (n := x.R.n) (r := x.R.r) (v := x.s) rfl
  rw [Array.all_eq_true_iff_forall_mem] at h
  exact fun u hu => h u (by simpa [RcA.cs, RcA.cells] using hu)
/-- A record lies in 19 cells of block b, from o on. -/
def RecAt (w : World) (b o : Nat) (x : RcA) : Prop := x.R.z.length = 16 ∧ ∀ j, j < 19 → w.cell? ⟨b, o + j, none⟩ = x.cs[j]?
theorem RecAt.of_row {w : World} {b : Nat} {x : RcA} {t : TypeId} (hz : x.R.z.length = 16) (h : w.heap[b]? = some (.cells x.cells t)) : RecAt w b 0 x := ⟨hz, fun j hj => by
  rw [Nat.zero_add, cell_of_row _ _ _ _ _ _ h, RcA.cs, Array.getElem?_toList]⟩
section
variable {w w' : World} {b o : Nat} {x : RcA}
theorem RecAt.same (h : RecAt w b o x) (hb : w'.heap[b]? = w.heap[b]?) : RecAt w' b o x := ⟨h.1, fun j hj => (World.cell?_of_block (a := ⟨b, o + j, none⟩) hb).trans (h.2 j hj)⟩
theorem RecAt.load (h : RecAt w b o x) : (loadVar 28 ⟨b, o, none⟩).run Tryd.prog w = .ok x.v w := by
  have hl : (loadCells ⟨b, o, none⟩ 19).run Tryd.prog w = .ok x.cells w := by
    have h1 := run_loadCells_list (P := Tryd.prog) w ⟨b, o, none⟩ x.cs (fun j u hu => by
      rw [Addr.add_lit, h.2 j (by have := (List.getElem?_eq_some_iff.1 hu).1; rw [cs_len h.1] at this; exact this)]
      exact hu)
    rw [cs_len h.1] at h1
    exact h1
  have hs := sizeRec
  cases hq : Tryd.prog.info? 28 with
  | none => simp [hq] at hs
  | some i =>
    have hs : i.size = 19 := by simpa [hq] using hs
    have hagg : (isAgg 28).run Tryd.prog w = .ok true w := by
      unfold isAgg
      rw [Sem.run_bind, run_underlying Tryd.underlying28 w]
      simp
    simp [loadVar, Sem.run_bind, hagg, sizeOf, typeInfo, hq, hs, hl, RcA.v]
theorem RecAt.cellz (h : RecAt w b o x) {j : Nat} (hj : j < 16) : w.cell? ⟨b, o + j, none⟩ = some (.int .u8 (x.R.z.getD j 0)) := by
  rw [h.2 j (by omega), RcA.cs, RcA.cells, rcells]
  rw [List.getElem?_append_left (by simp [h.1]; omega)]
  simp [List.getD, List.getElem?_eq_getElem (show j < x.R.z.length by rw [h.1]; exact hj)]
theorem RecAt.load_id (h : RecAt w b o x) : (loadVar 23 ⟨b, o, none⟩).run Tryd.prog w = .ok (.agg (bvals x.R.z)) w := by
  have hl : (loadCells ⟨b, o, none⟩ 16).run Tryd.prog w = .ok (bvals x.R.z) w := by
    have h1 := run_loadCells_list (P := Tryd.prog) w ⟨b, o, none⟩ (x.R.z.map (Value.int .u8)) (fun j u hu => by
      have hj : j < 16 := by have := (List.getElem?_eq_some_iff.1 hu).1; rw [List.length_map, h.1] at this; exact this
      rw [Addr.add_lit, h.cellz hj]
      rw [List.getElem?_map, List.getElem?_eq_getElem (show j < x.R.z.length by rw [h.1]; exact hj)] at hu
      simpa [List.getD, List.getElem?_eq_getElem (show j < x.R.z.length by rw [h.1]; exact hj)] using hu)
    rw [List.length_map, h.1] at h1
    exact h1
  have hs := sizeID
  cases hq : Tryd.prog.info? 23 with
  | none => simp [hq] at hs
  | some i =>
    have hs : i.size = 16 := by simpa [hq] using hs
    have hagg : (isAgg 23).run Tryd.prog w = .ok true w := by
      unfold isAgg
      rw [Sem.run_bind, run_underlying Tryd.underlying23 w]
      simp
    simp [loadVar, Sem.run_bind, hagg, sizeOf, typeInfo, hq, hs, hl]
theorem RecAt.c16 (h : RecAt w b o x) : w.cell? ⟨b, o + 16, none⟩ = some (.int .i64 x.R.n) := by rw [h.2 16 (by omega), RcA.cs, Array.getElem?_toList]; exact (rcells_get h.1 _ _ _).1
theorem RecAt.c17 (h : RecAt w b o x) : w.cell? ⟨b, o + 17, none⟩ = some (.int .i64 x.R.r) := by rw [h.2 17 (by omega), RcA.cs, Array.getElem?_toList]; exact (rcells_get h.1 _ _ _).2.1
theorem RecAt.c18 (h : RecAt w b o x) : w.cell? ⟨b, o + 18, none⟩ = some (.slice x.A x.R.fs.length x.c) := by rw [h.2 18 (by omega), RcA.cs, Array.getElem?_toList]; exact (rcells_get h.1 _ _ _).2.2
end
/-! ### A row of records -/
def RsAt (w : World) (A : Option Addr) (c : Nat) (xs : List RcA) : Prop :=
  xs.length ≤ c ∧ c ≤ maxLen ∧ (A = none → c = 0) ∧
  (0 < xs.length → ∃ b off, A = some ⟨b, off, none⟩ ∧ b < w.heap.size ∧ ∀ i, i < xs.length → RecAt w b (off + i * 19) (xs.getD i rcA0)) ∧ ∀ x ∈ xs, RvAt w x
theorem RsAt.below {w w' : World} {B : Nat} {A : Option Addr} {c : Nat} {xs : List RcA} (h : RsAt w A c xs) (hb : Below B w w') (hB : w.heap.size ≤ B) : RsAt w' A c xs := by
  obtain ⟨h1, h2, h3, h4, h5⟩ := h
  refine ⟨h1, h2, h3, fun h0 => ?_, fun x hx => (h5 x hx).below hb hB⟩
  obtain ⟨b, off, rfl, hlt, hc⟩ := h4 h0
  exact ⟨b, off, rfl, Nat.lt_of_lt_of_le hlt hb.size, fun i hi => (hc i hi).same (hb.block b (Nat.lt_of_lt_of_le hlt hB))⟩
theorem RsAt.nil (w : World) (A : Option Addr) (c : Nat) (hc : c ≤ maxLen) (h : A = none → c = 0) : RsAt w A c [] := ⟨Nat.zero_le _, hc, h, fun h => absurd h (by simp), fun x hx => by cases hx⟩
theorem RsAt.rv {w : World} {A : Option Addr} {c : Nat} {xs : List RcA} (h : RsAt w A c xs) {i : Nat} (hi : i < xs.length) : RvAt w (xs.getD i rcA0) := by
  rw [List.getD_eq_getElem?_getD, List.getElem?_eq_getElem hi]
  exact h.2.2.2.2 _ (List.getElem_mem hi)
theorem recs_one (xs : List RcA) : ∀ u ∈ xs.flatMap RcA.cs, u.oneCell' = true := by
  intro u hu
  obtain ⟨f, _, hf⟩ := List.mem_flatMap.1 hu
  exact cs_one f u hf
theorem recs_len {xs : List RcA} (h : ∀ x ∈ xs, x.R.z.length = 16) : (xs.flatMap RcA.cs).length = xs.length * 19 := by
  induction xs with
  | nil => rfl
  | cons f fs ih => rw [List.flatMap_cons, List.length_append, ih (fun x hx => h x (List.mem_cons_of_mem _ hx)), List.length_cons, cs_len (h f List.mem_cons_self)]; omega
theorem recs_at {xs : List RcA} (h : ∀ x ∈ xs, x.R.z.length = 16) {i j : Nat} (hi : i < xs.length) (hj : j < 19) : (xs.flatMap RcA.cs)[i * 19 + j]? = (xs.getD i rcA0).cs[j]? := by
  induction xs generalizing i with
  | nil => simp at hi
  | cons x xs ih =>
    have hx := cs_len (h x List.mem_cons_self)
    cases i with
    | zero =>
      simp only [List.flatMap_cons, Nat.zero_mul, Nat.zero_add, List.getD_cons_zero]
      rw [List.getElem?_append_left (by rw [hx]; omega)]
    | succ i =>
      simp only [List.flatMap_cons, List.getD_cons_succ]
      rw [List.getElem?_append_right (by rw [hx]; omega)]
      have e : (i + 1) * 19 + j - x.cs.length = i * 19 + j := by rw [hx]; omega
      rw [e]
      exact ih (fun y hy => h y (List.mem_cons_of_mem _ hy)) (by simpa using hi)
/-- A row of the call's own. -/
theorem RsAt.own {w : World} {base c : Nat} {A : Option Addr} {xs : List RcA} (h : w.ownsRow base 28 19 (.slice A xs.length c) xs.length (xs.flatMap RcA.cs)) (hx : ∀ x ∈ xs, RvAt w x) : RsAt w A c xs := by
  have hz : ∀ x ∈ xs, x.R.z.length = 16 := fun x hxx => (hx x hxx).len
  rcases h.2 with ⟨h1, h2⟩ | ⟨g, cap, cur, h1, hb, hg, hn, hm, hs, ht⟩
  · simp only [Value.slice.injEq] at h1
    obtain ⟨rfl, h3, rfl⟩ := h1
    exact ⟨by omega, by decide, fun _ => rfl, fun h0 => by omega, hx⟩
  · simp only [Value.slice.injEq] at h1
    obtain ⟨rfl, _, rfl⟩ := h1
    refine ⟨hn, hm, fun h => (by cases h), fun h0 => ⟨g, 0, rfl, (Array.getElem?_eq_some_iff.1 hg).1, fun i hi => ⟨?_, fun j hj => ?_⟩⟩, hx⟩
    · rw [List.getD_eq_getElem?_getD, List.getElem?_eq_getElem hi]
      exact hz _ (List.getElem_mem hi)
    · rw [cell_of_row w g _ cur _ (0, 0) hg, ← recs_at hz hi hj, ← ht, List.getElem?_take, if_pos (by omega)]
      simp
theorem sizeRecW (w : World) : (sizeOf 28).run Tryd.prog w = .ok 19 w := by
  simp [sizeOf, go_sem]
  rfl
/-! ### A book -/
structure Bk where
  xs : List RcA
  A : Option Addr
  c : Nat
def bk0 : Bk := ⟨[], none, 0⟩
def Bk.s (b : Bk) : Value := .slice b.A b.xs.length b.c
def Bk.v (b : Bk) : Value := .agg #[b.s]
def Bk.rs (b : Bk) : List Rc := b.xs.map (·.R)
def BkAt (w : World) (b : Bk) : Prop := RsAt w b.A b.c b.xs
theorem BkAt.below {w w' : World} {B : Nat} {b : Bk} (h : BkAt w b) (hb : Below B w w') (hB : w.heap.size ≤ B) : BkAt w' b := RsAt.below h hb hB
theorem BkAt.zero (w : World) : BkAt w bk0 := RsAt.nil _ _ _ (by decide) (fun _ => rfl)
section
variable {w w' : World} {p B : Nat} {v : Value}
end
end Go.Proofs.YtcmknbdeafcknaaDoor

end
