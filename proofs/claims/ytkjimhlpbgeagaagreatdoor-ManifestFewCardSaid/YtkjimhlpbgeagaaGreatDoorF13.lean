import Derived.Test.YtkjimhlpbgeagaaGreatDoorF0
import Derived.Test.YtkjimhlpbgeagaaGreatDoorF2
import Derived.Test.YtkjimhlpbgeagaaGreatDoorF12
import Derived.Test.YtkjimhlpbgeagaaGreatDoorF7
import Derived.Test.YtkjimhlpbgeagaaGreatDoorF1
import Derived.Test.YtkjimhlpbgeagaaGreatDoorF5
import Derived.Test.YtkjimhlpbgeagaaGreatDoorF6
/-
  What the functions that a law of this layer reaches answer, part 13. Nothing that was there is written.
-/
namespace Go.Proofs.YtkjimhlpbgeagaaGreatDoor
set_option linter.unusedVariables false
set_option linter.unusedSimpArgs false
section
open Go.RowKit WM
set_option maxRecDepth 100000
structure EnA where
 e : En
 A : Option Addr
 c : Nat
structure LnA where
 z : List Int
 n : Int
 r : Int
 A : Option Addr
 c : Nat
 es : List EnA
structure MnA where
 base : List Int
 A : Option Addr
 c : Nat
 ls : List LnA
def enA0 : EnA := ⟨en0, none, 0⟩
def lnA0 : LnA := ⟨z16m, 0, 0, none, 0, []⟩
def mnA0 : MnA := ⟨z32m, none, 0, []⟩
def LnA.x (x : LnA) : Ln := ⟨x.z, x.n, x.r, x.es.map (·.e)⟩
def MnA.m (m : MnA) : Mn := ⟨m.base, m.ls.map (·.x)⟩
def EnA.cs (x : EnA) : List Value := .int .i64 x.e.no :: .int .i64 x.e.n :: .int .i64 x.e.r :: .int .i64 x.e.len :: (x.e.ds.map (Value.int .u8) ++ [.slice x.A x.e.bs.length x.c])
def LnA.cs (x : LnA) : List Value := x.z.map (Value.int .u8) ++ [.int .i64 x.n, .int .i64 x.r, .slice x.A x.es.length x.c]
def MnA.cs (m : MnA) : List Value := m.base.map (Value.int .u8) ++ [.slice m.A m.ls.length m.c]
def EnA.Ok (w : World) (x : EnA) : Prop := (Lit.int .i64 x.e.no).wf = true ∧ (Lit.int .i64 x.e.n).wf = true ∧ (Lit.int .i64 x.e.r).wf = true ∧ (Lit.int .i64 x.e.len).wf = true ∧ x.e.ds.length = 32 ∧ AllBytes x.e.ds ∧ KSig.row w x.A x.c x.e.bs
theorem EnA.len {w : World} {x : EnA} (h : x.Ok w) : x.cs.length = 37 := by simp [EnA.cs, h.2.2.2.2.1]
theorem EnA.one (x : EnA) (u : Value) (hu : u ∈ x.cs) : u.oneCell' = true := by
 simp only [EnA.cs, List.mem_cons, List.mem_append, List.not_mem_nil, or_false] at hu
 rcases hu with rfl | rfl | rfl | rfl | hu | rfl
 ·rfl
 ·rfl
 ·rfl
 ·rfl
 ·exact byte_ones _ u hu
 ·rfl
theorem EnA.below {w w' : World} {x : EnA} (h : x.Ok w) (hb : Below w.heap.size w w') : x.Ok w' := ⟨h.1, h.2.1, h.2.2.1, h.2.2.2.1, h.2.2.2.2.1, h.2.2.2.2.2.1, Kind.row_below h.2.2.2.2.2.2 hb (Nat.le_refl _)⟩
def KEn : Kind EnA := { n := 37, pos := by decide, cs := EnA.cs, d := enA0, ok := fun w x => x.Ok w, len := fun h => EnA.len h, one := EnA.one, below := fun h hb => EnA.below h hb }
def LnA.Ok (w : World) (x : LnA) : Prop := x.z.length = 16 ∧ AllBytes x.z ∧ (Lit.int .i64 x.n).wf = true ∧ (Lit.int .i64 x.r).wf = true ∧ KEn.row w x.A x.c x.es
theorem LnA.len {w : World} {x : LnA} (h : x.Ok w) : x.cs.length = 19 := by simp [LnA.cs, h.1]
theorem LnA.one (x : LnA) (u : Value) (hu : u ∈ x.cs) : u.oneCell' = true := by
 simp only [LnA.cs, List.mem_cons, List.mem_append, List.not_mem_nil, or_false] at hu
 rcases hu with hu | rfl | rfl | rfl
 ·exact byte_ones _ u hu
 ·rfl
 ·rfl
 ·rfl
theorem LnA.below {w w' : World} {x : LnA} (h : x.Ok w) (hb : Below w.heap.size w w') : x.Ok w' := ⟨h.1, h.2.1, h.2.2.1, h.2.2.2.1, Kind.row_below h.2.2.2.2 hb (Nat.le_refl _)⟩
def KLn : Kind LnA := { n := 19, pos := by decide, cs := LnA.cs, d := lnA0, ok := fun w x => x.Ok w, len := fun h => LnA.len h, one := LnA.one, below := fun h hb => LnA.below h hb }
def MnA.v (m : MnA) : Value := .agg m.cs.toArray
def MnA.Ok (w : World) (m : MnA) : Prop := m.base.length = 32 ∧ AllBytes m.base ∧ KLn.row w m.A m.c m.ls
theorem MnA.below {w w' : World} {m : MnA} (h : m.Ok w) (hb : Below w.heap.size w w') : m.Ok w' := ⟨h.1, h.2.1, Kind.row_below h.2.2 hb (Nat.le_refl _)⟩
theorem MnA.len {w : World} {m : MnA} (h : m.Ok w) : m.cs.length = 33 := by simp [MnA.cs, h.1]
theorem sizeEn (w : World) : (sizeOf 46).run Tryz.prog w = .ok KEn.n w := by
 simp [sizeOf, go_sem]
 rfl
theorem sizeLn (w : World) : (sizeOf 35).run Tryz.prog w = .ok KLn.n w := by
 simp [sizeOf, go_sem]
 rfl
theorem nEn : KEn.n ≤ 1000 := by decide
theorem nLn : KLn.n ≤ 1000 := by decide
theorem infoEn : (Tryz.prog.info? 46).map (fun i => (i.zero, i.size, i.bytes)) = some (some (KEn.v enA0), 37, 88) := by kernel_rfl
theorem infoLn : (Tryz.prog.info? 35).map (fun i => (i.zero, i.size, i.bytes)) = some (some (KLn.v lnA0), 19, 56) := by kernel_rfl
theorem infoMn : (Tryz.prog.info? 26).map (fun i => (i.zero, i.size, i.bytes)) = some (some mnA0.v, 33, 56) := by kernel_rfl
theorem zeroEn (w : World) : (zeroValue 46).run Tryz.prog w = .ok (KEn.v enA0) w := by
 obtain ⟨i, hi, hz, hs, hb⟩ := info_parts infoEn
 simp [zeroValue, typeInfo, hi, hz, Sem.run_bind]
theorem zeroLn (w : World) : (zeroValue 35).run Tryz.prog w = .ok (KLn.v lnA0) w := by
 obtain ⟨i, hi, hz, hs, hb⟩ := info_parts infoLn
 simp [zeroValue, typeInfo, hi, hz, Sem.run_bind]
theorem zeroMn (w : World) : (zeroValue 26).run Tryz.prog w = .ok mnA0.v w := by
 obtain ⟨i, hi, hz, hs, hb⟩ := info_parts infoMn
 simp [zeroValue, typeInfo, hi, hz, Sem.run_bind]
theorem load_en {w : World} {b o : Nat} {x : EnA} (h : KEn.at w b o x) (hx : x.Ok w) : (loadVar 46 ⟨b, o, none⟩).run Tryz.prog w = .ok (KEn.v x) w :=
 Kind.at_load h (EnA.len hx) Tryz.underlying46 rfl (by obtain ⟨i, hi, _, hs, _⟩ := info_parts infoEn; rw [hi]; exact congrArg some hs)
theorem load_ln {w : World} {b o : Nat} {x : LnA} (h : KLn.at w b o x) (hx : x.Ok w) : (loadVar 35 ⟨b, o, none⟩).run Tryz.prog w = .ok (KLn.v x) w :=
 Kind.at_load h (LnA.len hx) Tryz.underlying35 rfl (by obtain ⟨i, hi, _, hs, _⟩ := info_parts infoLn; rw [hi]; exact congrArg some hs)
theorem en_row {w : World} {A : Option Addr} {c : Nat} {xs : List EnA} (h : KEn.row w A c xs) (h0 : 0 < xs.length) : ∃ b off, A = some ⟨b, off, none⟩ ∧ b < w.heap.size ∧ (∀ i, i < xs.length → KEn.at w b (off + i * 37) (xs.getD i enA0)) ∧ ∀ (i : Nat), i < xs.length → ∀ (I : Int), I = i → ∀ (X : World), (Instr.indexAt 33 (.slice (some ⟨b, off, none⟩) xs.length c) (.int .i64 I)).run Tryz.prog X = .ok (.pointer (some ⟨b, off + i * 37, none⟩)) X := by
 obtain ⟨b, off, hA, hb, hc⟩ := h.2.2.2.1 h0
 exact ⟨b, off, hA, hb, hc, fun i hi I e X => Kind.ix (K := KEn) (P := Tryz.prog) (ts := 33) Tryz.underlying33 (fun w => sizeEn w) hi I e X⟩
theorem ln_row {w : World} {A : Option Addr} {c : Nat} {xs : List LnA} (h : KLn.row w A c xs) (h0 : 0 < xs.length) : ∃ b off, A = some ⟨b, off, none⟩ ∧ b < w.heap.size ∧ (∀ i, i < xs.length → KLn.at w b (off + i * 19) (xs.getD i lnA0)) ∧ ∀ (i : Nat), i < xs.length → ∀ (I : Int), I = i → ∀ (X : World), (Instr.indexAt 24 (.slice (some ⟨b, off, none⟩) xs.length c) (.int .i64 I)).run Tryz.prog X = .ok (.pointer (some ⟨b, off + i * 19, none⟩)) X := by
 obtain ⟨b, off, hA, hb, hc⟩ := h.2.2.2.1 h0
 exact ⟨b, off, hA, hb, hc, fun i hi I e X => Kind.ix (K := KLn) (P := Tryz.prog) (ts := 24) Tryz.underlying24 (fun w => sizeLn w) hi I e X⟩
end
section
open Go.RowKit WM
set_option maxRecDepth 100000
def KId : Kind (List Int) := { n := 16, pos := by decide, cs := fun z => z.map (Value.int .u8), d := [], ok := fun _ z => z.length = 16 ∧ AllBytes z, len := fun h => (List.length_map _).trans h.1, one := byte_ones, below := fun h _ => h }
theorem infoIdM : (Tryz.prog.info? 30).map (·.size) = some 16 := by kernel_rfl
theorem load_idM {w : World} {b o : Nat} {z : List Int} (h : KId.at w b o z) (hz : z.length = 16) : (loadVar 30 ⟨b, o, none⟩).run Tryz.prog w = .ok (.agg (bvals z)) w :=
 Kind.at_load (K := KId) h (by show (z.map (Value.int .u8)).length = 16; rw [List.length_map, hz]) Tryz.underlying30 rfl infoIdM
theorem guardIdM : Tryz.prog.eqGuardType Tryz.prog.depth 30 = false := by kernel_rfl
theorem guardStM : Tryz.prog.eqGuardType Tryz.prog.depth 32 = false := by kernel_rfl
theorem eq_st {n r m s : Int} (w : World) : (Op.equalIn 10000 32 (.agg #[.int .i64 n, .int .i64 r]) (.agg #[.int .i64 m, .int .i64 s])).run Tryz.prog w = .ok (decide (n = m ∧ r = s)) w := by
 by_cases h : n = m ∧ r = s
 ·rw [decide_eq_true h]
  obtain ⟨rfl, rfl⟩ := h
  go_simp
 ·rw [decide_eq_false h]
  exact st_ne h w
section
variable {w : World} {b o : Nat}
theorem en_c0 {x : EnA} (h : KEn.at w b o x) : w.cell? ⟨b, o, none⟩ = some (.int .i64 x.e.no) := (h 0 (by decide)).trans rfl
theorem en_c1 {x : EnA} (h : KEn.at w b o x) : w.cell? ⟨b, o + 1, none⟩ = some (.int .i64 x.e.n) := (h 1 (by decide)).trans rfl
theorem en_c2 {x : EnA} (h : KEn.at w b o x) : w.cell? ⟨b, o + 2, none⟩ = some (.int .i64 x.e.r) := (h 2 (by decide)).trans rfl
theorem en_c3 {x : EnA} (h : KEn.at w b o x) : w.cell? ⟨b, o + 3, none⟩ = some (.int .i64 x.e.len) := (h 3 (by decide)).trans rfl
theorem en_dig {x : EnA} (h : KEn.at w b o x) (hx : x.e.ds.length = 32) : KDig.at w b (o + 4) x.e.ds := fun j hj => by
 have hj : j < 32 := hj
 have h1 := h (j + 4) (show j + 4 < 37 by omega)
 rw [show o + (j + 4) = o + 4 + j by omega] at h1
 rw [h1]
 show (Value.int .i64 x.e.no :: .int .i64 x.e.n :: .int .i64 x.e.r :: .int .i64 x.e.len :: (x.e.ds.map (Value.int .u8) ++ [.slice x.A x.e.bs.length x.c]))[j + 4]? = _
 simp only [List.getElem?_cons_succ]
 exact List.getElem?_append_left (by rw [List.length_map, hx]; exact hj)
theorem en_c36 {x : EnA} (h : KEn.at w b o x) (hx : x.e.ds.length = 32) : w.cell? ⟨b, o + 36, none⟩ = some (.slice x.A x.e.bs.length x.c) := by
 rw [h 36 (by decide)]
 show (Value.int .i64 x.e.no :: .int .i64 x.e.n :: .int .i64 x.e.r :: .int .i64 x.e.len :: (x.e.ds.map (Value.int .u8) ++ [.slice x.A x.e.bs.length x.c]))[36]? = _
 simp only [List.getElem?_cons_succ]
 rw [List.getElem?_append_right (by rw [List.length_map, hx]; decide), List.length_map, hx]
 rfl
theorem ln_id {x : LnA} (h : KLn.at w b o x) (hx : x.z.length = 16) : KId.at w b o x.z := fun j hj => by
 have hj : j < 16 := hj
 rw [h j (show j < 19 by omega)]
 exact List.getElem?_append_left (by rw [List.length_map, hx]; exact hj)
theorem ln_cR {x : LnA} (h : KLn.at w b o x) (hx : x.z.length = 16) (i : Nat) (hi : i < 3) : w.cell? ⟨b, o + (16 + i), none⟩ = [Value.int .i64 x.n, .int .i64 x.r, .slice x.A x.es.length x.c][i]? := by
 rw [h (16 + i) (show 16 + i < 19 by omega)]
 show (x.z.map (Value.int .u8) ++ [Value.int .i64 x.n, .int .i64 x.r, .slice x.A x.es.length x.c])[16 + i]? = _
 rw [List.getElem?_append_right (by rw [List.length_map, hx]; omega), List.length_map, hx, Nat.add_sub_cancel_left]
theorem ln_c16 {x : LnA} (h : KLn.at w b o x) (hx : x.z.length = 16) : w.cell? ⟨b, o + 16, none⟩ = some (.int .i64 x.n) := ln_cR h hx 0 (by decide)
theorem ln_c17 {x : LnA} (h : KLn.at w b o x) (hx : x.z.length = 16) : w.cell? ⟨b, o + 17, none⟩ = some (.int .i64 x.r) := ln_cR h hx 1 (by decide)
theorem ln_c18 {x : LnA} (h : KLn.at w b o x) (hx : x.z.length = 16) : w.cell? ⟨b, o + 18, none⟩ = some (.slice x.A x.es.length x.c) := ln_cR h hx 2 (by decide)
end
theorem wpList_eqlM {P : Program} {ops : Array Oper} {rest : List Oper} {o : Oper} {a : Act} {w : World} {Q : Exit → Act → World → Prop} (hw : Region.wanted o (yielded ops a.tmps) = true) (t : TypeId) (x y : Operand) (u : TypeId) (ho : o.op = .binOp .eql t x y u)
  {xs ys : Array Value} (hx : a.eval x = .agg xs) (hy : a.eval y = .agg ys) (hm : P.eqGuardType P.depth t = false) {b : Bool} (h1 : (Op.equalIn 10000 t (.agg xs) (.agg ys)).run P w = .ok b w)
  (h : wpList P ops Q rest (a.put o.dst (.bool b)) w) : wpList P ops Q (o :: rest) a w :=
 BigFrame.wpList_want hw fun _ hK => by
  unfold Oper.wp
  rw [exec_eql_at t x y u ho hx hy hm h1]
  exact hK _ _ h
theorem wpList_neqM {P : Program} {ops : Array Oper} {rest : List Oper} {o : Oper} {a : Act} {w : World} {Q : Exit → Act → World → Prop} (hw : Region.wanted o (yielded ops a.tmps) = true) (t : TypeId) (x y : Operand) (u : TypeId) (ho : o.op = .binOp .neq t x y u)
  {xs ys : Array Value} (hx : a.eval x = .agg xs) (hy : a.eval y = .agg ys) (hm : P.eqGuardType P.depth t = false) {b : Bool} (h1 : (Op.equalIn 10000 t (.agg xs) (.agg ys)).run P w = .ok b w)
  (h : wpList P ops Q rest (a.put o.dst (.bool !b)) w) : wpList P ops Q (o :: rest) a w :=
 BigFrame.wpList_want hw fun _ hK => by
  unfold Oper.wp
  rw [exec_neq_at t x y u ho hx hy hm h1]
  exact hK _ _ h
def MnAt (w : World) (b : Nat) (m : MnA) : Prop := w.heap[b]? = some (.cells m.cs.toArray 26)
theorem MnAt.lt {w : World} {b : Nat} {m : MnA} (h : MnAt w b m) : b < w.heap.size := (Array.getElem?_eq_some_iff.1 h).1
theorem MnAt.below {w w' : World} {b B : Nat} {m : MnA} (h : MnAt w b m) (hb : Below B w w') (hB : b < B) : MnAt w' b m := (hb.block b hB).trans h
theorem MnAt.dig {w : World} {b : Nat} {m : MnA} (h : MnAt w b m) (hx : m.base.length = 32) : KDig.at w b 0 m.base := fun j hj => by
 have hj : j < 32 := hj
 rw [Nat.zero_add, cell_of_row _ _ _ _ _ _ h, List.getElem?_toArray]
 exact List.getElem?_append_left (by rw [List.length_map, hx]; exact hj)
theorem MnAt.c32 {w : World} {b : Nat} {m : MnA} (h : MnAt w b m) (hx : m.base.length = 32) : w.cell? ⟨b, 32, none⟩ = some (.slice m.A m.ls.length m.c) := by
 rw [cell_of_row _ _ _ _ _ _ h, List.getElem?_toArray]
 show (m.base.map (Value.int .u8) ++ [.slice m.A m.ls.length m.c])[32]? = _
 rw [List.getElem?_append_right (by rw [List.length_map, hx]; decide), List.length_map, hx]
 rfl
end
section
open Go.RowKit WM
set_option maxRecDepth 100000
theorem enOk_eq (n r last : Int) (e : En) : enOk n r last e = (may e.n e.r && (stLess n r e.n e.r && (decide (last < e.no) && (decide (e.no < 8) && (decide (0 ≤ e.len) && (decide (e.len ≤ 200) && (if e.len < 24 then decide ((e.bs.length : Int) = 0) else decide ((e.bs.length : Int) = e.len / 8)))))))) := by
 unfold enOk
 rw [Bool.eq_iff_iff]
 simp only [Bool.and_eq_true, decide_eq_true_eq]
 by_cases h : e.len < 24
 ·rw [if_pos h, if_pos h]
  simp only [decide_eq_true_eq]
  constructor
  ·rintro ⟨⟨⟨a, b⟩, c, d, e, f⟩, g⟩; exact ⟨a, b, c, d, e, f, by omega⟩
  ·rintro ⟨a, b, c, d, e, f, g⟩; exact ⟨⟨⟨a, b⟩, c, d, e, f⟩, by omega⟩
 ·rw [if_neg h, if_neg h]
  simp only [decide_eq_true_eq]
  constructor
  ·rintro ⟨⟨⟨a, b⟩, c, d, e, f⟩, g⟩; exact ⟨a, b, c, d, e, f, g⟩
  ·rintro ⟨a, b, c, d, e, f, g⟩; exact ⟨⟨⟨a, b⟩, c, d, e, f⟩, g⟩
end
section
open Go.RowKit WM
set_option maxRecDepth 100000
def fewME (x : LnA) : Bool := decide (x.es.length ≤ 12) && x.es.all fun e => decide (e.e.bs.length ≤ 40)
theorem mfew_A (m : MnA) : mfew m.m = (decide (m.ls.length ≤ 14) && m.ls.all fewME) := by
 simp [mfew, MnA.m, LnA.x, List.all_map, Function.comp_def]
 rfl
theorem MnAt.new (w : World) (m : MnA) : MnAt (w.alloc (.cells m.cs.toArray 26)) w.heap.size m := heap_alloc_new w _
theorem fewM_drop {ls : List LnA} {k : Nat} (hk : k < ls.length) : (ls.drop k).all fewME = (fewME (ls.getD k lnA0) && (ls.drop (k + 1)).all fewME) := by
 rw [List.drop_eq_getElem_cons hk, List.all_cons, List.getD_eq_getElem?_getD, List.getElem?_eq_getElem hk]
 rfl
def fewMB (e : EnA) : Bool := decide (e.e.bs.length ≤ 40)
theorem fewM_dropE {es : List EnA} {k : Nat} (hk : k < es.length) : (es.drop k).all fewMB = (fewMB (es.getD k enA0) && (es.drop (k + 1)).all fewMB) := by
 rw [List.drop_eq_getElem_cons hk, List.all_cons, List.getD_eq_getElem?_getD, List.getElem?_eq_getElem hk]
 rfl
set_option maxHeartbeats 8000000 in
theorem rfew12_any (m : MnA) (w : World) (h : m.Ok w) : Calls Tryz.prog 5 #[m.v] w fun e w' => e = .returned (.bool (mfew m.m)) ∧ Below w.heap.size w w' := by
 rw [mfew_A]
 have hmn := MnAt.new w m
 obtain ⟨w1, hw1⟩ : ∃ w1, w1 = w.alloc (.cells m.cs.toArray 26) := ⟨_, rfl⟩
 rw [← hw1] at hmn
 have hb1 : Below w.heap.size w w1 := by rw [hw1]; exact (Below.refl _ _).alloc (Nat.le_refl _) _
 have h1 := MnA.below h (hb1.mono (Nat.le_refl _))
 have HB1 := Lib.hid hb1
 have HC := Lib.hid (fun X (hX : Below w1.heap.size w1 X) => (hmn.below hX hmn.lt).c32 h1.1)
 have HR := Lib.hid (fun h0 => ln_row h1.2.2 h0)
 have HOK := Lib.hid (fun k (hk : k < m.ls.length) => show LnA.Ok w1 (m.ls.getD k lnA0) from Kind.row_ok h1.2.2 hk)
 have hv : m.v = .agg m.cs.toArray := rfl
 have c1 := HC.out w1 (Below.refl _ _)
 rw [hv]
 have HV0 := Lib.hid (show (decide (m.ls.length ≤ 14) && m.ls.all fewME) = (decide (m.ls.length ≤ 14) && (m.ls.drop 0).all fewME) from rfl)
 generalize (decide (m.ls.length ≤ 14) && m.ls.all fewME) = V at *
 generalize m.cs.toArray = E at *
 obtain ⟨base, A, c, ls⟩ := m
 dsimp only at *
 have HFD := Lib.hid (fun k (hk : k < ls.length) => fewM_drop hk)
 generalize hn : ls.length = n at *
 have HN := Lib.hid hn
 clear h h1 hmn hv hb1 hn
 subst hw1
 go_enter Tryz.func5, Tryz.ntmps5
 by_cases t0 : (14 : Int) < (n : Int)
 ·have HF := Lib.hid (show V = false by rw [HV0.out, decide_eq_false (p := n ≤ 14) (by omega)]; rfl)
  go_wp2
  go_ret
  exact ⟨by rw [HF.out]; try rfl, HB1.out⟩
 have HV1 := Lib.hid (show V = (ls.drop 0).all fewME by rw [HV0.out, decide_eq_true (p := n ≤ 14) (by omega), Bool.true_and])
 clear HV0
 go_wp2
 clear c1
 generalize w.alloc (.cells E 26) = w1 at *
 go_loopw [3] (fun i wr => ∃ k : Nat, k ≤ n ∧ i = .int .i64 k ∧ Below w1.heap.size w1 wr ∧ V = (ls.drop k).all fewME) (fun i _ => n - (intOf i).toNat)
 case atStart => exact ⟨0, Nat.zero_le _, rfl, Below.refl _ _, HV1.out⟩
 case round =>
  obtain ⟨k, hk, rfl, hb, hf⟩ := hrel
  have HBB := Lib.hid hb
  have B9 := Lib.hid (HB1.out.trans (hb.mono HB1.out.size))
  have cc1 := HC.out wr hb
  by_cases hlt : k < n
  ·have t1 : (k : Int) < (n : Int) := by omega
   obtain ⟨b1, off1, hA1, hb1w, hx1, hi1⟩ := HR.out (by omega)
   have ix1 := hi1 k hlt k rfl
   rw [← hA1] at ix1
   have hok := HOK.out k hlt
   have s18 := (hb.cell (p := ⟨b1, off1 + k * 19 + 18, none⟩) hb1w).trans (ln_c18 (hx1 k hlt) hok.1)
   have HS18 := Lib.hid (fun X (hX : Below w1.heap.size w1 X) => (hX.cell (p := ⟨b1, off1 + k * 19 + 18, none⟩) hb1w).trans (ln_c18 (hx1 k hlt) hok.1))
   rw [HFD.out k hlt] at hf
   generalize ls.getD k lnA0 = x at *
   have HE := Lib.hid (fun h0 => en_row hok.2.2.2.2 h0)
   have HEO := Lib.hid (fun j (hj : j < x.es.length) => show EnA.Ok w1 (x.es.getD j enA0) from Kind.row_ok hok.2.2.2.2 hj)
   obtain ⟨z, q, r, Ae, ce, es⟩ := x
   dsimp only at s18 HS18 HE HEO
   have hfe : fewME ⟨z, q, r, Ae, ce, es⟩ = (decide (es.length ≤ 12) && es.all fewMB) := rfl
   rw [hfe] at hf
   have HFE := Lib.hid (fun j (hj : j < es.length) => fewM_dropE hj)
   generalize hm : es.length = M at *
   have HM := Lib.hid hm
   generalize hrst : (ls.drop (k + 1)).all fewME = rest at *
   have HRST := Lib.hid hrst
   have HFF := Lib.hid hf
   clear hx1 hi1 hA1 hok hf hb hfe hm hrst
   by_cases t2 : (12 : Int) < (M : Int)
   ·have HF := Lib.hid (show V = false by rw [HFF.out, decide_eq_false (p := M ≤ 12) (by omega)]; rfl)
    go_wp2
    go_ret
    exact ⟨by rw [HF.out]; try rfl, B9.out⟩
   have HF0 := Lib.hid (show V = ((es.drop 0).all fewMB && rest) by rw [HFF.out, decide_eq_true (p := M ≤ 12) (by omega)]; rfl)
   go_wp2
   clear cc1 s18
   go_loopw [4] (fun i wr2 => ∃ j : Nat, j ≤ M ∧ i = .int .i64 j ∧ Below w1.heap.size w1 wr2 ∧ V = ((es.drop j).all fewMB && rest)) (fun i _ => M - (intOf i).toNat)
   case atStart => exact ⟨0, Nat.zero_le _, rfl, HBB.out, HF0.out⟩
   case round =>
    obtain ⟨j, hj, rfl, hb2, hf2⟩ := hrel
    have HB2 := Lib.hid hb2
    have B10 := Lib.hid (HB1.out.trans (hb2.mono HB1.out.size))
    have cc1 := HC.out _ hb2
    have s18 := HS18.out _ hb2
    by_cases hjt : j < M
    ·have t3 : (j : Int) < (M : Int) := by omega
     obtain ⟨b2, off2, hA2, hb2w, hx2, hi2⟩ := HE.out (by omega)
     have ix2 := hi2 j hjt j rfl
     rw [← hA2] at ix2
     have hokE := HEO.out j hjt
     have s36 := (hb2.cell (p := ⟨b2, off2 + j * 37 + 36, none⟩) hb2w).trans (en_c36 (hx2 j hjt) hokE.2.2.2.2.1)
     rw [HFE.out j hjt] at hf2
     generalize es.getD j enA0 = y at *
     have hfy : fewMB y = decide (y.e.bs.length ≤ 40) := rfl
     rw [hfy] at hf2
     have HF2 := Lib.hid hf2
     clear hx2 hi2 hA2 hokE hf2 hb2 hfy
     by_cases t4 : (40 : Int) < (y.e.bs.length : Int)
     ·have HF := Lib.hid (show V = false by rw [HF2.out, decide_eq_false (p := y.e.bs.length ≤ 40) (by omega)]; rfl)
      go_wp2
      go_ret
      exact ⟨by rw [HF.out]; try rfl, B10.out⟩
     ·have HF := Lib.hid (show V = ((es.drop (j + 1)).all fewMB && rest) by rw [HF2.out, decide_eq_true (p := y.e.bs.length ≤ 40) (by omega), Bool.true_and])
      go_wp2
      go_roundw
      case rel => exact ⟨j + 1, by omega, by go_num, HB2.out, HF.out⟩
      case measure => simp [intOf]; omega
    ·obtain rfl : j = M := by omega
     have t3 : ¬ (j : Int) < (j : Int) := by omega
     have HF := Lib.hid (show V = rest by rw [hf2, List.drop_eq_nil_of_le (by rw [HM.out]; exact Nat.le_refl _)]; rfl)
     clear hf2 hb2
     go_wp2
     go_roundw
     case rel => exact ⟨k + 1, by omega, by go_num, HB2.out, by rw [HRST.out]; exact HF.out⟩
     case measure => simp [intOf]; omega
  ·obtain rfl : k = n := by omega
   have t1 : ¬ (k : Int) < (k : Int) := by omega
   have HF := Lib.hid (show V = true by rw [hf, List.drop_eq_nil_of_le (by rw [HN.out]; exact Nat.le_refl _)]; rfl)
   clear hf hb
   go_wp2
   go_ret
   exact ⟨by rw [HF.out]; try rfl, B9.out⟩
end
end Go.Proofs.YtkjimhlpbgeagaaGreatDoor
