import Derived.Test.YtbkopnpafmjicaaGreatDoorQ0
import Derived.Test.YtbkopnpafmjicaaGreatDoorQ2
import Derived.Test.YtbkopnpafmjicaaGreatDoorQ12
import Derived.Test.YtbkopnpafmjicaaGreatDoorQ5
import Derived.Maps.OwnSet
import Derived.Maps.Views
import Derived.DeepKeys4
import Derived.Test.YtbkopnpafmjicaaGreatDoorQ7
import Derived.Test.YtbkopnpafmjicaaGreatDoorQ1
import Derived.Test.YtbkopnpafmjicaaGreatDoorQ6
/-
  What the functions that a law of this layer reaches answer, part 13. Nothing that was there is written.
-/
namespace Go.Proofs.YtbkopnpafmjicaaGreatDoor
set_option linter.unusedVariables false
set_option linter.unusedSimpArgs false
section
open Go.RowKit WM
set_option maxRecDepth 100000
def Sg.cs (x : Sg) : List Value := .int .u32 x.wk :: x.ds.map (Value.int .u8)
theorem Sg.cs_len {x : Sg} (h : x.Ok) : x.cs.length = 33 := by simp [Sg.cs, h.2.2.1]
theorem Sg.cs_one (x : Sg) (u : Value) (hu : u ∈ x.cs) : u.oneCell' = true := by
 rcases List.mem_cons.1 hu with rfl | hu
 ·rfl
 ·obtain ⟨z, _, rfl⟩ := List.mem_map.1 hu
  rfl
def KSig : Kind Sg := { n := 33, pos := by decide, cs := Sg.cs, d := sg0, ok := fun _ x => x.Ok, len := fun h => Sg.cs_len h, one := Sg.cs_one, below := fun h _ => h }
theorem sizeSig (w : World) : (sizeOf 100).run Tryz.prog w = .ok 33 w := by
 simp [sizeOf, go_sem]
 rfl
theorem infoSig : (Tryz.prog.info? 100).map (fun i => (i.zero, i.size, i.bytes)) = some (some (KSig.v ⟨0, List.replicate 32 0⟩), 33, 36) := by kernel_rfl
theorem zeroSig (w : World) : (zeroValue 100).run Tryz.prog w = .ok (KSig.v ⟨0, List.replicate 32 0⟩) w := by
 obtain ⟨i, hi, hz, hs, hb⟩ := info_parts infoSig
 simp [zeroValue, typeInfo, hi, hz, Sem.run_bind]
theorem sig_inj {x y : Sg} (h : KSig.v x = KSig.v y) : x = y := by
 have h1 := congrArg (fun v => v.cells.toList) h
 simp only [Kind.v, KSig, Sg.cs, Value.cells, List.cons.injEq, Value.int.injEq, true_and] at h1
 obtain ⟨h2, h3⟩ := h1
 have h4 : (x.ds.map (Value.int .u8)).map intOf = (y.ds.map (Value.int .u8)).map intOf := congrArg (List.map intOf) h3
 rw [List.map_map, List.map_map] at h4
 have h5 : x.ds = y.ds := by simpa [Function.comp_def, intOf] using h4
 cases x
 cases y
 simp_all
theorem mapM_givesS {α β : Type} {f : α → Option β} {g : α → β} : ∀ (l : List α), (∀ x ∈ l, f x = some (g x)) → l.mapM f = some (l.map g)
 | [], _ => rfl
 | x :: l, h => by
  rw [List.mapM_cons, h x (by simp), mapM_givesS l (fun y hy => h y (by simp [hy]))]
  rfl
theorem key_dig {z : List Int} (h : z.length = 32) (hb : AllBytes z) (d : Nat) : ∃ ls, Tryz.prog.keyLits (d + 2) 26 (z.map (Value.int .u8)) = some ls := by
 have c1 : Tryz.prog.cellsOf 5 = 1 := by kernel_rfl
 have c32 : Tryz.prog.cellsOf 26 = 32 := by kernel_rfl
 unfold Program.keyLits
 rw [Tryz.underlying26]
 dsimp only
 rw [if_pos (by rw [List.length_map, h, c32])]
 rw [mapM_givesS (g := fun i => [Lit.int .u8 (z.getD i 0)]) _ (fun i hi => ?_)]
 ·exact ⟨_, rfl⟩
 ·have hi : i < 32 := by simpa using hi
  have e : ((z.map (Value.int .u8)).drop (i * Tryz.prog.cellsOf 5)).take (Tryz.prog.cellsOf 5) = [.int .u8 (z.getD i 0)] := by
   rw [c1, Nat.mul_one]
   apply List.ext_getElem?
   intro j
   cases j with
   | zero => simp [List.getD, List.getElem?_eq_getElem (show i < z.length by omega)]
   | succ j => rw [List.getElem?_eq_none (by simp; omega), List.getElem?_eq_none (by simp)]
  rw [e]
  have hz := hb (z.getD i 0) (by rw [List.getD_eq_getElem?_getD, List.getElem?_eq_getElem (show i < z.length by omega)]; exact List.getElem_mem _)
  unfold Program.keyLits
  rw [Tryz.underlying5]
  dsimp only
  rw [if_pos]
  refine ⟨rfl, ?_⟩
  generalize z.getD i 0 = q at *
  simp [Lit.wf, IntKind.min, IntKind.max, IntKind.bits, IntKind.signed]
  omega
theorem key_sig {x : Sg} (h : x.Ok) : ∃ l, keyOf Tryz.prog 100 (KSig.v x) = some l := by
 have c33 : Tryz.prog.cellsOf 100 = 33 := by kernel_rfl
 have c32 : Tryz.prog.cellsOf 26 = 32 := by kernel_rfl
 have c1 : Tryz.prog.cellsOf 98 = 1 := by kernel_rfl
 have kt : Tryz.prog.keyType 100 = true := by kernel_rfl
 have hs : ∃ d, Tryz.prog.types.size + 1 = d + 3 := ⟨Tryz.prog.types.size - 2, by have : 2 ≤ Tryz.prog.types.size := of_decide_eq_true (by kernel_rfl); omega⟩
 obtain ⟨d, hd⟩ := hs
 obtain ⟨ls, hls⟩ := key_dig h.2.2.1 h.2.2.2 d
 have hw : (Lit.int .u32 x.wk).wf = true := by
  have := h.1
  have := h.2.1
  simp [Lit.wf, IntKind.min, IntKind.max, IntKind.bits, IntKind.signed]
  omega
 have h1 : Tryz.prog.keyLits (d + 2) 98 [.int .u32 x.wk] = some [Lit.int .u32 x.wk] := by
  unfold Program.keyLits
  rw [Tryz.underlying98]
  dsimp only
  rw [if_pos ⟨rfl, hw⟩]
 have hk : ∃ l, Tryz.prog.keyLits (d + 3) 100 x.cs = some l := by
  unfold Program.keyLits
  rw [Tryz.underlying100]
  dsimp only
  rw [if_pos ⟨by rw [Sg.cs_len h, c33], by kernel_rfl⟩]
  simp only [List.mapM_cons, List.mapM_nil, c32, c1, Sg.cs]
  rw [show List.take 1 (List.drop 0 (Value.int .u32 x.wk :: x.ds.map (Value.int .u8))) = [Value.int .u32 x.wk] from rfl, h1]
  rw [show List.take 32 (List.drop 1 (Value.int .u32 x.wk :: x.ds.map (Value.int .u8))) = x.ds.map (Value.int .u8) from List.take_of_length_le (by simp [h.2.2.1]), hls]
  exact ⟨_, rfl⟩
 obtain ⟨l, hl⟩ := hk
 refine ⟨.string (keyBytes l), ?_⟩
 unfold keyOf
 rw [Tryz.underlying100]
 dsimp only
 rw [if_pos (by rw [kt]; simp [Value.formed, Kind.v, KSig, Tryz.underlying100, Sg.cs_len h, c33]), hd]
 show ((Tryz.prog.keyLits (d + 3) 100 x.cs).map fun ls => Lit.string (keyBytes ls)) = _
 rw [hl]
 rfl
theorem sgLaw : WideMaps.KeyLaw Tryz.prog 100 := deep_law (m := 3) (by decide) (by kernel_rfl) (by kernel_rfl) (by rw [Tryz.underlying100])
theorem eq_sig {x y : Sg} (hx : x.Ok) (hy : y.Ok) (w : World) : (Op.equalIn 10000 100 (KSig.v x) (KSig.v y)).run Tryz.prog w = .ok (decide (x = y)) w := by
 obtain ⟨k, hk⟩ := key_sig hx
 obtain ⟨l, hl⟩ := key_sig hy
 obtain ⟨r, h1, h2⟩ := run_equal_deep w (m := 3) (by decide) (k := 100) (by kernel_rfl) (by rw [Tryz.underlying100]) hk hl
 have h3 : r = decide (x = y) := by
  rw [Bool.eq_iff_iff, h2, decide_eq_true_iff]
  constructor
  ·rintro rfl
   exact sig_inj (sgLaw.inj hk hl)
  ·rintro rfl
   rw [hk] at hl
   exact Option.some.inj hl
 rw [← h3]
 exact h1
theorem list32 {z : List Int} (h : z.length = 32) : ∃ a0 a1 a2 a3 a4 a5 a6 a7 a8 a9 a10 a11 a12 a13 a14 a15 a16 a17 a18 a19 a20 a21 a22 a23 a24 a25 a26 a27 a28 a29 a30 a31, z = [a0, a1, a2, a3, a4, a5, a6, a7, a8, a9, a10, a11, a12, a13, a14, a15, a16, a17, a18, a19, a20, a21, a22, a23, a24, a25, a26, a27, a28, a29, a30, a31] := by
 match z, h with
 | [a0, a1, a2, a3, a4, a5, a6, a7, a8, a9, a10, a11, a12, a13, a14, a15, a16, a17, a18, a19, a20, a21, a22, a23, a24, a25, a26, a27, a28, a29, a30, a31], _ => exact ⟨a0, a1, a2, a3, a4, a5, a6, a7, a8, a9, a10, a11, a12, a13, a14, a15, a16, a17, a18, a19, a20, a21, a22, a23, a24, a25, a26, a27, a28, a29, a30, a31, rfl⟩
theorem built_list {z : List Int} (h : z.length = 32) (n : Int) : Tryz.prog.built 100 [(0, .int .u32 n), (1, .agg (bvals z))] = some (KSig.cs ⟨n, z⟩).toArray := by
 obtain ⟨a0, a1, a2, a3, a4, a5, a6, a7, a8, a9, a10, a11, a12, a13, a14, a15, a16, a17, a18, a19, a20, a21, a22, a23, a24, a25, a26, a27, a28, a29, a30, a31, rfl⟩ := list32 h
 kernel_rfl
theorem build_sig {x : Sg} (h : x.ds.length = 32) (w : World) : (Instr.build 100 #[(0, .int .u32 x.wk), (1, .agg (bvals x.ds))]).run Tryz.prog w = .ok (KSig.v x) w := run_build w _ _ _ (built_list h x.wk)
theorem sizeSigK (w : World) : (sizeOf 100).run Tryz.prog w = .ok KSig.n w := sizeSig w
theorem nSig : KSig.n ≤ 1000 := by decide
def sgz : Sg := ⟨0, List.replicate 32 0⟩
theorem sgz_ok : sgz.Ok := by unfold sgz Sg.Ok AllBytes; decide
theorem sig_size {x : Sg} (h : x.Ok) : (Tryz.prog.info? 100).map (·.size) = some (KSig.cs x).toArray.size := by
 obtain ⟨i, hi, _, hs, _⟩ := info_parts infoSig
 rw [hi, List.size_toArray, show (KSig.cs x).length = 33 from Sg.cs_len h, ← hs]
 rfl
theorem sig_same {x y : Sg} (hx : x.Ok) (hy : y.Ok) : (KSig.cs x).toArray.size = (KSig.cs y).toArray.size := by
 rw [List.size_toArray, List.size_toArray, show (KSig.cs x).length = 33 from Sg.cs_len hx, show (KSig.cs y).length = 33 from Sg.cs_len hy]
theorem sig_ones (x : Sg) : (KSig.cs x).toArray.all (·.oneCell') = true := by
 rw [Array.all_eq_true_iff_forall_mem]
 intro u hu
 exact KSig.one x u (by simpa using hu)
theorem load_sig {w : World} {b o : Nat} {x : Sg} (h : KSig.at w b o x) (hx : x.Ok) : (loadVar 100 ⟨b, o, none⟩).run Tryz.prog w = .ok (KSig.v x) w :=
 Kind.at_load h (Sg.cs_len hx) Tryz.underlying100 rfl (by obtain ⟨i, hi, _, hs, _⟩ := info_parts infoSig; rw [hi]; exact congrArg some hs)
theorem sig_row {w : World} {A : Option Addr} {c : Nat} {xs : List Sg} (h : KSig.row w A c xs) (h0 : 0 < xs.length) : ∃ b off, A = some ⟨b, off, none⟩ ∧ b < w.heap.size ∧ (∀ i, i < xs.length → KSig.at w b (off + i * 33) (xs.getD i sg0)) ∧ ∀ (i : Nat), i < xs.length → ∀ (I : Int), I = i → ∀ (X : World), (Instr.indexAt 46 (.slice (some ⟨b, off, none⟩) xs.length c) (.int .i64 I)).run Tryz.prog X = .ok (.pointer (some ⟨b, off + i * 33, none⟩)) X := by
 obtain ⟨b, off, hA, hb, hc⟩ := h.2.2.2.1 h0
 exact ⟨b, off, hA, hb, hc, fun i hi I e X => Kind.ix (K := KSig) (P := Tryz.prog) (ts := 46) Tryz.underlying46 (fun w => sizeSig w) hi I e X⟩
theorem load_sigK {w w9 : World} {b o : Nat} {x : Sg} (h : KSig.at w b o x) (hx : x.Ok) (hb : Below w.heap.size w w9) (hlt : b < w.heap.size) : (loadVar 100 ⟨b, o, none⟩).run Tryz.prog w9 = .ok (KSig.v x) w9 :=
 load_sig (Kind.at_same h (hb.block b hlt)) hx
theorem guardSig : Tryz.prog.eqGuardType Tryz.prog.depth 100 = false := by kernel_rfl
theorem byte_ones (x : List Int) (u : Value) (hu : u ∈ x.map (Value.int .u8)) : u.oneCell' = true := by
 obtain ⟨z, _, rfl⟩ := List.mem_map.1 hu
 rfl
def KDig : Kind (List Int) := { n := 32, pos := by decide, cs := fun z => z.map (Value.int .u8), d := [], ok := fun _ z => z.length = 32 ∧ AllBytes z, len := fun h => (List.length_map _).trans h.1, one := byte_ones, below := fun h _ => h }
theorem load_dig {w : World} {b o : Nat} {z : List Int} (h : KDig.at w b o z) (hz : z.length = 32) : (loadVar 26 ⟨b, o, none⟩).run Tryz.prog w = .ok (.agg (bvals z)) w :=
 Kind.at_load (K := KDig) h (by show (z.map (Value.int .u8)).length = 32; rw [List.length_map, hz]) Tryz.underlying26 rfl (by rw [sizeD]; rfl)
theorem guardDig : Tryz.prog.eqGuardType Tryz.prog.depth 26 = false := by kernel_rfl
end
section
open Go.RowKit WM
set_option maxRecDepth 100000
structure EnA where
 e : En
 A : Option Addr
 c : Nat
structure LnA where
 z : List Int
 n : Int
 r : Int
 A : Option Addr
 c : Nat
 es : List EnA
structure MnA where
 base : List Int
 A : Option Addr
 c : Nat
 ls : List LnA
def enA0 : EnA := ⟨en0, none, 0⟩
def lnA0 : LnA := ⟨z16m, 0, 0, none, 0, []⟩
def mnA0 : MnA := ⟨z32m, none, 0, []⟩
def LnA.x (x : LnA) : Ln := ⟨x.z, x.n, x.r, x.es.map (·.e)⟩
def MnA.m (m : MnA) : Mn := ⟨m.base, m.ls.map (·.x)⟩
def EnA.cs (x : EnA) : List Value := .int .i64 x.e.no :: .int .i64 x.e.n :: .int .i64 x.e.r :: .int .i64 x.e.len :: (x.e.ds.map (Value.int .u8) ++ [.slice x.A x.e.bs.length x.c])
def LnA.cs (x : LnA) : List Value := x.z.map (Value.int .u8) ++ [.int .i64 x.n, .int .i64 x.r, .slice x.A x.es.length x.c]
def MnA.cs (m : MnA) : List Value := m.base.map (Value.int .u8) ++ [.slice m.A m.ls.length m.c]
def EnA.Ok (w : World) (x : EnA) : Prop := (Lit.int .i64 x.e.no).wf = true ∧ (Lit.int .i64 x.e.n).wf = true ∧ (Lit.int .i64 x.e.r).wf = true ∧ (Lit.int .i64 x.e.len).wf = true ∧ x.e.ds.length = 32 ∧ AllBytes x.e.ds ∧ KSig.row w x.A x.c x.e.bs
theorem EnA.len {w : World} {x : EnA} (h : x.Ok w) : x.cs.length = 37 := by simp [EnA.cs, h.2.2.2.2.1]
theorem EnA.one (x : EnA) (u : Value) (hu : u ∈ x.cs) : u.oneCell' = true := by
 simp only [EnA.cs, List.mem_cons, List.mem_append, List.not_mem_nil, or_false] at hu
 rcases hu with rfl | rfl | rfl | rfl | hu | rfl
 ·rfl
 ·rfl
 ·rfl
 ·rfl
 ·exact byte_ones _ u hu
 ·rfl
theorem EnA.below {w w' : World} {x : EnA} (h : x.Ok w) (hb : Below w.heap.size w w') : x.Ok w' := ⟨h.1, h.2.1, h.2.2.1, h.2.2.2.1, h.2.2.2.2.1, h.2.2.2.2.2.1, Kind.row_below h.2.2.2.2.2.2 hb (Nat.le_refl _)⟩
def KEn : Kind EnA := { n := 37, pos := by decide, cs := EnA.cs, d := enA0, ok := fun w x => x.Ok w, len := fun h => EnA.len h, one := EnA.one, below := fun h hb => EnA.below h hb }
def LnA.Ok (w : World) (x : LnA) : Prop := x.z.length = 16 ∧ AllBytes x.z ∧ (Lit.int .i64 x.n).wf = true ∧ (Lit.int .i64 x.r).wf = true ∧ KEn.row w x.A x.c x.es
theorem LnA.len {w : World} {x : LnA} (h : x.Ok w) : x.cs.length = 19 := by simp [LnA.cs, h.1]
theorem LnA.one (x : LnA) (u : Value) (hu : u ∈ x.cs) : u.oneCell' = true := by
 simp only [LnA.cs, List.mem_cons, List.mem_append, List.not_mem_nil, or_false] at hu
 rcases hu with hu | rfl | rfl | rfl
 ·exact byte_ones _ u hu
 ·rfl
 ·rfl
 ·rfl
theorem LnA.below {w w' : World} {x : LnA} (h : x.Ok w) (hb : Below w.heap.size w w') : x.Ok w' := ⟨h.1, h.2.1, h.2.2.1, h.2.2.2.1, Kind.row_below h.2.2.2.2 hb (Nat.le_refl _)⟩
def KLn : Kind LnA := { n := 19, pos := by decide, cs := LnA.cs, d := lnA0, ok := fun w x => x.Ok w, len := fun h => LnA.len h, one := LnA.one, below := fun h hb => LnA.below h hb }
def MnA.v (m : MnA) : Value := .agg m.cs.toArray
def MnA.Ok (w : World) (m : MnA) : Prop := m.base.length = 32 ∧ AllBytes m.base ∧ KLn.row w m.A m.c m.ls
theorem MnA.below {w w' : World} {m : MnA} (h : m.Ok w) (hb : Below w.heap.size w w') : m.Ok w' := ⟨h.1, h.2.1, Kind.row_below h.2.2 hb (Nat.le_refl _)⟩
theorem MnA.len {w : World} {m : MnA} (h : m.Ok w) : m.cs.length = 33 := by simp [MnA.cs, h.1]
theorem sizeEn (w : World) : (sizeOf 48).run Tryz.prog w = .ok KEn.n w := by
 simp [sizeOf, go_sem]
 rfl
theorem sizeLn (w : World) : (sizeOf 43).run Tryz.prog w = .ok KLn.n w := by
 simp [sizeOf, go_sem]
 rfl
theorem nEn : KEn.n ≤ 1000 := by decide
theorem nLn : KLn.n ≤ 1000 := by decide
theorem infoEn : (Tryz.prog.info? 48).map (fun i => (i.zero, i.size, i.bytes)) = some (some (KEn.v enA0), 37, 88) := by kernel_rfl
theorem infoLn : (Tryz.prog.info? 43).map (fun i => (i.zero, i.size, i.bytes)) = some (some (KLn.v lnA0), 19, 56) := by kernel_rfl
theorem infoMn : (Tryz.prog.info? 29).map (fun i => (i.zero, i.size, i.bytes)) = some (some mnA0.v, 33, 56) := by kernel_rfl
theorem zeroEn (w : World) : (zeroValue 48).run Tryz.prog w = .ok (KEn.v enA0) w := by
 obtain ⟨i, hi, hz, hs, hb⟩ := info_parts infoEn
 simp [zeroValue, typeInfo, hi, hz, Sem.run_bind]
theorem zeroLn (w : World) : (zeroValue 43).run Tryz.prog w = .ok (KLn.v lnA0) w := by
 obtain ⟨i, hi, hz, hs, hb⟩ := info_parts infoLn
 simp [zeroValue, typeInfo, hi, hz, Sem.run_bind]
theorem zeroMn (w : World) : (zeroValue 29).run Tryz.prog w = .ok mnA0.v w := by
 obtain ⟨i, hi, hz, hs, hb⟩ := info_parts infoMn
 simp [zeroValue, typeInfo, hi, hz, Sem.run_bind]
theorem load_en {w : World} {b o : Nat} {x : EnA} (h : KEn.at w b o x) (hx : x.Ok w) : (loadVar 48 ⟨b, o, none⟩).run Tryz.prog w = .ok (KEn.v x) w :=
 Kind.at_load h (EnA.len hx) Tryz.underlying48 rfl (by obtain ⟨i, hi, _, hs, _⟩ := info_parts infoEn; rw [hi]; exact congrArg some hs)
theorem load_ln {w : World} {b o : Nat} {x : LnA} (h : KLn.at w b o x) (hx : x.Ok w) : (loadVar 43 ⟨b, o, none⟩).run Tryz.prog w = .ok (KLn.v x) w :=
 Kind.at_load h (LnA.len hx) Tryz.underlying43 rfl (by obtain ⟨i, hi, _, hs, _⟩ := info_parts infoLn; rw [hi]; exact congrArg some hs)
theorem en_row {w : World} {A : Option Addr} {c : Nat} {xs : List EnA} (h : KEn.row w A c xs) (h0 : 0 < xs.length) : ∃ b off, A = some ⟨b, off, none⟩ ∧ b < w.heap.size ∧ (∀ i, i < xs.length → KEn.at w b (off + i * 37) (xs.getD i enA0)) ∧ ∀ (i : Nat), i < xs.length → ∀ (I : Int), I = i → ∀ (X : World), (Instr.indexAt 41 (.slice (some ⟨b, off, none⟩) xs.length c) (.int .i64 I)).run Tryz.prog X = .ok (.pointer (some ⟨b, off + i * 37, none⟩)) X := by
 obtain ⟨b, off, hA, hb, hc⟩ := h.2.2.2.1 h0
 exact ⟨b, off, hA, hb, hc, fun i hi I e X => Kind.ix (K := KEn) (P := Tryz.prog) (ts := 41) Tryz.underlying41 (fun w => sizeEn w) hi I e X⟩
theorem ln_row {w : World} {A : Option Addr} {c : Nat} {xs : List LnA} (h : KLn.row w A c xs) (h0 : 0 < xs.length) : ∃ b off, A = some ⟨b, off, none⟩ ∧ b < w.heap.size ∧ (∀ i, i < xs.length → KLn.at w b (off + i * 19) (xs.getD i lnA0)) ∧ ∀ (i : Nat), i < xs.length → ∀ (I : Int), I = i → ∀ (X : World), (Instr.indexAt 27 (.slice (some ⟨b, off, none⟩) xs.length c) (.int .i64 I)).run Tryz.prog X = .ok (.pointer (some ⟨b, off + i * 19, none⟩)) X := by
 obtain ⟨b, off, hA, hb, hc⟩ := h.2.2.2.1 h0
 exact ⟨b, off, hA, hb, hc, fun i hi I e X => Kind.ix (K := KLn) (P := Tryz.prog) (ts := 27) Tryz.underlying27 (fun w => sizeLn w) hi I e X⟩
end
section
open Go.RowKit WM
set_option maxRecDepth 100000
def KId : Kind (List Int) := { n := 16, pos := by decide, cs := fun z => z.map (Value.int .u8), d := [], ok := fun _ z => z.length = 16 ∧ AllBytes z, len := fun h => (List.length_map _).trans h.1, one := byte_ones, below := fun h _ => h }
theorem infoIdM : (Tryz.prog.info? 38).map (·.size) = some 16 := by kernel_rfl
theorem load_idM {w : World} {b o : Nat} {z : List Int} (h : KId.at w b o z) (hz : z.length = 16) : (loadVar 38 ⟨b, o, none⟩).run Tryz.prog w = .ok (.agg (bvals z)) w :=
 Kind.at_load (K := KId) h (by show (z.map (Value.int .u8)).length = 16; rw [List.length_map, hz]) Tryz.underlying38 rfl infoIdM
theorem guardIdM : Tryz.prog.eqGuardType Tryz.prog.depth 38 = false := by kernel_rfl
theorem guardStM : Tryz.prog.eqGuardType Tryz.prog.depth 40 = false := by kernel_rfl
theorem eq_st {n r m s : Int} (w : World) : (Op.equalIn 10000 40 (.agg #[.int .i64 n, .int .i64 r]) (.agg #[.int .i64 m, .int .i64 s])).run Tryz.prog w = .ok (decide (n = m ∧ r = s)) w := by
 by_cases h : n = m ∧ r = s
 ·rw [decide_eq_true h]
  obtain ⟨rfl, rfl⟩ := h
  go_simp
 ·rw [decide_eq_false h]
  exact st_ne h w
section
variable {w : World} {b o : Nat}
theorem en_c0 {x : EnA} (h : KEn.at w b o x) : w.cell? ⟨b, o, none⟩ = some (.int .i64 x.e.no) := (h 0 (by decide)).trans rfl
theorem en_c1 {x : EnA} (h : KEn.at w b o x) : w.cell? ⟨b, o + 1, none⟩ = some (.int .i64 x.e.n) := (h 1 (by decide)).trans rfl
theorem en_c2 {x : EnA} (h : KEn.at w b o x) : w.cell? ⟨b, o + 2, none⟩ = some (.int .i64 x.e.r) := (h 2 (by decide)).trans rfl
theorem en_c3 {x : EnA} (h : KEn.at w b o x) : w.cell? ⟨b, o + 3, none⟩ = some (.int .i64 x.e.len) := (h 3 (by decide)).trans rfl
theorem en_dig {x : EnA} (h : KEn.at w b o x) (hx : x.e.ds.length = 32) : KDig.at w b (o + 4) x.e.ds := fun j hj => by
 have hj : j < 32 := hj
 have h1 := h (j + 4) (show j + 4 < 37 by omega)
 rw [show o + (j + 4) = o + 4 + j by omega] at h1
 rw [h1]
 show (Value.int .i64 x.e.no :: .int .i64 x.e.n :: .int .i64 x.e.r :: .int .i64 x.e.len :: (x.e.ds.map (Value.int .u8) ++ [.slice x.A x.e.bs.length x.c]))[j + 4]? = _
 simp only [List.getElem?_cons_succ]
 exact List.getElem?_append_left (by rw [List.length_map, hx]; exact hj)
theorem en_c36 {x : EnA} (h : KEn.at w b o x) (hx : x.e.ds.length = 32) : w.cell? ⟨b, o + 36, none⟩ = some (.slice x.A x.e.bs.length x.c) := by
 rw [h 36 (by decide)]
 show (Value.int .i64 x.e.no :: .int .i64 x.e.n :: .int .i64 x.e.r :: .int .i64 x.e.len :: (x.e.ds.map (Value.int .u8) ++ [.slice x.A x.e.bs.length x.c]))[36]? = _
 simp only [List.getElem?_cons_succ]
 rw [List.getElem?_append_right (by rw [List.length_map, hx]; decide), List.length_map, hx]
 rfl
theorem ln_id {x : LnA} (h : KLn.at w b o x) (hx : x.z.length = 16) : KId.at w b o x.z := fun j hj => by
 have hj : j < 16 := hj
 rw [h j (show j < 19 by omega)]
 exact List.getElem?_append_left (by rw [List.length_map, hx]; exact hj)
theorem ln_cR {x : LnA} (h : KLn.at w b o x) (hx : x.z.length = 16) (i : Nat) (hi : i < 3) : w.cell? ⟨b, o + (16 + i), none⟩ = [Value.int .i64 x.n, .int .i64 x.r, .slice x.A x.es.length x.c][i]? := by
 rw [h (16 + i) (show 16 + i < 19 by omega)]
 show (x.z.map (Value.int .u8) ++ [Value.int .i64 x.n, .int .i64 x.r, .slice x.A x.es.length x.c])[16 + i]? = _
 rw [List.getElem?_append_right (by rw [List.length_map, hx]; omega), List.length_map, hx, Nat.add_sub_cancel_left]
theorem ln_c16 {x : LnA} (h : KLn.at w b o x) (hx : x.z.length = 16) : w.cell? ⟨b, o + 16, none⟩ = some (.int .i64 x.n) := ln_cR h hx 0 (by decide)
theorem ln_c17 {x : LnA} (h : KLn.at w b o x) (hx : x.z.length = 16) : w.cell? ⟨b, o + 17, none⟩ = some (.int .i64 x.r) := ln_cR h hx 1 (by decide)
theorem ln_c18 {x : LnA} (h : KLn.at w b o x) (hx : x.z.length = 16) : w.cell? ⟨b, o + 18, none⟩ = some (.slice x.A x.es.length x.c) := ln_cR h hx 2 (by decide)
end
theorem wpList_eqlM {P : Program} {ops : Array Oper} {rest : List Oper} {o : Oper} {a : Act} {w : World} {Q : Exit → Act → World → Prop} (hw : Region.wanted o (yielded ops a.tmps) = true) (t : TypeId) (x y : Operand) (u : TypeId) (ho : o.op = .binOp .eql t x y u)
  {xs ys : Array Value} (hx : a.eval x = .agg xs) (hy : a.eval y = .agg ys) (hm : P.eqGuardType P.depth t = false) {b : Bool} (h1 : (Op.equalIn 10000 t (.agg xs) (.agg ys)).run P w = .ok b w)
  (h : wpList P ops Q rest (a.put o.dst (.bool b)) w) : wpList P ops Q (o :: rest) a w :=
 BigFrame.wpList_want hw fun _ hK => by
  unfold Oper.wp
  rw [exec_eql_at t x y u ho hx hy hm h1]
  exact hK _ _ h
theorem wpList_neqM {P : Program} {ops : Array Oper} {rest : List Oper} {o : Oper} {a : Act} {w : World} {Q : Exit → Act → World → Prop} (hw : Region.wanted o (yielded ops a.tmps) = true) (t : TypeId) (x y : Operand) (u : TypeId) (ho : o.op = .binOp .neq t x y u)
  {xs ys : Array Value} (hx : a.eval x = .agg xs) (hy : a.eval y = .agg ys) (hm : P.eqGuardType P.depth t = false) {b : Bool} (h1 : (Op.equalIn 10000 t (.agg xs) (.agg ys)).run P w = .ok b w)
  (h : wpList P ops Q rest (a.put o.dst (.bool !b)) w) : wpList P ops Q (o :: rest) a w :=
 BigFrame.wpList_want hw fun _ hK => by
  unfold Oper.wp
  rw [exec_neq_at t x y u ho hx hy hm h1]
  exact hK _ _ h
def MnAt (w : World) (b : Nat) (m : MnA) : Prop := w.heap[b]? = some (.cells m.cs.toArray 29)
theorem MnAt.lt {w : World} {b : Nat} {m : MnA} (h : MnAt w b m) : b < w.heap.size := (Array.getElem?_eq_some_iff.1 h).1
theorem MnAt.below {w w' : World} {b B : Nat} {m : MnA} (h : MnAt w b m) (hb : Below B w w') (hB : b < B) : MnAt w' b m := (hb.block b hB).trans h
theorem MnAt.dig {w : World} {b : Nat} {m : MnA} (h : MnAt w b m) (hx : m.base.length = 32) : KDig.at w b 0 m.base := fun j hj => by
 have hj : j < 32 := hj
 rw [Nat.zero_add, cell_of_row _ _ _ _ _ _ h, List.getElem?_toArray]
 exact List.getElem?_append_left (by rw [List.length_map, hx]; exact hj)
theorem MnAt.c32 {w : World} {b : Nat} {m : MnA} (h : MnAt w b m) (hx : m.base.length = 32) : w.cell? ⟨b, 32, none⟩ = some (.slice m.A m.ls.length m.c) := by
 rw [cell_of_row _ _ _ _ _ _ h, List.getElem?_toArray]
 show (m.base.map (Value.int .u8) ++ [.slice m.A m.ls.length m.c])[32]? = _
 rw [List.getElem?_append_right (by rw [List.length_map, hx]; decide), List.length_map, hx]
 rfl
end
section
section
open Go.RowKit WM
set_option maxHeartbeats 1000000 in
theorem rdmay_any (n r : Int) (w : World) : Calls Tryz.prog 42 #[st n r] w fun e w' => e = .returned (.bool (may n r)) ∧ Below w.heap.size w w' := by
 unfold st
 have hbel := Lib.hid (fun (o : Obj) => (Below.refl w.heap.size w).alloc (Nat.le_refl _) o)
 by_cases h0 : n = 0
 ·subst h0
  by_cases h1 : r = 0
  ·subst h1
   have hm := Lib.hid (show may 0 0 = true by decide)
   go_enter Tryz.func42, Tryz.ntmps42
   go_wp2
   go_ret
   exact ⟨by rw [hm.out]; rfl, hbel.out _⟩
  ·have hm := Lib.hid (show may 0 r = false by rw [may, decide_eq_false_iff_not]; omega)
   have h2 : (r == 0) = false := by simpa using h1
   go_enter Tryz.func42, Tryz.ntmps42
   go_wp2
   go_ret
   exact ⟨by rw [hm.out]; rfl, hbel.out _⟩
 ·by_cases h1 : 1 ≤ n
  ·by_cases h2 : n ≤ 1099511627776
   ·by_cases h3 : 0 ≤ r
    ·have hm := Lib.hid (show may n r = decide (r < 8) by rw [may, decide_eq_decide]; omega)
     go_enter Tryz.func42, Tryz.ntmps42
     go_wp2
     go_ret
     exact ⟨by rw [hm.out]; rfl, hbel.out _⟩
    ·have hm := Lib.hid (show may n r = false by rw [may, decide_eq_false_iff_not]; omega)
     go_enter Tryz.func42, Tryz.ntmps42
     go_wp2
     go_ret
     exact ⟨by rw [hm.out]; rfl, hbel.out _⟩
   ·have hm := Lib.hid (show may n r = false by rw [may, decide_eq_false_iff_not]; omega)
    go_enter Tryz.func42, Tryz.ntmps42
    go_wp2
    go_ret
    exact ⟨by rw [hm.out]; rfl, hbel.out _⟩
  ·have hm := Lib.hid (show may n r = false by rw [may, decide_eq_false_iff_not]; omega)
   go_enter Tryz.func42, Tryz.ntmps42
   go_wp2
   go_ret
   exact ⟨by rw [hm.out]; rfl, hbel.out _⟩
set_option maxHeartbeats 1000000 in
theorem rless_any (n r m s : Int) (w : World) : Calls Tryz.prog 71 #[st n r, st m s] w fun e w' => e = .returned (.bool (stLess n r m s)) ∧ Below w.heap.size w w' := by
 unfold st
 have hbel := Lib.hid (fun (o o' : Obj) => ((Below.refl w.heap.size w).alloc (Nat.le_refl _) o).alloc (by simp) o')
 by_cases h1 : n < m
 ·have hm := Lib.hid (show stLess n r m s = true by rw [stLess, decide_eq_true_iff]; omega)
  go_enter Tryz.func71, Tryz.ntmps71
  go_wp2
  go_ret
  exact ⟨by rw [hm.out]; rfl, hbel.out _ _⟩
 ·by_cases h2 : n = m
  ·subst h2
   have hm := Lib.hid (show stLess n r n s = decide (r < s) by rw [stLess, decide_eq_decide]; omega)
   go_enter Tryz.func71, Tryz.ntmps71
   go_wp2
   go_ret
   exact ⟨by rw [hm.out]; rfl, hbel.out _ _⟩
  ·have hm := Lib.hid (show stLess n r m s = false by rw [stLess, decide_eq_false_iff_not]; omega)
   have h2' : (n == m) = false := by simpa using h2
   go_enter Tryz.func71, Tryz.ntmps71
   go_wp2
   go_ret
   exact ⟨by rw [hm.out]; rfl, hbel.out _ _⟩
end
end
section
open Go.RowKit WM
set_option maxRecDepth 100000
structure EnSt (w : World) (x : EnA) (n r : Int) (X : World) : Prop where
 en : KEn.blk 48 X w.heap.size x
 st : X.heap[w.heap.size + 1]? = some (.cells #[.int .i64 n, .int .i64 r] 40)
 below : Below w.heap.size w X
theorem EnSt.go {w X Y : World} {x : EnA} {n r : Int} (h : EnSt w x n r X) (hb : Below X.heap.size X Y) : EnSt w x n r Y :=
 ⟨Kind.blk_below h.en hb (Kind.blk_lt h.en), (hb.block _ (Array.getElem?_eq_some_iff.1 h.st).1).trans h.st, h.below.trans (hb.mono h.below.size)⟩
theorem EnSt.new (w : World) (x : EnA) (n r : Int) : EnSt w x n r ((w.alloc (.cells (KEn.cs x).toArray 48)).alloc (.cells #[.int .i64 n, .int .i64 r] 40)) := by
 refine ⟨Kind.blk_old (Kind.blk_new w x _) _, ?_, ((Below.refl _ _).alloc (Nat.le_refl _) _).alloc (by rw [World.size_alloc]; omega) _⟩
 have := heap_alloc_new (w.alloc (.cells (KEn.cs x).toArray 48)) (.cells #[.int .i64 n, .int .i64 r] 40)
 rw [World.size_alloc] at this
 exact this
theorem enOk_eq (n r last : Int) (e : En) : enOk n r last e = (may e.n e.r && (stLess n r e.n e.r && (decide (last < e.no) && (decide (e.no < 8) && (decide (0 ≤ e.len) && (decide (e.len ≤ 200) && (if e.len < 24 then decide ((e.bs.length : Int) = 0) else decide ((e.bs.length : Int) = e.len / 8)))))))) := by
 unfold enOk
 rw [Bool.eq_iff_iff]
 simp only [Bool.and_eq_true, decide_eq_true_eq]
 by_cases h : e.len < 24
 ·rw [if_pos h, if_pos h]
  simp only [decide_eq_true_eq]
  constructor
  ·rintro ⟨⟨⟨a, b⟩, c, d, e, f⟩, g⟩; exact ⟨a, b, c, d, e, f, by omega⟩
  ·rintro ⟨a, b, c, d, e, f, g⟩; exact ⟨⟨⟨a, b⟩, c, d, e, f⟩, by omega⟩
 ·rw [if_neg h, if_neg h]
  simp only [decide_eq_true_eq]
  constructor
  ·rintro ⟨⟨⟨a, b⟩, c, d, e, f⟩, g⟩; exact ⟨a, b, c, d, e, f, g⟩
  ·rintro ⟨a, b, c, d, e, f, g⟩; exact ⟨⟨⟨a, b⟩, c, d, e, f⟩, g⟩
set_option maxHeartbeats 8000000 in
theorem rentry_any (x : EnA) (last n r : Int) (w : World) (hx : x.Ok w) : Calls Tryz.prog 44 #[KEn.v x, .int .i64 last, st n r] w fun e w' => e = .returned (.bool (enOk n r last x.e)) ∧ Below w.heap.size w w' := by
 have HC1 := Lib.hid (fun X => rdmay_any x.e.n x.e.r X)
 have HC2 := Lib.hid (fun X => rless_any n r x.e.n x.e.r X)
 have S0 := EnSt.new w x n r
 have HDL := Lib.hid hx.2.2.2.2.1
 have hv : KEn.v x = .agg (KEn.cs x).toArray := rfl
 have HV := Lib.hid (enOk_eq n r last x.e)
 rw [hv]
 generalize enOk n r last x.e = V at *
 unfold st at HC1 HC2 ⊢
 obtain ⟨E, hE⟩ : ∃ E, E = (KEn.cs x).toArray := ⟨_, rfl⟩
 have S1 := Lib.hid S0
 have k1 := en_c1 (Kind.at_blk S0.en)
 have k2 := en_c2 (Kind.at_blk S0.en)
 rw [← hE] at S1 k1 k2 ⊢
 have HB := Lib.hid S0.below
 obtain ⟨⟨no, en, er, ln, ds, bs⟩, A, c⟩ := x
 dsimp only at k1 k2 HC1 HC2 HDL HV
 simp only [Nat.zero_add] at k1 k2
 generalize may en er = b1 at *
 generalize stLess n r en er = b2 at *
 clear S0 hv HB hE hx
 go_enter Tryz.func44, Tryz.ntmps44
 go_wp2_with fail
 refine (HC1.out _).mono ?_
 rintro e w1 ⟨rfl, hb⟩
 have S2 := Lib.hid (S1.out.go hb)
 have k1 := en_c1 (Kind.at_blk S2.out.en)
 have k2 := en_c2 (Kind.at_blk S2.out.en)
 have k3 : w1.cell? ⟨w.heap.size + 1, 0, none⟩ = some (.int .i64 n) := by rw [cell_of_row _ _ _ _ _ _ S2.out.st]; rfl
 have k4 : w1.cell? ⟨w.heap.size + 1, 1, none⟩ = some (.int .i64 r) := by rw [cell_of_row _ _ _ _ _ _ S2.out.st]; rfl
 simp only [Nat.zero_add] at k1 k2
 clear hb
 go_wp2_with fail
 refine (HC2.out _).mono ?_
 rintro e w2 ⟨rfl, hb⟩
 have S3 := Lib.hid (S2.out.go hb)
 have m0 := en_c0 (Kind.at_blk S3.out.en)
 have m3 := en_c3 (Kind.at_blk S3.out.en)
 have m4 := en_c36 (Kind.at_blk S3.out.en) HDL.out
 simp only [Nat.zero_add] at m0 m3 m4
 try dsimp only at m0 m3 m4
 clear hb k1 k2 k3 k4
 have B3 := Lib.hid S3.out.below
 cases b1
 ·have HF := Lib.hid (show V = false by rw [HV.out]; rfl)
  go_wp2
  go_ret
  exact ⟨by rw [HF.out]; try rfl, B3.out⟩
 cases b2
 ·have HF := Lib.hid (show V = false by rw [HV.out]; rfl)
  go_wp2
  go_ret
  exact ⟨by rw [HF.out]; try rfl, B3.out⟩
 by_cases t1 : no ≤ last
 ·have HF := Lib.hid (show V = false by rw [HV.out, decide_eq_false (show ¬ last < no by omega)]; rfl)
  go_wp2
  go_ret
  exact ⟨by rw [HF.out]; try rfl, B3.out⟩
 by_cases t2 : 8 ≤ no
 ·have HF := Lib.hid (show V = false by rw [HV.out, decide_eq_false (show ¬ no < 8 by omega)]; simp)
  go_wp2
  go_ret
  exact ⟨by rw [HF.out]; try rfl, B3.out⟩
 by_cases t3 : ln < 0
 ·have HF := Lib.hid (show V = false by rw [HV.out, decide_eq_false (show ¬ 0 ≤ ln by omega)]; simp)
  go_wp2
  go_ret
  exact ⟨by rw [HF.out]; try rfl, B3.out⟩
 by_cases t4 : 200 < ln
 ·have HF := Lib.hid (show V = false by rw [HV.out, decide_eq_false (show ¬ ln ≤ 200 by omega)]; simp)
  go_wp2
  go_ret
  exact ⟨by rw [HF.out]; try rfl, B3.out⟩
 by_cases t5 : ln < 24
 ·have HF := Lib.hid (show V = decide ((bs.length : Int) = 0) by rw [HV.out, decide_eq_true (show last < no by omega), decide_eq_true (show no < 8 by omega), decide_eq_true (show 0 ≤ ln by omega), decide_eq_true (show ln ≤ 200 by omega), if_pos t5]; rfl)
  go_wp2
  go_ret
  exact ⟨by rw [HF.out]; try rfl, B3.out⟩
 ·have HF := Lib.hid (show V = decide ((bs.length : Int) = ln / 8) by rw [HV.out, decide_eq_true (show last < no by omega), decide_eq_true (show no < 8 by omega), decide_eq_true (show 0 ≤ ln by omega), decide_eq_true (show ln ≤ 200 by omega), if_neg t5]; rfl)
  have hq : Int.tdiv ln 8 = ln / 8 := Int.tdiv_eq_ediv_of_nonneg (by omega)
  have hw9 : IntKind.i64.wrap (ln / 8) = ln / 8 := IntWalk.i64_in _ (by omega)
  go_wp2
  go_ret
  exact ⟨by rw [HF.out]; try rfl, B3.out⟩
end
section
open Go.RowKit WM
set_option maxRecDepth 100000
def fewME (x : LnA) : Bool := decide (x.es.length ≤ 12) && x.es.all fun e => decide (e.e.bs.length ≤ 40)
theorem mfew_A (m : MnA) : mfew m.m = (decide (m.ls.length ≤ 14) && m.ls.all fewME) := by
 simp [mfew, MnA.m, LnA.x, List.all_map, Function.comp_def]
 rfl
theorem MnAt.new (w : World) (m : MnA) : MnAt (w.alloc (.cells m.cs.toArray 29)) w.heap.size m := heap_alloc_new w _
theorem fewM_drop {ls : List LnA} {k : Nat} (hk : k < ls.length) : (ls.drop k).all fewME = (fewME (ls.getD k lnA0) && (ls.drop (k + 1)).all fewME) := by
 rw [List.drop_eq_getElem_cons hk, List.all_cons, List.getD_eq_getElem?_getD, List.getElem?_eq_getElem hk]
 rfl
def fewMB (e : EnA) : Bool := decide (e.e.bs.length ≤ 40)
theorem fewM_dropE {es : List EnA} {k : Nat} (hk : k < es.length) : (es.drop k).all fewMB = (fewMB (es.getD k enA0) && (es.drop (k + 1)).all fewMB) := by
 rw [List.drop_eq_getElem_cons hk, List.all_cons, List.getD_eq_getElem?_getD, List.getElem?_eq_getElem hk]
 rfl
set_option maxHeartbeats 8000000 in
theorem rfew12_any (m : MnA) (w : World) (h : m.Ok w) : Calls Tryz.prog 11 #[m.v] w fun e w' => e = .returned (.bool (mfew m.m)) ∧ Below w.heap.size w w' := by
 rw [mfew_A]
 have hmn := MnAt.new w m
 obtain ⟨w1, hw1⟩ : ∃ w1, w1 = w.alloc (.cells m.cs.toArray 29) := ⟨_, rfl⟩
 rw [← hw1] at hmn
 have hb1 : Below w.heap.size w w1 := by rw [hw1]; exact (Below.refl _ _).alloc (Nat.le_refl _) _
 have h1 := MnA.below h (hb1.mono (Nat.le_refl _))
 have HB1 := Lib.hid hb1
 have HC := Lib.hid (fun X (hX : Below w1.heap.size w1 X) => (hmn.below hX hmn.lt).c32 h1.1)
 have HR := Lib.hid (fun h0 => ln_row h1.2.2 h0)
 have HOK := Lib.hid (fun k (hk : k < m.ls.length) => show LnA.Ok w1 (m.ls.getD k lnA0) from Kind.row_ok h1.2.2 hk)
 have hv : m.v = .agg m.cs.toArray := rfl
 have c1 := HC.out w1 (Below.refl _ _)
 rw [hv]
 have HV0 := Lib.hid (show (decide (m.ls.length ≤ 14) && m.ls.all fewME) = (decide (m.ls.length ≤ 14) && (m.ls.drop 0).all fewME) from rfl)
 generalize (decide (m.ls.length ≤ 14) && m.ls.all fewME) = V at *
 generalize m.cs.toArray = E at *
 obtain ⟨base, A, c, ls⟩ := m
 dsimp only at *
 have HFD := Lib.hid (fun k (hk : k < ls.length) => fewM_drop hk)
 generalize hn : ls.length = n at *
 have HN := Lib.hid hn
 clear h h1 hmn hv hb1 hn
 subst hw1
 go_enter Tryz.func11, Tryz.ntmps11
 by_cases t0 : (14 : Int) < (n : Int)
 ·have HF := Lib.hid (show V = false by rw [HV0.out, decide_eq_false (p := n ≤ 14) (by omega)]; rfl)
  go_wp2
  go_ret
  exact ⟨by rw [HF.out]; try rfl, HB1.out⟩
 have HV1 := Lib.hid (show V = (ls.drop 0).all fewME by rw [HV0.out, decide_eq_true (p := n ≤ 14) (by omega), Bool.true_and])
 clear HV0
 go_wp2
 clear c1
 generalize w.alloc (.cells E 29) = w1 at *
 go_loopw [3] (fun i wr => ∃ k : Nat, k ≤ n ∧ i = .int .i64 k ∧ Below w1.heap.size w1 wr ∧ V = (ls.drop k).all fewME) (fun i _ => n - (intOf i).toNat)
 case atStart => exact ⟨0, Nat.zero_le _, rfl, Below.refl _ _, HV1.out⟩
 case round =>
  obtain ⟨k, hk, rfl, hb, hf⟩ := hrel
  have HBB := Lib.hid hb
  have B9 := Lib.hid (HB1.out.trans (hb.mono HB1.out.size))
  have cc1 := HC.out wr hb
  by_cases hlt : k < n
  ·have t1 : (k : Int) < (n : Int) := by omega
   obtain ⟨b1, off1, hA1, hb1w, hx1, hi1⟩ := HR.out (by omega)
   have ix1 := hi1 k hlt k rfl
   rw [← hA1] at ix1
   have hok := HOK.out k hlt
   have s18 := (hb.cell (p := ⟨b1, off1 + k * 19 + 18, none⟩) hb1w).trans (ln_c18 (hx1 k hlt) hok.1)
   have HS18 := Lib.hid (fun X (hX : Below w1.heap.size w1 X) => (hX.cell (p := ⟨b1, off1 + k * 19 + 18, none⟩) hb1w).trans (ln_c18 (hx1 k hlt) hok.1))
   rw [HFD.out k hlt] at hf
   generalize ls.getD k lnA0 = x at *
   have HE := Lib.hid (fun h0 => en_row hok.2.2.2.2 h0)
   have HEO := Lib.hid (fun j (hj : j < x.es.length) => show EnA.Ok w1 (x.es.getD j enA0) from Kind.row_ok hok.2.2.2.2 hj)
   obtain ⟨z, q, r, Ae, ce, es⟩ := x
   dsimp only at s18 HS18 HE HEO
   have hfe : fewME ⟨z, q, r, Ae, ce, es⟩ = (decide (es.length ≤ 12) && es.all fewMB) := rfl
   rw [hfe] at hf
   have HFE := Lib.hid (fun j (hj : j < es.length) => fewM_dropE hj)
   generalize hm : es.length = M at *
   have HM := Lib.hid hm
   generalize hrst : (ls.drop (k + 1)).all fewME = rest at *
   have HRST := Lib.hid hrst
   have HFF := Lib.hid hf
   clear hx1 hi1 hA1 hok hf hb hfe hm hrst
   by_cases t2 : (12 : Int) < (M : Int)
   ·have HF := Lib.hid (show V = false by rw [HFF.out, decide_eq_false (p := M ≤ 12) (by omega)]; rfl)
    go_wp2
    go_ret
    exact ⟨by rw [HF.out]; try rfl, B9.out⟩
   have HF0 := Lib.hid (show V = ((es.drop 0).all fewMB && rest) by rw [HFF.out, decide_eq_true (p := M ≤ 12) (by omega)]; rfl)
   go_wp2
   clear cc1 s18
   go_loopw [4] (fun i wr2 => ∃ j : Nat, j ≤ M ∧ i = .int .i64 j ∧ Below w1.heap.size w1 wr2 ∧ V = ((es.drop j).all fewMB && rest)) (fun i _ => M - (intOf i).toNat)
   case atStart => exact ⟨0, Nat.zero_le _, rfl, HBB.out, HF0.out⟩
   case round =>
    obtain ⟨j, hj, rfl, hb2, hf2⟩ := hrel
    have HB2 := Lib.hid hb2
    have B10 := Lib.hid (HB1.out.trans (hb2.mono HB1.out.size))
    have cc1 := HC.out _ hb2
    have s18 := HS18.out _ hb2
    by_cases hjt : j < M
    ·have t3 : (j : Int) < (M : Int) := by omega
     obtain ⟨b2, off2, hA2, hb2w, hx2, hi2⟩ := HE.out (by omega)
     have ix2 := hi2 j hjt j rfl
     rw [← hA2] at ix2
     have hokE := HEO.out j hjt
     have s36 := (hb2.cell (p := ⟨b2, off2 + j * 37 + 36, none⟩) hb2w).trans (en_c36 (hx2 j hjt) hokE.2.2.2.2.1)
     rw [HFE.out j hjt] at hf2
     generalize es.getD j enA0 = y at *
     have hfy : fewMB y = decide (y.e.bs.length ≤ 40) := rfl
     rw [hfy] at hf2
     have HF2 := Lib.hid hf2
     clear hx2 hi2 hA2 hokE hf2 hb2 hfy
     by_cases t4 : (40 : Int) < (y.e.bs.length : Int)
     ·have HF := Lib.hid (show V = false by rw [HF2.out, decide_eq_false (p := y.e.bs.length ≤ 40) (by omega)]; rfl)
      go_wp2
      go_ret
      exact ⟨by rw [HF.out]; try rfl, B10.out⟩
     ·have HF := Lib.hid (show V = ((es.drop (j + 1)).all fewMB && rest) by rw [HF2.out, decide_eq_true (p := y.e.bs.length ≤ 40) (by omega), Bool.true_and])
      go_wp2
      go_roundw
      case rel => exact ⟨j + 1, by omega, by go_num, HB2.out, HF.out⟩
      case measure => simp [intOf]; omega
    ·obtain rfl : j = M := by omega
     have t3 : ¬ (j : Int) < (j : Int) := by omega
     have HF := Lib.hid (show V = rest by rw [hf2, List.drop_eq_nil_of_le (by rw [HM.out]; exact Nat.le_refl _)]; rfl)
     clear hf2 hb2
     go_wp2
     go_roundw
     case rel => exact ⟨k + 1, by omega, by go_num, HB2.out, by rw [HRST.out]; exact HF.out⟩
     case measure => simp [intOf]; omega
  ·obtain rfl : k = n := by omega
   have t1 : ¬ (k : Int) < (k : Int) := by omega
   have HF := Lib.hid (show V = true by rw [hf, List.drop_eq_nil_of_le (by rw [HN.out]; exact Nat.le_refl _)]; rfl)
   clear hf hb
   go_wp2
   go_ret
   exact ⟨by rw [HF.out]; try rfl, B9.out⟩
end
end Go.Proofs.YtbkopnpafmjicaaGreatDoor
