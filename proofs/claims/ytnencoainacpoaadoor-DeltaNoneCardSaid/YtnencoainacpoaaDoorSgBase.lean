import Derived.Test.YtnencoainacpoaaDoorSgMath
import Derived.Test.YtnencoainacpoaaDoorGRow
import Derived.Test.YtnencoainacpoaaDoorGShaD
import Derived.Test.YtnencoainacpoaaDoorGRl
import Derived.Maps.OwnSet
import Derived.Maps.Views
import Derived.DeepKeys4
/-
  A block's check and digest in memory: cells, rows, equality, and as a map's key.
-/
namespace Go.Proofs.YtnencoainacpoaaDoor
open Go.RowKit WM
set_option linter.unusedVariables false
set_option maxRecDepth 100000
def Sg.cs (x : Sg) : List Value := .int .u32 x.wk :: x.ds.map (Value.int .u8)
theorem Sg.cs_len {x : Sg} (h : x.Ok) : x.cs.length = 33 := by simp [Sg.cs, h.2.2.1]
theorem Sg.cs_one (x : Sg) (u : Value) (hu : u ∈ x.cs) : u.oneCell' = true := by
  rcases List.mem_cons.1 hu with rfl | hu
  · rfl
  · obtain ⟨z, _, rfl⟩ := List.mem_map.1 hu
    rfl
def KSig : Kind Sg := { n := 33, pos := by decide, cs := Sg.cs, d := sg0, ok := fun _ x => x.Ok, len := fun h => Sg.cs_len h, one := Sg.cs_one, below := fun h _ => h }
theorem sizeSig (w : World) : (sizeOf 81).run Tryd.prog w = .ok 33 w := by
  simp [sizeOf, go_sem]
  rfl
theorem infoSig : (Tryd.prog.info? 81).map (fun i => (i.zero, i.size, i.bytes)) = some (some (KSig.v ⟨0, List.replicate 32 0⟩), 33, 36) := by kernel_rfl
theorem zeroSig (w : World) : (zeroValue 81).run Tryd.prog w = .ok (KSig.v ⟨0, List.replicate 32 0⟩) w := by
  obtain ⟨i, hi, hz, hs, hb⟩ := info_parts infoSig
  simp [zeroValue, typeInfo, hi, hz, Sem.run_bind]
theorem sig_v (x : Sg) : KSig.v x = .agg (.int .u32 x.wk :: x.ds.map (Value.int .u8)).toArray := rfl
theorem sig_inj {x y : Sg} (h : KSig.v x = KSig.v y) : x = y := by
  have h1 := congrArg (fun v => v.cells.toList) h
  simp only [Kind.v, KSig, Sg.cs, Value.cells, List.cons.injEq, Value.int.injEq, true_and] at h1
  obtain ⟨h2, h3⟩ := h1
  have h4 : (x.ds.map (Value.int .u8)).map intOf = (y.ds.map (Value.int .u8)).map intOf := congrArg (List.map intOf) h3
  rw [List.map_map, List.map_map] at h4
  have h5 : x.ds = y.ds := by simpa [Function.comp_def, intOf] using h4
  cases x
  cases y
  simp_all
theorem mapM_gives {α β : Type} {f : α → Option β} {g : α → β} : ∀ (l : List α), (∀ x ∈ l, f x = some (g x)) → l.mapM f = some (l.map g)
  | [], _ => rfl
  | x :: l, h => by
    rw [List.mapM_cons, h x (by simp), mapM_gives l (fun y hy => h y (by simp [hy]))]
    rfl
theorem key_dig {z : List Int} (h : z.length = 32) (hb : AllBytes z) (d : Nat) : ∃ ls, Tryd.prog.keyLits (d + 2) 39 (z.map (Value.int .u8)) = some ls := by
  have c1 : Tryd.prog.cellsOf 5 = 1 := by kernel_rfl
  have c32 : Tryd.prog.cellsOf 39 = 32 := by kernel_rfl
  unfold Program.keyLits
  rw [Tryd.underlying39]
  dsimp only
  rw [if_pos (by rw [List.length_map, h, c32])]
  rw [mapM_gives (g := fun i => [Lit.int .u8 (z.getD i 0)]) _ (fun i hi => ?_)]
  · exact ⟨_, rfl⟩
  · have hi : i < 32 := by simpa using hi
    have e : ((z.map (Value.int .u8)).drop (i * Tryd.prog.cellsOf 5)).take (Tryd.prog.cellsOf 5) = [.int .u8 (z.getD i 0)] := by
      rw [c1, Nat.mul_one]
      apply List.ext_getElem?
      intro j
      cases j with
      | zero => simp [List.getD, List.getElem?_eq_getElem (show i < z.length by omega)]
      | succ j => rw [List.getElem?_eq_none (by simp; omega), List.getElem?_eq_none (by simp)]
    rw [e]
    have hz := hb (z.getD i 0) (by rw [List.getD_eq_getElem?_getD, List.getElem?_eq_getElem (show i < z.length by omega)]; exact List.getElem_mem _)
    unfold Program.keyLits
    rw [Tryd.underlying5]
    dsimp only
    rw [if_pos]
    refine ⟨rfl, ?_⟩
    generalize z.getD i 0 = q at *
    simp [Lit.wf, IntKind.min, IntKind.max, IntKind.bits, IntKind.signed]
    omega
theorem key_sig {x : Sg} (h : x.Ok) : ∃ l, keyOf Tryd.prog 81 (KSig.v x) = some l := by
  have c33 : Tryd.prog.cellsOf 81 = 33 := by kernel_rfl
  have c32 : Tryd.prog.cellsOf 39 = 32 := by kernel_rfl
  have c1 : Tryd.prog.cellsOf 79 = 1 := by kernel_rfl
  have kt : Tryd.prog.keyType 81 = true := by kernel_rfl
  have hs : ∃ d, Tryd.prog.types.size + 1 = d + 3 := ⟨Tryd.prog.types.size - 2, by have : 2 ≤ Tryd.prog.types.size := of_decide_eq_true (by kernel_rfl); omega⟩
  obtain ⟨d, hd⟩ := hs
  obtain ⟨ls, hls⟩ := key_dig h.2.2.1 h.2.2.2 d
  have hw : (Lit.int .u32 x.wk).wf = true := by
    have := h.1
    have := h.2.1
    simp [Lit.wf, IntKind.min, IntKind.max, IntKind.bits, IntKind.signed]
    omega
  have h1 : Tryd.prog.keyLits (d + 2) 79 [.int .u32 x.wk] = some [Lit.int .u32 x.wk] := by
    unfold Program.keyLits
    rw [Tryd.underlying79]
    dsimp only
    rw [if_pos ⟨rfl, hw⟩]
  have hk : ∃ l, Tryd.prog.keyLits (d + 3) 81 x.cs = some l := by
    unfold Program.keyLits
    rw [Tryd.underlying81]
    dsimp only
    rw [if_pos ⟨by rw [Sg.cs_len h, c33], by kernel_rfl⟩]
    simp only [List.mapM_cons, List.mapM_nil, c32, c1, Sg.cs]
    rw [show List.take 1 (List.drop 0 (Value.int .u32 x.wk :: x.ds.map (Value.int .u8))) = [Value.int .u32 x.wk] from rfl, h1]
    rw [show List.take 32 (List.drop 1 (Value.int .u32 x.wk :: x.ds.map (Value.int .u8))) = x.ds.map (Value.int .u8) from List.take_of_length_le (by simp [h.2.2.1]), hls]
    exact ⟨_, rfl⟩
  obtain ⟨l, hl⟩ := hk
  refine ⟨.string (keyBytes l), ?_⟩
  unfold keyOf
  rw [Tryd.underlying81]
  dsimp only
  rw [if_pos (by rw [kt]; simp [Value.formed, Kind.v, KSig, Tryd.underlying81, Sg.cs_len h, c33]), hd]
  show ((Tryd.prog.keyLits (d + 3) 81 x.cs).map fun ls => Lit.string (keyBytes ls)) = _
  rw [hl]
  rfl
theorem sgLaw : WideMaps.KeyLaw Tryd.prog 81 := deep_law (m := 3) (by decide) (by kernel_rfl) (by kernel_rfl) (by rw [Tryd.underlying81])
theorem sgKeyed : Maps.Keyed Tryd.prog 81 := Maps.Keyed.of_law sgLaw
theorem eq_sig {x y : Sg} (hx : x.Ok) (hy : y.Ok) (w : World) : (Op.equalIn 10000 81 (KSig.v x) (KSig.v y)).run Tryd.prog w = .ok (decide (x = y)) w := by
  obtain ⟨k, hk⟩ := key_sig hx
  obtain ⟨l, hl⟩ := key_sig hy
  obtain ⟨r, h1, h2⟩ := run_equal_deep w (m := 3) (by decide) (k := 81) (by kernel_rfl) (by rw [Tryd.underlying81]) hk hl
  have h3 : r = decide (x = y) := by
    rw [Bool.eq_iff_iff, h2, decide_eq_true_iff]
    constructor
    · rintro rfl
      exact sig_inj (sgLaw.inj hk hl)
    · rintro rfl
      rw [hk] at hl
      exact Option.some.inj hl
  rw [← h3]
  exact h1
theorem list32 {z : List Int} (h : z.length = 32) : ∃ a0 a1 a2 a3 a4 a5 a6 a7 a8 a9 a10 a11 a12 a13 a14 a15 a16 a17 a18 a19 a20 a21 a22 a23 a24 a25 a26 a27 a28 a29 a30 a31, z = [a0, a1, a2, a3, a4, a5, a6, a7, a8, a9, a10, a11, a12, a13, a14, a15, a16, a17, a18, a19, a20, a21, a22, a23, a24, a25, a26, a27, a28, a29, a30, a31] := by
  match z, h with
  | [a0, a1, a2, a3, a4, a5, a6, a7, a8, a9, a10, a11, a12, a13, a14, a15, a16, a17, a18, a19, a20, a21, a22, a23, a24, a25, a26, a27, a28, a29, a30, a31], _ => exact ⟨a0, a1, a2, a3, a4, a5, a6, a7, a8, a9, a10, a11, a12, a13, a14, a15, a16, a17, a18, a19, a20, a21, a22, a23, a24, a25, a26, a27, a28, a29, a30, a31, rfl⟩
theorem built_list {z : List Int} (h : z.length = 32) (n : Int) : Tryd.prog.built 81 [(0, .int .u32 n), (1, .agg (bvals z))] = some (KSig.cs ⟨n, z⟩).toArray := by
  obtain ⟨a0, a1, a2, a3, a4, a5, a6, a7, a8, a9, a10, a11, a12, a13, a14, a15, a16, a17, a18, a19, a20, a21, a22, a23, a24, a25, a26, a27, a28, a29, a30, a31, rfl⟩ := list32 h
  kernel_rfl
theorem build_sig {x : Sg} (h : x.ds.length = 32) (w : World) : (Instr.build 81 #[(0, .int .u32 x.wk), (1, .agg (bvals x.ds))]).run Tryd.prog w = .ok (KSig.v x) w := run_build w _ _ _ (built_list h x.wk)
theorem sizeSigK (w : World) : (sizeOf 81).run Tryd.prog w = .ok KSig.n w := sizeSig w
theorem nSig : KSig.n ≤ 1000 := by decide
def sgz : Sg := ⟨0, List.replicate 32 0⟩
theorem sgz_ok : sgz.Ok := by unfold sgz Sg.Ok AllBytes; decide
theorem sig_size {x : Sg} (h : x.Ok) : (Tryd.prog.info? 81).map (·.size) = some (KSig.cs x).toArray.size := by
  obtain ⟨i, hi, _, hs, _⟩ := info_parts infoSig
  rw [hi, List.size_toArray, show (KSig.cs x).length = 33 from Sg.cs_len h, ← hs]
  rfl
theorem sig_same {x y : Sg} (hx : x.Ok) (hy : y.Ok) : (KSig.cs x).toArray.size = (KSig.cs y).toArray.size := by
  rw [List.size_toArray, List.size_toArray, show (KSig.cs x).length = 33 from Sg.cs_len hx, show (KSig.cs y).length = 33 from Sg.cs_len hy]
theorem sig_ones (x : Sg) : (KSig.cs x).toArray.all (·.oneCell') = true := by
  rw [Array.all_eq_true_iff_forall_mem]
  intro u hu
  exact KSig.one x u (by simpa using hu)
theorem load_sig {w : World} {b o : Nat} {x : Sg} (h : KSig.at w b o x) (hx : x.Ok) : (loadVar 81 ⟨b, o, none⟩).run Tryd.prog w = .ok (KSig.v x) w :=
  Kind.at_load h (Sg.cs_len hx) Tryd.underlying81 rfl (by obtain ⟨i, hi, _, hs, _⟩ := info_parts infoSig; rw [hi]; exact congrArg some hs)
/-- Where the elements of a row are. -/
theorem sig_row {w : World} {A : Option Addr} {c : Nat} {xs : List Sg} (h : KSig.row w A c xs) (h0 : 0 < xs.length) : ∃ b off, A = some ⟨b, off, none⟩ ∧ b < w.heap.size ∧ (∀ i, i < xs.length → KSig.at w b (off + i * 33) (xs.getD i sg0)) ∧ ∀ (i : Nat), i < xs.length → ∀ (I : Int), I = i → ∀ (X : World), (Instr.indexAt 23 (.slice (some ⟨b, off, none⟩) xs.length c) (.int .i64 I)).run Tryd.prog X = .ok (.pointer (some ⟨b, off + i * 33, none⟩)) X := by
  obtain ⟨b, off, hA, hb, hc⟩ := h.2.2.2.1 h0
  exact ⟨b, off, hA, hb, hc, fun i hi I e X => Kind.ix (K := KSig) (P := Tryd.prog) (ts := 23) Tryd.underlying23 (fun w => sizeSig w) hi I e X⟩
theorem load_sigK {w w9 : World} {b o : Nat} {x : Sg} (h : KSig.at w b o x) (hx : x.Ok) (hb : Below w.heap.size w w9) (hlt : b < w.heap.size) : (loadVar 81 ⟨b, o, none⟩).run Tryd.prog w9 = .ok (KSig.v x) w9 :=
  load_sig (Kind.at_same h (hb.block b hlt)) hx
theorem guardSig : Tryd.prog.eqGuardType Tryd.prog.depth 81 = false := by kernel_rfl
/-! ### digests within -/
theorem byte_ones (x : List Int) (u : Value) (hu : u ∈ x.map (Value.int .u8)) : u.oneCell' = true := by
  obtain ⟨z, _, rfl⟩ := List.mem_map.1 hu
  rfl
def KDig : Kind (List Int) := { n := 32, pos := by decide, cs := fun z => z.map (Value.int .u8), d := [], ok := fun _ z => z.length = 32 ∧ AllBytes z, len := fun h => (List.length_map _).trans h.1, one := byte_ones, below := fun h _ => h }
theorem sig_dig {w : World} {b o : Nat} {x : Sg} (h : KSig.at w b o x) : KDig.at w b (o + 1) x.ds := fun j hj => by
  have h1 := h (j + 1) (show j + 1 < 33 by have : j < 32 := hj; omega)
  rw [show o + (j + 1) = o + 1 + j by omega] at h1
  rw [h1]
  show (Value.int .u32 x.wk :: x.ds.map (Value.int .u8))[j + 1]? = _
  rw [List.getElem?_cons_succ]
  rfl
theorem load_dig {w : World} {b o : Nat} {z : List Int} (h : KDig.at w b o z) (hz : z.length = 32) : (loadVar 39 ⟨b, o, none⟩).run Tryd.prog w = .ok (.agg (bvals z)) w :=
  Kind.at_load (K := KDig) h (by show (z.map (Value.int .u8)).length = 32; rw [List.length_map, hz]) Tryd.underlying39 rfl (by rw [sizeD]; rfl)
theorem load_digK {w w9 : World} {b o : Nat} {z : List Int} (h : KDig.at w b o z) (hz : z.length = 32) (hb : Below w.heap.size w w9) (hlt : b < w.heap.size) : (loadVar 39 ⟨b, o, none⟩).run Tryd.prog w9 = .ok (.agg (bvals z)) w9 :=
  load_dig (Kind.at_same h (hb.block b hlt)) hz
theorem sig_wk {w : World} {b o : Nat} {x : Sg} (h : KSig.at w b o x) : w.cell? ⟨b, o, none⟩ = some (.int .u32 x.wk) := (h 0 (by decide)).trans rfl
theorem guardDig : Tryd.prog.eqGuardType Tryd.prog.depth 39 = false := by kernel_rfl
end Go.Proofs.YtnencoainacpoaaDoor

