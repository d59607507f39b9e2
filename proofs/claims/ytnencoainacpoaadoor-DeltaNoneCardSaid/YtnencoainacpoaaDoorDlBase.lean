import Derived.Test.YtnencoainacpoaaDoorGDlM
import Derived.Test.YtnencoainacpoaaDoorGRow
import Derived.Test.YtnencoainacpoaaDoorGArgs2
import Derived.Maps.OwnSet
import Derived.Maps.Views
import Derived.DeepKeys4
import Derived.Lib.SmallJoins
/-
  Pieces in memory: cells, rows, equality; pieces as arguments.
-/
namespace Go.Proofs.YtnencoainacpoaaDoor
open Go.ChangeShapes Go.WideShapes Go.ChangeAt Go.RowKit Go.Deep WM
set_option linter.unusedVariables false
set_option maxRecDepth 100000
def Pc.cs (p : Pc) : List Value := [.bool p.cp, .int .i64 p.fr, .int .i64 p.ln, .string p.lit]
def Pc.Ok (p : Pc) : Prop := (Lit.int .i64 p.fr).wf = true ∧ (Lit.int .i64 p.ln).wf = true ∧ p.lit.size ≤ maxLen
theorem Pc.cs_one (p : Pc) (u : Value) (hu : u ∈ p.cs) : u.oneCell' = true := by
  simp only [Pc.cs, List.mem_cons, List.not_mem_nil, or_false] at hu
  rcases hu with rfl | rfl | rfl | rfl <;> rfl
def KPc : Kind Pc := { n := 4, pos := by decide, cs := Pc.cs, d := pc0, ok := fun _ p => p.Ok, len := fun _ => rfl, one := Pc.cs_one, below := fun h _ => h }
theorem sizePc (w : World) : (sizeOf 44).run Tryd.prog w = .ok KPc.n w := by
  simp [sizeOf, go_sem]
  rfl
theorem nPc : KPc.n ≤ 1000 := by decide
theorem infoPc : (Tryd.prog.info? 44).map (fun i => (i.zero, i.size, i.bytes)) = some (some (KPc.v pc0), 4, 40) := by kernel_rfl
theorem zeroPc (w : World) : (zeroValue 44).run Tryd.prog w = .ok (KPc.v pc0) w := by
  obtain ⟨i, hi, hz, hs, hb⟩ := info_parts infoPc
  simp [zeroValue, typeInfo, hi, hz, Sem.run_bind]
theorem pc_v (p : Pc) : KPc.v p = .agg #[.bool p.cp, .int .i64 p.fr, .int .i64 p.ln, .string p.lit] := rfl
theorem pc_inj {x y : Pc} (h : KPc.v x = KPc.v y) : x = y := by
  rw [pc_v, pc_v] at h
  simp only [Value.agg.injEq] at h
  obtain ⟨a, b, c, d⟩ := x
  obtain ⟨a', b', c', d'⟩ := y
  cases h
  rfl
theorem key_pc {p : Pc} (h : p.Ok) : ∃ l, keyOf Tryd.prog 44 (KPc.v p) = some l := by
  have c4 : Tryd.prog.cellsOf 44 = 4 := by kernel_rfl
  have ci : Tryd.prog.cellsOf 3 = 1 := by kernel_rfl
  have cb : Tryd.prog.cellsOf 4 = 1 := by kernel_rfl
  have cs : Tryd.prog.cellsOf 9 = 1 := by kernel_rfl
  have kt : Tryd.prog.keyType 44 = true := by kernel_rfl
  have hs : ∃ d, Tryd.prog.types.size + 1 = d + 2 := ⟨Tryd.prog.types.size - 1, by have : 1 ≤ Tryd.prog.types.size := of_decide_eq_true (by kernel_rfl); omega⟩
  obtain ⟨d, hd⟩ := hs
  have h0 : Tryd.prog.keyLits (d + 1) 4 [.bool p.cp] = some [Lit.bool p.cp] := by
    unfold Program.keyLits
    rw [Tryd.underlying4]
  have hI : ∀ n : Int, (Lit.int .i64 n).wf = true → Tryd.prog.keyLits (d + 1) 3 [.int .i64 n] = some [Lit.int .i64 n] := fun n hn => by
    unfold Program.keyLits
    rw [Tryd.underlying3]
    dsimp only
    rw [if_pos ⟨rfl, hn⟩]
  have h3 : Tryd.prog.keyLits (d + 1) 9 [.string p.lit] = some [Lit.string p.lit.data.toList] := by
    unfold Program.keyLits
    rw [Tryd.underlying9]
    dsimp only
    rw [if_pos h.2.2]
  have hk : ∃ l, Tryd.prog.keyLits (d + 2) 44 p.cs = some l := by
    unfold Program.keyLits
    rw [Tryd.underlying44]
    dsimp only
    rw [if_pos ⟨by rw [c4]; rfl, by kernel_rfl⟩]
    simp only [List.mapM_cons, List.mapM_nil, ci, cb, cs, Pc.cs, List.drop_zero, List.drop_succ_cons, List.take_succ_cons, List.take_zero, List.take_nil]
    rw [h0, hI _ h.1, hI _ h.2.1, h3]
    exact ⟨_, rfl⟩
  obtain ⟨l, hl⟩ := hk
  refine ⟨.string (keyBytes l), ?_⟩
  unfold keyOf
  rw [Tryd.underlying44]
  dsimp only
  rw [if_pos (by rw [kt]; simp [Value.formed, pc_v, Tryd.underlying44, c4]), hd]
  show ((Tryd.prog.keyLits (d + 2) 44 p.cs).map fun ls => Lit.string (keyBytes ls)) = _
  rw [hl]
  rfl
theorem pcLaw : WideMaps.KeyLaw Tryd.prog 44 := deep_law (m := 2) (by decide) (by kernel_rfl) (by kernel_rfl) (by rw [Tryd.underlying44])
theorem eq_pc {x y : Pc} (hx : x.Ok) (hy : y.Ok) (w : World) : (Op.equalIn 10000 44 (KPc.v x) (KPc.v y)).run Tryd.prog w = .ok (decide (x = y)) w := by
  obtain ⟨k, hk⟩ := key_pc hx
  obtain ⟨l, hl⟩ := key_pc hy
  obtain ⟨r, h1, h2⟩ := run_equal_deep w (m := 2) (by decide) (k := 44) (by kernel_rfl) (by rw [Tryd.underlying44]) hk hl
  have h3 : r = decide (x = y) := by
    rw [Bool.eq_iff_iff, h2, decide_eq_true_iff]
    constructor
    · rintro rfl
      exact pc_inj (pcLaw.inj hk hl)
    · rintro rfl
      rw [hk] at hl
      exact Option.some.inj hl
  rw [← h3]
  exact h1
theorem guardPc : Tryd.prog.eqGuardType Tryd.prog.depth 44 = false := by kernel_rfl
theorem load_pc {w : World} {b o : Nat} {x : Pc} (h : KPc.at w b o x) : (loadVar 44 ⟨b, o, none⟩).run Tryd.prog w = .ok (KPc.v x) w :=
  Kind.at_load h rfl Tryd.underlying44 rfl (by obtain ⟨i, hi, _, hs, _⟩ := info_parts infoPc; rw [hi]; exact congrArg some hs)
theorem load_pcK {w w9 : World} {b o : Nat} {x : Pc} (h : KPc.at w b o x) (hx : x.Ok) (hb : Below w.heap.size w w9) (hlt : b < w.heap.size) : (loadVar 44 ⟨b, o, none⟩).run Tryd.prog w9 = .ok (KPc.v x) w9 :=
  load_pc (Kind.at_same h (hb.block b hlt))
theorem pc_row {w : World} {A : Option Addr} {c : Nat} {xs : List Pc} (h : KPc.row w A c xs) (h0 : 0 < xs.length) : ∃ b off, A = some ⟨b, off, none⟩ ∧ b < w.heap.size ∧ (∀ i, i < xs.length → KPc.at w b (off + i * 4) (xs.getD i pc0)) ∧ ∀ (i : Nat), i < xs.length → ∀ (I : Int), I = i → ∀ (X : World), (Instr.indexAt 22 (.slice (some ⟨b, off, none⟩) xs.length c) (.int .i64 I)).run Tryd.prog X = .ok (.pointer (some ⟨b, off + i * 4, none⟩)) X := by
  obtain ⟨b, off, hA, hb, hc⟩ := h.2.2.2.1 h0
  exact ⟨b, off, hA, hb, hc, fun i hi I e X => Kind.ix (K := KPc) (P := Tryd.prog) (ts := 22) Tryd.underlying22 (fun w => sizePc w) hi I e X⟩
/-- Its four cells. -/
theorem pc_cells {w : World} {b o : Nat} {x : Pc} (h : KPc.at w b o x) : w.cell? ⟨b, o, none⟩ = some (.bool x.cp) ∧ w.cell? ⟨b, o + 1, none⟩ = some (.int .i64 x.fr) ∧ w.cell? ⟨b, o + 2, none⟩ = some (.int .i64 x.ln) ∧ w.cell? ⟨b, o + 3, none⟩ = some (.string x.lit) :=
  ⟨(h 0 (by decide)).trans rfl, (h 1 (by decide)).trans rfl, (h 2 (by decide)).trans rfl, (h 3 (by decide)).trans rfl⟩
/-! ### the last one of a row, changed in its place -/
theorem pc_flat_len (l : List Pc) : (l.flatMap KPc.cs).length = l.length * 4 := by
  induction l with
  | nil => rfl
  | cons p l ih => rw [List.flatMap_cons, List.length_append, ih, List.length_cons]; show 4 + _ = _; omega
theorem pc_set {a : List Pc} {p q : Pc} {j i : Nat} {u : Value} (hj : a.length = j) (hi : i < 4) (hq : (KPc.cs p).set i u = KPc.cs q) : ((a ++ [p]).flatMap KPc.cs).set (j * 4 + i) u = (a ++ [q]).flatMap KPc.cs := by
  subst hj
  rw [List.flatMap_append, List.flatMap_append, List.flatMap_singleton, List.flatMap_singleton, List.set_append, if_neg (by rw [pc_flat_len]; omega), pc_flat_len, Nat.add_sub_cancel_left, hq]
theorem own_pcs {w : World} {base : Nat} {v : Value} {l : List Pc} (h : w.ownsRow base 44 KPc.n v l.length (l.flatMap KPc.cs)) : ∃ A c, v = .slice A l.length c := by
  rcases h.2 with ⟨rfl, h2⟩ | ⟨g, cap, cur, rfl, _⟩
  · exact ⟨none, 0, by rw [h2]⟩
  · exact ⟨_, cap, rfl⟩
/-- Where the last one is, and what its place reads. -/
theorem own_last {w : World} {base : Nat} {v : Value} {a : List Pc} {p : Pc} {j : Nat} (hj : a.length = j) (h : w.ownsRow base 44 KPc.n v (j + 1) ((a ++ [p]).flatMap KPc.cs)) :
    ∃ g cap, v = .slice (some ⟨g, 0, none⟩) (j + 1) cap ∧ base ≤ g ∧ g < w.heap.size ∧ j + 1 ≤ cap ∧ KPc.at w g (j * 4) p := by
  rcases h.2 with ⟨_, h2⟩ | ⟨g, cap, cur, rfl, hb, hg, hn, hm, hs, ht⟩
  · omega
  · refine ⟨g, cap, rfl, hb, (Array.getElem?_eq_some_iff.1 hg).1, hn, fun i hi => ?_⟩
    have hi4 : i < 4 := hi
    rw [cell_of_row w g _ cur _ (0, 0) hg]
    have h1 : cur[j * 4 + i]? = ((a ++ [p]).flatMap KPc.cs)[j * 4 + i]? := by
      rw [← ht, List.getElem?_take, if_pos (show j * 4 + i < (j + 1) * KPc.n by show _ < (j + 1) * 4; omega), Array.getElem?_toList]
    rw [h1, List.flatMap_append, List.getElem?_append_right (by rw [pc_flat_len, hj]; omega), pc_flat_len, hj, Nat.add_sub_cancel_left, List.flatMap_singleton]
theorem own_put {w : World} {base g cap : Nat} {a : List Pc} {p q : Pc} {j i : Nat} {u : Value} (hj : a.length = j) (h : w.ownsRow base 44 KPc.n (.slice (some ⟨g, 0, none⟩) (j + 1) cap) (j + 1) ((a ++ [p]).flatMap KPc.cs)) (hi : i < 4) (hq : (KPc.cs p).set i u = KPc.cs q) :
    (w.setCell ⟨g, j * 4 + i, none⟩ u).ownsRow base 44 KPc.n (.slice (some ⟨g, 0, none⟩) (j + 1) cap) (j + 1) ((a ++ [q]).flatMap KPc.cs) ∧ w.frozen? ⟨g, j * 4 + i, none⟩ = false := by
  refine ⟨?_, h.frozenAt _⟩
  have h1 := (h.stored (j * 4 + i) u).1
  rw [pc_set hj hi hq] at h1
  exact h1
theorem pc_ix (g j cap : Nat) (I : Int) (e : I = j) (X : World) : (Instr.indexAt 22 (.slice (some ⟨g, 0, none⟩) (j + 1) cap) (.int .i64 I)).run Tryd.prog X = .ok (.pointer (some ⟨g, j * 4, none⟩)) X := by
  have h := Kind.ix (K := KPc) (P := Tryd.prog) (b := g) (off := 0) (len := j + 1) (cap := cap) (i := j) (ts := 22) Tryd.underlying22 (fun w => sizePc w) (by omega) I e X
  rw [Nat.zero_add] at h
  exact h
section
variable {H : Type} {enc : TypeId × Value → H} {W : World}
theorem pc_trod {base : Nat} {spare : Nat → Bool} {held : Bool} {fuel : Nat} {l : List Value} {x : DataW H × List MemPlace} (hl : l.length = 4) (hf : DataW.trod enc Tryd.prog W base spare held fuel 44 l = some x) :
    ∃ e : Pc, l = KPc.cs e ∧ KPc.ok W e := by
  have kb : Tryd.prog.cellsOf 4 = 1 := by kernel_rfl
  have ki : Tryd.prog.cellsOf 3 = 1 := by kernel_rfl
  have ks : Tryd.prog.cellsOf 9 = 1 := by kernel_rfl
  obtain ⟨y0, y1, y2, y3, m, _, _, h0, h1, h2, h3⟩ := Go.Joins.trod_struct4 Tryd.underlying44 hf
  match l, hl with
  | [c0, c1, c2, c3], _ =>
    dsimp only at h0 h1 h2 h3
    rw [kb] at h0
    rw [ki] at h1 h2
    rw [ks] at h3
    obtain ⟨v0, e0, _⟩ := DataW.trod_bool Tryd.underlying4 h0
    obtain ⟨n1, e1, _, w1⟩ := DataW.trod_int Tryd.underlying3 h1
    obtain ⟨n2, e2, _, w2⟩ := DataW.trod_int Tryd.underlying3 h2
    obtain ⟨s3, e3, _, w3⟩ := DataW.trod_string Tryd.underlying9 h3
    simp at e0 e1 e2 e3
    subst e0 e1 e2 e3
    exact ⟨⟨v0, n1, n2, s3⟩, rfl, w1, w2, w3⟩
theorem open_pcs {A : Option Addr} {len c : Nat} {d : DataW H} {p : List MemPlace} (h : DataW.Trod enc Tryd.prog W 0 (fun _ => true) true 22 (.slice A len c) d p) : ∃ xs : List Pc, xs.length = len ∧ KPc.row W A c xs := by
  obtain ⟨fuel, hf⟩ := h
  exact open_rowK KPc Tryd.underlying22 (by kernel_rfl) (fun hl hf => pc_trod hl hf) hf
end
end Go.Proofs.YtnencoainacpoaaDoor

