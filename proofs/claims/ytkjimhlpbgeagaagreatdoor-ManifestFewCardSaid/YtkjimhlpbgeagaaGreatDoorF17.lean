import Derived.Test.YtkjimhlpbgeagaaGreatDoorF0
import Derived.Test.YtkjimhlpbgeagaaGreatDoorF16
import Derived.Test.YtkjimhlpbgeagaaGreatDoorF14
import Derived.Test.YtkjimhlpbgeagaaGreatDoorF8
import Derived.Maps.OwnSet
import Derived.Maps.Views
import Derived.Maps.Range
import Derived.DeepKeys4
import Derived.Lib.AppendZeros
import Derived.Deep.Draws
import Derived.Test.YtkjimhlpbgeagaaGreatDoorF6
import Derived.Deep.RegionHeld3
/-
  What the functions that a law of this layer reaches answer, part 17. Nothing that was there is written.
-/
namespace Go.Proofs.YtkjimhlpbgeagaaGreatDoor
set_option linter.unusedVariables false
set_option linter.unusedSimpArgs false
section
section
open Go.RowKit WM
set_option maxRecDepth 100000
theorem keyID : Maps.Keyed Tryz.prog 30 :=
 Maps.Keyed.of_law (deep_law (m := 2) (by decide) (by kernel_rfl) (by kernel_rfl) (by rw [Tryz.underlying30]))
theorem keyLaw : WideMaps.KeyLaw Tryz.prog 30 := deep_law (m := 2) (by decide) (by kernel_rfl) (by kernel_rfl) (by rw [Tryz.underlying30])
theorem mapM_gives {α β : Type} {f : α → Option β} {g : α → β} : ∀ (l : List α), (∀ x ∈ l, f x = some (g x)) → l.mapM f = some (l.map g)
 | [], _ => rfl
 | x :: l, h => by
  rw [List.mapM_cons, h x (by simp), mapM_gives l (fun y hy => h y (by simp [hy]))]
  rfl
theorem key_id {z : List Int} (h : z.length = 16) (hb : AllBytes z) : ∃ l, keyOf Tryz.prog 30 (.agg (bvals z)) = some l := by
 have c1 : Tryz.prog.cellsOf 5 = 1 := by kernel_rfl
 have c16 : Tryz.prog.cellsOf 30 = 16 := by kernel_rfl
 have kt : Tryz.prog.keyType 30 = true := by kernel_rfl
 have hl : (bvals z).size = 16 := by simp [bvals, h]
 have kb : ∀ d, ∃ ls, Tryz.prog.keyLits (d + 2) 30 (bvals z).toList = some ls := fun d => by
  unfold Program.keyLits
  rw [Tryz.underlying30]
  dsimp only
  rw [if_pos (by rw [Array.length_toList, hl, c16])]
  rw [mapM_gives (g := fun i => [Lit.int .u8 (z.getD i 0)]) _ (fun i hi => ?_)]
  ·exact ⟨_, rfl⟩
  ·have hi : i < 16 := by simpa using hi
   have e : ((bvals z).toList.drop (i * Tryz.prog.cellsOf 5)).take (Tryz.prog.cellsOf 5) = [.int .u8 (z.getD i 0)] := by
    rw [c1, Nat.mul_one]
    apply List.ext_getElem?
    intro j
    cases j with
    | zero => simp [bvals, List.getD, List.getElem?_eq_getElem (show i < z.length by omega)]
    | succ j => rw [List.getElem?_eq_none (by simp; omega), List.getElem?_eq_none (by simp)]
   rw [e]
   have hz := hb (z.getD i 0) (by rw [List.getD_eq_getElem?_getD, List.getElem?_eq_getElem (show i < z.length by omega)]; exact List.getElem_mem _)
   unfold Program.keyLits
   rw [Tryz.underlying5]
   dsimp only
   rw [if_pos]
   refine ⟨rfl, ?_⟩
   generalize z.getD i 0 = q at *
   simp [Lit.wf, IntKind.min, IntKind.max, IntKind.bits, IntKind.signed]
   omega
 have hs : ∃ d, Tryz.prog.types.size + 1 = d + 2 := ⟨Tryz.prog.types.size - 1, by have : 1 ≤ Tryz.prog.types.size := of_decide_eq_true (by kernel_rfl); omega⟩
 obtain ⟨d, hd⟩ := hs
 obtain ⟨ls, hls⟩ := kb d
 refine ⟨.string (keyBytes ls), ?_⟩
 ·unfold keyOf
  rw [Tryz.underlying30]
  dsimp only
  rw [if_pos (by rw [kt]; simp [Value.formed, Tryz.underlying30, hl, c16]), hd]
  show ((Tryz.prog.keyLits (d + 2) 30 (bvals z).toList).map fun ls => Lit.string (keyBytes ls)) = _
  rw [hls]
  rfl
theorem bvals_inj {x y : List Int} (h : bvals x = bvals y) : x = y := by
 have h2 := congrArg Array.toList h
 simp only [bvals] at h2
 have h3 : (x.map (Value.int .u8)).map intOf = (y.map (Value.int .u8)).map intOf := congrArg (List.map intOf) h2
 rw [List.map_map, List.map_map] at h3
 simpa [Function.comp_def, intOf] using h3
theorem key_ne {x y : List Int} {k l : Lit} (hx : keyOf Tryz.prog 30 (.agg (bvals x)) = some k) (hy : keyOf Tryz.prog 30 (.agg (bvals y)) = some l) (h : x ≠ y) : k ≠ l := by
 rintro rfl
 have := keyLaw.inj hx hy
 injection this with this
 exact h (bvals_inj this)
def heldR (v : Value) : Option (DataW Value × List MemPlace) := some (.held v, [])
def xat (es : List RcA) (z : List Int) : Option RcA := es.find? fun x => decide (x.R.z = z)
theorem xat_bat (es : List RcA) (z : List Int) : bat (es.map (·.R)) z = (xat es z).map (·.R) := by
 unfold bat xat
 rw [List.find?_map]
 rfl
theorem xat_some {es : List RcA} {z : List Int} {x : RcA} (h : xat es z = some x) : x ∈ es ∧ x.R.z = z := ⟨List.mem_of_find?_eq_some h, by simpa using List.find?_some h⟩
theorem xat_cons (x : RcA) (es : List RcA) (z : List Int) : xat (x :: es) z = if x.R.z = z then some x else xat es z := by
 unfold xat
 rw [List.find?_cons]
 by_cases h : x.R.z = z <;> simp [h]
theorem xat_none {es : List RcA} {z : List Int} : xat es z = none ↔ ∀ x ∈ es, x.R.z ≠ z := by
 unfold xat
 rw [List.find?_eq_none]
 simp
theorem xat_mem : ∀ {es : List RcA}, (es.map (·.R.z)).Nodup → ∀ {x : RcA}, x ∈ es → xat es x.R.z = some x
 | [], _, x, h => by cases h
 | y :: ys, hn, x, h => by
  rw [List.map_cons, List.nodup_cons] at hn
  rw [xat_cons]
  rcases List.mem_cons.1 h with rfl | h
  ·rw [if_pos rfl]
  ·rw [if_neg (fun e => hn.1 (by rw [e]; exact List.mem_map_of_mem h)), xat_mem hn.2 h]
def xput (es : List RcA) (y : RcA) : List RcA := match xat es y.R.z with | none => es ++ [y] | some _ => es.map fun x => if x.R.z = y.R.z then y else x
theorem xat_append (es : List RcA) (y : RcA) (z : List Int) : xat (es ++ [y]) z = (xat es z).or (if y.R.z = z then some y else none) := by
 unfold xat
 rw [List.find?_append]
 by_cases h : y.R.z = z <;> simp [h]
theorem xat_map (y : RcA) (z : List Int) : ∀ es : List RcA, xat (es.map fun x => if x.R.z = y.R.z then y else x) z = if y.R.z = z then (xat es z).map (fun _ => y) else xat es z
 | [] => by simp [xat]
 | x :: es => by
  rw [List.map_cons, xat_cons, xat_map y z es, xat_cons]
  by_cases hx : x.R.z = y.R.z
  ·rw [if_pos hx]
   by_cases hz : y.R.z = z
   ·rw [if_pos hz, if_pos hz, if_pos (hx.trans hz)]; rfl
   ·rw [if_neg hz, if_neg hz, if_neg hz, if_neg (by rw [hx]; exact hz)]
  ·rw [if_neg hx]
   by_cases hz : y.R.z = z
   ·rw [if_pos hz, if_neg (by rw [← hz]; exact hx), if_pos hz, if_neg (by rw [← hz]; exact hx)]
   ·rw [if_neg hz, if_neg hz]
theorem xat_put (es : List RcA) (y : RcA) (z : List Int) : xat (xput es y) z = if y.R.z = z then some y else xat es z := by
 unfold xput
 cases e : xat es y.R.z with
 | none =>
  dsimp only
  rw [xat_append]
  by_cases hz : y.R.z = z
  ·subst hz; rw [if_pos rfl, if_pos rfl, e]; rfl
  ·rw [if_neg hz, if_neg hz, Option.or_none]
 | some x =>
  dsimp only
  rw [xat_map]
  by_cases hz : y.R.z = z
  ·subst hz; rw [if_pos rfl, if_pos rfl, e]; rfl
  ·rw [if_neg hz, if_neg hz]
theorem xput_mem {es : List RcA} {y x : RcA} (h : x ∈ xput es y) : x = y ∨ x ∈ es := by
 unfold xput at h
 cases e : xat es y.R.z with
 | none =>
  rw [e] at h
  rcases List.mem_append.1 h with h | h
  ·exact .inr h
  ·exact .inl (List.mem_singleton.1 h)
 | some o =>
  rw [e] at h
  obtain ⟨x', hx', rfl⟩ := List.mem_map.1 h
  split
  ·exact .inl rfl
  ·exact .inr hx'
theorem xput_keys {es : List RcA} {y : RcA} (h : (es.map (·.R.z)).Nodup) : ((xput es y).map (·.R.z)).Nodup := by
 unfold xput
 cases e : xat es y.R.z with
 | none =>
  dsimp only
  rw [List.map_append, List.nodup_append]
  refine ⟨h, by simp, ?_⟩
  intro a ha b hb e2
  simp only [List.map_cons, List.map_nil, List.mem_singleton] at hb
  obtain ⟨x, hx, rfl⟩ := List.mem_map.1 ha
  exact xat_none.1 e x hx (e2.trans hb)
 | some x =>
  dsimp only
  rw [List.map_map]
  have : (fun x : RcA => x.R.z) ∘ (fun x : RcA => if x.R.z = y.R.z then y else x) = fun x => x.R.z := by
   funext x
   simp only [Function.comp]
   split
   ·rename_i hz; exact hz.symm
   ·rfl
  rw [this]
  exact h
theorem xput_len (es : List RcA) (y : RcA) : (xput es y).length = if (xat es y.R.z).isSome then es.length else es.length + 1 := by
 unfold xput
 cases e : xat es y.R.z <;> simp
theorem xput_mput {es : List RcA} {y : RcA} {r : Rc} (h : (es.map (·.R.z)).Nodup) (hz : r.z = y.R.z) (hy : y.R = bone (bat (es.map (·.R)) r.z) r) : (xput es y).map (·.R) = mput (es.map (·.R)) r := by
 have hb := xat_bat es r.z
 unfold xput mput
 rw [← hz, hb]
 rw [hb] at hy
 cases e : xat es r.z with
 | none =>
  rw [e] at hy
  dsimp only [Option.map_none]
  rw [List.map_append, List.map_cons, List.map_nil, show y.R = r from hy]
 | some o =>
  rw [e] at hy
  dsimp only [Option.map_some]
  rw [List.map_map, List.map_map]
  apply List.map_congr_left
  intro x hx
  simp only [Function.comp]
  by_cases hxz : x.R.z = r.z
  ·have := xat_mem h hx
   rw [hxz, e] at this
   obtain rfl := Option.some.inj this
   rw [if_pos hxz, if_pos hxz]
   exact hy
  ·rw [if_neg hxz, if_neg hxz]
def MRs (w : World) (b n : Nat) (es : List RcA) : Prop :=
 ∃ D : DataW Value, w.ownsMap Tryz.prog 30 heldR b n D ∧ Maps.size D = es.length ∧ (es.map (·.R.z)).Nodup ∧ (∀ x ∈ es, RvAt w x) ∧
  (∀ z l, keyOf Tryz.prog 30 (.agg (bvals z)) = some l → Maps.has D l = (xat es z).isSome ∧ D.atKey l (.held (.agg rcA0.cells)) = .held (.agg ((xat es z).getD rcA0).cells)) ∧
  ∀ l, Maps.has D l = true → ∃ x ∈ es, keyOf Tryz.prog 30 (.agg (bvals x.R.z)) = some l
theorem MRs.lt {w : World} {b n : Nat} {es : List RcA} (h : MRs w b n es) : b < w.heap.size := by obtain ⟨D, h, _⟩ := h; exact h.lt
theorem MRs.rv {w : World} {b n : Nat} {es : List RcA} (h : MRs w b n es) : ∀ x ∈ es, RvAt w x := by obtain ⟨D, _, _, _, h, _⟩ := h; exact h
theorem MRs.keys {w : World} {b n : Nat} {es : List RcA} (h : MRs w b n es) : (es.map (·.R.z)).Nodup := by obtain ⟨D, _, _, h, _⟩ := h; exact h
theorem MRs.obj {w : World} {b n : Nat} {es : List RcA} (h : MRs w b n es) : ∃ E cl, w.heap[b]? = some (.map E cl) := by obtain ⟨D, ⟨E, cl, h, _⟩, _⟩ := h; exact ⟨E, cl, h⟩
theorem MRs.below {w w' : World} {b n B : Nat} {es : List RcA} (h : MRs w b n es) (hb : Below B w w') (hB : w.heap.size ≤ B) : MRs w' b n es := by
 have hlt := h.lt
 obtain ⟨D, ⟨E, clock, hh, r⟩, h1, h2, h3, h4, h5⟩ := h
 exact ⟨D, ⟨E, clock, (hb.block b (Nat.lt_of_lt_of_le hlt hB)).trans hh, r⟩, h1, h2, fun x hx => (h3 x hx).below hb hB, h4, h5⟩
theorem MRs.made (w : World) : MRs (w.alloc (.map #[] 0)) w.heap.size 0 [] :=
 ⟨.map [], World.ownsMap_made w _ _ _, rfl, List.nodup_nil, (fun x hx => absurd hx (by simp)), (fun z l _ => ⟨rfl, Maps.atKey_of_not_has rfl _⟩), (fun l h => by simp [Maps.has] at h)⟩
theorem MRs.look {w : World} {b n : Nat} {es : List RcA} (h : MRs w b n es) {z : List Int} (h16 : z.length = 16) (hb : AllBytes z) :
  (Instr.lookup 116 (.map (some b)) (.agg (bvals z)) true).run Tryz.prog w = .ok (.tuple #[.agg ((xat es z).getD rcA0).cells, .bool (xat es z).isSome]) w := by
 obtain ⟨D, h1, _, _, _, h4, _⟩ := h
 obtain ⟨l, hl⟩ := key_id h16 hb
 obtain ⟨v, ps, hr, hv⟩ := h1.look_ok keyID Tryz.underlying116 (zeroX w) (zd := .held (.agg rcA0.cells)) (zp := []) rfl hl
 rw [(h4 z l hl).2] at hv
 simp only [heldR, Option.some.injEq, Prod.mk.injEq, DataW.held.injEq] at hv
 rw [hr, (h4 z l hl).1, hv.1]
theorem has_size {D : DataW Value} (hT : Maps.Tidy D) (l : Lit) (d : DataW Value) : Maps.size (D.put l d) = if Maps.has D l then Maps.size D else Maps.size D + 1 := Maps.size_put hT d
theorem MRs.store {w : World} {b n : Nat} {es : List RcA} (h : MRs w b n es) (hn : n < 1000) {y : RcA} (hy : RvAt w y) :
  ∃ w', (Instr.mapUpdate 116 (.map (some b)) (.agg (bvals y.R.z)) (.agg y.cells)).run Tryz.prog w = .ok () w' ∧ MRs w' b (n + 1) (xput es y) ∧ w.grownBy w' (some b) := by
 obtain ⟨E, cl, hobj⟩ := h.obj
 obtain ⟨D, h1, h2, h3, h4, h5, h6⟩ := h
 obtain ⟨l, hl⟩ := key_id hy.len hy.1.2
 obtain ⟨w', hr, ho, hg⟩ := h1.update keyID Tryz.underlying116 (by simp only [maxLen]; omega) hl (d := .held (.agg y.cells)) (ps := []) rfl
 have hkl := keyID.key hl
 refine ⟨w', hr, ⟨_, ho, ?_, xput_keys h3, fun x hx => ?_, fun z l' hl' => ?_, fun l' hl' => ?_⟩, hg⟩
 ·rw [has_size (h1.tidy keyID), (h5 _ _ hl).1, xput_len, h2]
 ·rcases xput_mem hx with rfl | hx
  ·exact hy.kept_map hg hobj
  ·exact (h4 x hx).kept_map hg hobj
 ·rw [xat_put]
  by_cases hz : y.R.z = z
  ·subst hz
   rw [hl] at hl'
   obtain rfl := Option.some.inj hl'
   rw [if_pos rfl]
   exact ⟨Maps.has_put_same h1.isMap hkl _, Maps.atKey_put_same h1.isMap hkl _ _⟩
  ·rw [if_neg hz]
   have hne : l' ≠ l := key_ne hl' hl (fun e => hz e.symm)
   rw [Maps.has_put_other hne, Maps.atKey_put_other hne]
   exact h5 z l' hl'
 ·by_cases hne : l' = l
  ·subst hne
   have : (xat (xput es y) y.R.z) = some y := by rw [xat_put, if_pos rfl]
   exact ⟨y, (xat_some this).1, hl⟩
  ·rw [Maps.has_put_other hne] at hl'
   obtain ⟨x, hx, hk⟩ := h6 l' hl'
   have hxz : y.R.z ≠ x.R.z := fun e => by rw [e, hk] at hl; exact hne (Option.some.inj hl)
   have : (xat (xput es y) x.R.z) = some x := by rw [xat_put, if_neg hxz]; exact xat_mem h3 hx
   exact ⟨x, (xat_some this).1, hk⟩
end
section
open Go.RowKit WM
set_option maxRecDepth 20000
def zrc : Value := .agg rcA0.cells
theorem zrc_size : zrc.cells.size = 19 := cells_len z16_len
theorem infoRec : (Tryz.prog.info? 61).map (fun i => (i.zero, i.size, i.bytes)) = some (some zrc, 19, 56) := by kernel_rfl
theorem wpList_append_rec {P : Program} (w : World) {ops : Array Oper} {rest : List Oper} {o : Oper} {a : Act} {Q : Exit → Act → World → Prop} (hgd : o.guard = none) (s x : Operand) (t : TypeId)
  (ho : o.op = .call { callee := .builtin .append, args := #[s, x], argTypes := #[t, t] })
  (base : Nat) (e : TypeId) (i : TypeInfo) (ht : P.underlying t = some (.slice e)) (hi : P.info? e = some i) (hz : i.zero = some zrc) (hsize : i.size = 19) (hby : i.bytes = 56)
  (v : Value) (n : Nat) (gs : List RcA) (hs : a.eval s = v) (hown : w.ownsRow base e 19 v n (gs.flatMap RcA.cs))
  (A : Option Addr) (m c : Nat) (fs : List RcA) (hx : a.eval x = .slice A m c) (hr : RsAt w A c fs) (hl : fs.length = m) (hlen : n + m ≤ 100000) (hbase : base ≤ w.heap.size)
  (h : ∀ v' w', w'.ownsRow base e 19 v' (n + m) ((gs ++ fs).flatMap RcA.cs) → w.grownBy w' v.ownBlock → wpList P ops Q rest (a.put o.dst v') w') : wpList P ops Q (o :: rest) a w := by
 have fin : ∀ ad : Addr, A = some ad → (∀ j u, (fs.flatMap RcA.cs)[j]? = some u → w.cell? (ad.add j) = some u) → wpList P ops Q (o :: rest) a w := by
  intro ad hA hc
  subst hA
  refine wpList_append_own w hgd s x t ho base e i zrc 19 56 ht hi hz hsize hby zrc_size (by omega) v n _ hs hown ad m c (fs.flatMap RcA.cs) hx (by rw [recs_len (fun x hxx => (hr.2.2.2.2 x hxx).len), hl]) hc (recs_one fs) (by simp only [maxLen]; omega) (by omega) hbase ?_
  intro v' w' h1 h2 _
  exact h v' w' (by rw [List.flatMap_append]; exact h1) h2
 obtain ⟨h1, h2, h3, h4, h5⟩ := hr
 have hz16 : ∀ x ∈ fs, x.R.z.length = 16 := fun x hxx => (h5 x hxx).len
 by_cases hn : fs = []
 ·subst hn
  cases A with
  | none =>
   have hc0 := h3 rfl
   simp at hl
   subst hl
   subst hc0
   refine wpList_append_own_none hgd s x t ho base e i 19 ht hi v n _ hs hown hx ?_
   exact h v w (by simpa using hown) (World.grownBy.refl w _)
  | some ad => exact fin ad rfl (fun j u hj => by simp at hj)
 ·obtain ⟨b, off, hA, _, hc⟩ := h4 (List.length_pos_iff.2 hn)
  refine fin _ hA (fun j u hj => ?_)
  have hjl := (List.getElem?_eq_some_iff.1 hj).1
  rw [recs_len hz16] at hjl
  have hij : j = j / 19 * 19 + j % 19 := by omega
  have hi' : j / 19 < fs.length := by omega
  rw [hij, recs_at hz16 hi' (by omega)] at hj
  rw [Addr.add_lit, show off + j = off + j / 19 * 19 + j % 19 by omega, (hc (j / 19) hi').2 (j % 19) (by omega)]
  exact hj
def GrowPostB (w : World) (e : Ending) (w' : World) : Prop := ∃ v, e = .returned v ∧ w'.ownsRow w.heap.size 61 19 v 0 [] ∧ Below w.heap.size w w'
theorem slr_h (A : Option Addr) (len cap h : Nat) (h2 : h ≤ cap) (H : Int) (eH : H = h) (w : World) : (Instr.slice 38 (.slice A len cap) none (some (.int .i64 H)) none).run Tryz.prog w = .ok (.slice A h cap) w := by
 subst eH
 rw [run_slice_h w 38 _ len cap (by rw [elemRec]; exact Tryz.underlying38) .i64 h (by omega) (by omega), elemRec, sizeRecW]
 simp only [sliced, Result.andThen, Int.toNat_natCast, Nat.zero_mul, Nat.sub_zero]
 cases A with
 | none => simp
 | some a => obtain ⟨b, off, s⟩ := a; simp [Addr.add]
set_option maxRecDepth 20000 in
set_option maxHeartbeats 1000000 in
theorem bgrow_any (n : Nat) (w : World) (hn : n ≤ 1000) : Calls Tryz.prog 68 #[.slice none 0 0, .int .i64 n] w (GrowPostB w) := by
 by_cases h0 : n = 0
 ·subst h0
  go_enter Tryz.func68, Tryz.ntmps68
  go_wp2
  go_ret
  exact ⟨_, rfl, World.ownsRow_nil _ _ _ _, Below.refl _ _⟩
 ·obtain ⟨i0, hi, hz0, hz1, hz2⟩ := info_parts infoRec
  have happ := Lib.run_append_nil_zeros (P := Tryz.prog) w 38 3 38 61 i0 zrc .i64 .i64 Tryz.underlying38 Tryz.underlying3 hi hz0 n (by omega) (by omega) (by omega) (by rw [hz2]; omega)
  have hg := grownCap_ge w n 0 61
  have hm := grownCap_le_maxLen w n 0 61 (by simp only [maxLen]; omega)
  generalize grownCap w n 0 61 = C at happ hg hm
  have hs : (Builtin.zeroCells zrc.cells n ++ Builtin.zeroCells zrc.cells (C - n)).size = C * 19 := by
   rw [Array.size_append, size_zeroCells, size_zeroCells, zrc_size]; omega
  generalize Builtin.zeroCells zrc.cells n ++ Builtin.zeroCells zrc.cells (C - n) = Z at happ hs
  have HO := Lib.hid (World.ownsRow_made (base := w.heap.size) (size := 19) (e := 61) w.drew Z C (Nat.le_refl _) hm hs)
  have HB := Lib.hid (((Below.refl w.heap.size w).drew).alloc (Nat.le_refl _) (.cells Z 61))
  have s1 := slr_h none 0 0 0 (Nat.le_refl _) 0 rfl
  have s2 := slr_h (some ⟨w.heap.size, 0, none⟩) n C 0 (Nat.zero_le _) 0 rfl
  have t1 : ¬ (n : Int) < 0 := by omega
  have t2 : (0 : Int) < (n : Int) := by omega
  simp only [maxLen] at hm
  clear hs h0
  go_enter Tryz.func68, Tryz.ntmps68
  go_wp2_with (at_builtin; refine Lib.wpList_append_run _ rfl _ _ _ _ rfl _ _ rfl rfl _ _ happ ?_)
  go_ret
  exact ⟨_, rfl, HO.out, HB.out⟩
def ConcatPostB (w : World) (fs : List RcA) (e : Ending) (w' : World) : Prop := ∃ A n c, e = .returned (.slice A n c) ∧ fs.length = n ∧ RsAt w' A c fs ∧ Below w.heap.size w w'
theorem bconcat_own {w w' : World} {v : Value} {n : Nat} {fs : List RcA} (hl : fs.length = n) (hv : ∀ x ∈ fs, RvAt w' x) (ho : w'.ownsRow w.heap.size 61 19 v n (fs.flatMap RcA.cs)) (hb : Below w.heap.size w w') : ConcatPostB w fs (.returned v) w' := by
 subst hl
 have ho' := ho
 rcases ho.2 with ⟨rfl, h0⟩ | ⟨g, cap, cur, rfl, _⟩
 ·rw [h0] at ho'
  exact ⟨none, 0, 0, rfl, h0, RsAt.own (base := w.heap.size) (by rw [h0]; exact ho') hv, hb⟩
 ·exact ⟨_, _, cap, rfl, rfl, RsAt.own ho' hv, hb⟩
set_option maxRecDepth 20000 in
set_option maxHeartbeats 2000000 in
theorem bconcat_any (g : Nat) (A1 A2 : Option Addr) (l1 l2 c1 c2 : Nat) (f1 f2 : List RcA) (w : World) (hg : g < w.heap.size) (hg0 : w.cell? ⟨g, 0, none⟩ = some (.slice A1 l1 c1)) (hg1 : w.cell? ⟨g, 1, none⟩ = some (.slice A2 l2 c2))
  (hl1 : f1.length = l1) (hl2 : f2.length = l2) (h1 : RsAt w A1 c1 f1) (h2 : RsAt w A2 c2 f2) (hs : l1 + l2 ≤ 1000) :
  Calls Tryz.prog 55 #[.slice (some ⟨g, 0, none⟩) 2 2] w (ConcatPostB w (f1 ++ f2)) := by
 have HG := Lib.hid (bgrow_any (l1 + l2))
 rw [Int.natCast_add] at HG
 unfold GrowPostB at HG
 have t1 : ¬ (l1 : Int) < 0 := by omega
 have t2 : ¬ (l1 : Int) + (l2 : Int) < 0 := by omega
 obtain ⟨i0, hi, hz0, hz1, hz2⟩ := info_parts infoRec
 have HL1 := Lib.hid hl1
 have HL2 := Lib.hid hl2
 have H1 := Lib.hid h1
 have H2 := Lib.hid h2
 have HV1 := Lib.hid h1.2.2.2.2
 have HV2 := Lib.hid h2.2.2.2.2
 clear hl1 hl2 h1 h2
 go_enter Tryz.func55, Tryz.ntmps55
 go_wp2
 refine wp_loop_rounds 3 ?_
 rw [rounds_succ]
 go_wp2
 rw [rounds_succ]
 go_wp2
 rw [rounds_succ]
 go_wp2_with fail
 refine (HG.out _ hs).mono ?_
 rintro e w1 ⟨v, rfl, ho, hb⟩
 have G1 := Lib.hid hg1
 have hg0 := (hb.cell (p := ⟨g, 0, none⟩) hg).trans hg0
 have hg1 := (hb.cell (p := ⟨g, 1, none⟩) hg).trans hg1
 have F1 := Lib.hid (H1.out.below hb (Nat.le_refl _))
 have HB := Lib.hid hb
 clear hb hg1
 go_wp2
 refine wp_loop_rounds 3 ?_
 rw [rounds_succ]
 go_wp2_with (at_builtin; refine wpList_append_rec _ rfl _ _ 38 rfl w.heap.size 61 i0 Tryz.underlying38 hi hz0 hz1 hz2 _ 0 [] rfl ho A1 l1 c1 f1 rfl F1.out HL1.out (by omega) HB.out.size ?_; intro v2 w2 ho2 hg2)
 have HB2 := HB.out.grown hg2 HB.out.size (fun g hg => own_base ho hg)
 have hg1 := (HB2.cell (p := ⟨g, 1, none⟩) hg).trans G1.out
 have F2 := Lib.hid (H2.out.below HB2 (Nat.le_refl _))
 have HB2 := Lib.hid HB2
 clear hg2 hg0
 rw [List.nil_append] at ho2
 rw [rounds_succ]
 go_wp2_with (at_builtin; refine wpList_append_rec _ rfl _ _ 38 rfl w.heap.size 61 i0 Tryz.underlying38 hi hz0 hz1 hz2 _ _ f1 rfl ho2 A2 l2 c2 f2 rfl F2.out HL2.out (by omega) HB2.out.size ?_; intro v3 w3 ho3 hg3)
 have HB3 := Lib.hid (HB2.out.grown hg3 HB2.out.size (fun g hg => own_base ho2 hg))
 have HO3 := Lib.hid ho3
 clear hg3 hg1 ho ho2 ho3
 rw [rounds_succ]
 go_wp2
 go_ret
 exact bconcat_own (by rw [List.length_append, HL1.out, HL2.out]; omega) (fun x hx => by
  rcases List.mem_append.1 hx with hx | hx
  ·exact (HV1.out x hx).below HB3.out (Nat.le_refl _)
  ·exact (HV2.out x hx).below HB3.out (Nat.le_refl _)) HO3.out HB3.out
end
end
section
open Go.RowKit WM
set_option maxRecDepth 100000
theorem XAt.kept_map {w w' : World} {b bm n : Nat} {x : RcA} {es : List RcA} (h : XAt w b x) (hg : w.grownBy w' (some bm)) (hm : MRs w bm n es) : XAt w' b x := h.same (hg.block b h.lt (fun e => by
 obtain ⟨E, cl, ho⟩ := hm.obj
 rw [← Option.some.inj e, h.2] at ho
 cases ho))
theorem gather_snoc {xs : List RcA} {k : Nat} (hk : k < xs.length) : ((xs.take (k + 1)).map (·.R)).foldl mput [] = mput (((xs.take k).map (·.R)).foldl mput []) (xs.getD k rcA0).R := by
 rw [List.take_succ_eq_append_getElem hk, List.map_append, List.foldl_append]
 simp only [List.map_cons, List.map_nil, List.foldl_cons, List.foldl_nil, List.getD, List.getElem?_eq_getElem hk, Option.getD_some]
def BGatherPost (w : World) (rs : List Rc) (e : Ending) (w' : World) : Prop := ∃ b n es, e = .returned (.map (some b)) ∧ w.heap.size ≤ b ∧ MRs w' b n es ∧ es.map (·.R) = rs.foldl mput [] ∧ Below w.heap.size w w'
set_option maxHeartbeats 8000000 in
theorem bgather_any (A : Option Addr) (len c : Nat) (xs : List RcA) (w : World) (hlaid : Laid w) (hl : xs.length = len) (hlen : len ≤ 900) (h : RsAt w A c xs) (hm : ∀ x ∈ xs, x.R.may = true) :
  Calls Tryz.prog 54 #[.slice A len c] w (BGatherPost w (xs.map (·.R))) := by
 have HRV := Lib.hid (fun i (hi : i < len) => RsAt.rv h (show i < xs.length by omega))
 have HMY := Lib.hid (fun i (hi : i < len) => show (xs.getD i rcA0).R.may = true by rw [List.getD_eq_getElem?_getD, List.getElem?_eq_getElem (show i < xs.length by omega)]; exact hm _ (List.getElem_mem _))
 obtain ⟨hc1, hc2, hc3, hcell, _⟩ := h
 simp only [maxLen] at hc2
 have HC := Lib.hid hcell
 have HLN := Lib.hid hl
 have HLA := Lib.hid (fun (X : World) (hX : Below w.heap.size w X) => hlaid.below hX (Nat.le_refl _))
 have H0 := Lib.hid (And.intro (MRs.made w) ((Below.refl w.heap.size w).alloc (Nat.le_refl _) (.map #[] 0)))
 have hmm := @run_makeMap Tryz.prog
 have hlc : len ≤ c := by omega
 have hz := zeroX
 clear hcell hc1 hl hlaid hm
 go_enter Tryz.func54, Tryz.ntmps54
 go_wp2
 go_loopw [11] (fun i wr => ∃ k : Nat, k ≤ len ∧ i = .int .i64 k ∧ ∃ es, MRs wr w.heap.size k es ∧ es.map (·.R) = ((xs.take k).map (·.R)).foldl mput [] ∧ (∀ x ∈ es, x.R.may = true) ∧ Below w.heap.size w wr) (fun i _ => len - (intOf i).toNat)
 case atStart => exact ⟨0, Nat.zero_le _, rfl, [], H0.out.1, rfl, (fun x hx => absurd hx (by simp)), H0.out.2⟩
 case round =>
  obtain ⟨k, hk, rfl, es, hM, heq, hmay, hb⟩ := hrel
  by_cases hlt : k < len
  ·obtain ⟨b0, off, rfl, hbB, hcc⟩ := HC.out (by rw [HLN.out]; omega)
   have hx := (hcc k (by rw [HLN.out]; exact hlt)).same (hb.block b0 hbB)
   have IX := ix_rec b0 off len c k hlt k rfl
   have hvx := (HRV.out k hlt).below hb (Nat.le_refl _)
   have hmx := HMY.out k hlt
   have hgs := gather_snoc (xs := xs) (k := k) (by rw [HLN.out]; exact hlt)
   generalize xs.getD k rcA0 = x at *
   generalize off + k * 19 = ox at *
   have LX := Lib.hid hx.load
   have HVX := Lib.hid hvx
   have HMX0 := Lib.hid hmx
   have ZX := Lib.hid hvx.len
   have HGS := Lib.hid hgs
   have HEQ := Lib.hid heq
   have HMAY := Lib.hid hmay
   have HMM := Lib.hid hM
   have HBB := Lib.hid hb
   have HXL := Lib.hid (rmay_len hmx)
   clear hcc hx hvx hmx hgs heq hmay hM hb
   cases hxat : xat es x.R.z with
   | none =>
    have HXA := Lib.hid hxat
    have ZO := Lib.hid (show rcA0.R.z.length = 16 from z16_len)
    clear hxat
    go_wp2_with (first | ((with_reducible refine wpList_load_by (o := ⟨some 14, .load 61 (.tmp 13), _, _, _, _⟩) ?e1 61 (.tmp 13) ?e2 ⟨b0, ox, none⟩ ?e3 _ LX.out ?_); (case e1 => rfl); (case e2 => rfl); (case e3 => rfl)) | ((with_reducible refine wpList_store_newx (o := ⟨none, .store 61 (.tmp 5) (.tmp 14), _, _, _, _⟩) (w := wr) ?e1 (.tmp 5) (.tmp 14) ?e2 wr.heap.size ?e0 ?e3 x ?e4 ZX.out ?_); (case e1 => rfl); (case e2 => rfl); (case e0 => rfl); (case e3 => rfl); (case e4 => rfl); intro w2 hb2 hx2 hs2; have X2 := Lib.hid hx2; have HW2 := Lib.hid hb2; have LI := Lib.hid hx2.load_id; have HM2 := Lib.hid (HMM.out.below hb2 (Nat.le_refl _)); have LK := HM2.out.look HVX.out.len HVX.out.1.2; rw [HXA.out] at LK; dsimp only [Option.getD_none, Option.getD_some, Option.isSome_none, Option.isSome_some] at LK; clear hx2 hb2 hs2) | ((with_reducible refine wpList_load_by (o := ⟨some 18, .load 30 (.tmp 17), _, _, _, _⟩) ?e1 30 (.tmp 17) ?e2 ⟨wr.heap.size, 0, none⟩ ?e3 _ LI.out ?_); (case e1 => rfl); (case e2 => rfl); (case e3 => rfl)) | ((with_reducible refine wpList_store_newx (o := ⟨none, .store 61 (.tmp 6) (.tmp 20), _, _, _, _⟩) (w := w2) ?e1 (.tmp 6) (.tmp 20) ?e2 w2.heap.size ?e0 ?e3 rcA0 ?e4 ZO.out ?_); (case e1 => rfl); (case e2 => rfl); (case e0 => rfl); (case e3 => rfl); (case e4 => rfl); intro w3 hb3 hx3 hs3; have X3 := Lib.hid (X2.out.below hb3 X2.out.lt); have O3 := Lib.hid hx3; have HM3 := Lib.hid (HM2.out.below hb3 (Nat.le_refl _)); have HB3 := Lib.hid (HBB.out.trans ((HW2.out.trans (hb3.mono HW2.out.size)).mono HBB.out.size)); have HV3 := Lib.hid ((HVX.out.below HW2.out (Nat.le_refl _)).below hb3 (Nat.le_refl _)); have HO := Lib.hid (fun (w9 : World) (hS : Below w3.heap.size w3 w9) => own_any x w9 (HV3.out.below hS (Nat.le_refl _)) (by have := HXL.out; omega)); unfold OwnPost at HO; clear hx3 hb3 hs3 LK))
    refine wp_region_held_drew (S := fun w' => XAt w' wr.heap.size x ∧ XAt w' w2.heap.size rcA0) (by kernel_rfl) ⟨X3.out, O3.out⟩ (fun hS => ?_)
    refine wpHv (i := 0) (oi := ⟨some 24, _, _, _, _, _⟩) (v := ?_) rfl ?_ hS ?_; rotate_left; (focus (intro w9 hSw; (try dsimp only at hSw); go_simp; try with_reducible rfl)); simp only [Act.put, Z2, Z3, Z4]
    refine wpHv (i := 1) (oi := ⟨some 25, _, _, _, _, _⟩) (v := ?_) rfl ?_ hS ?_; rotate_left; (focus (intro w9 hSw; (try dsimp only at hSw); go_simp; try with_reducible rfl)); simp only [Act.put, Z2, Z3, Z4]
    refine wpHv (i := 2) (oi := ⟨some 26, _, _, _, _, _⟩) (v := (.agg (bvals x.R.z))) rfl ?_ hS ?_; (focus (intro w9 hSw; (try dsimp only at hSw); exact exec_load_by 30 _ rfl ⟨wr.heap.size, 0, none⟩ rfl hSw.1.load_id)); simp only [Act.put, Z2, Z3, Z4]
    refine wpHv (i := 3) (oi := ⟨some 27, _, _, _, _, _⟩) (v := (.agg x.cells)) rfl ?_ hS ?_; (focus (intro w9 hSw; (try dsimp only at hSw); exact exec_load_by 61 _ rfl ⟨wr.heap.size, 0, none⟩ rfl hSw.1.load)); simp only [Act.put, Z2, Z3, Z4]
    refine wpAnyH_ready (rs := [4]) (by kernel_rfl) (by simp) (AllReadyH.cons (o := ⟨some 28, _, _, _, _, _⟩) rfl (fun K hK => ?_) AllReadyH.nil)
    go_simp
    refine (HO.out _ (Below.refl w3.heap.size w3).drew).mono ?_
    rintro e x0 ⟨y, rfl, hyR, hy, hb0⟩
    have hbx : Below w3.heap.size w3 x0 := ((Below.refl w3.heap.size w3).drew).trans (hb0.mono (Nat.le_refl _))
    clear hS
    refine hK.out _ _ ⟨X3.out.below hbx X3.out.lt, O3.out.below hbx O3.out.lt⟩ (fun hS => ?_)
    clear hK K
    have YZ : y.R.z = x.R.z := by rw [hyR]
    have YR : y.R = bone (bat (es.map (·.R)) x.R.z) x.R := by rw [xat_bat, HXA.out]; exact hyR
    have YM : y.R.may = true := by rw [hyR]; exact HMX0.out
    have HMX := Lib.hid ((HM3.out.below hbx (Nat.le_refl _)))
    have HBW := Lib.hid (HB3.out.trans (hbx.mono HB3.out.size))
    obtain ⟨w5, hrun, hm5, hg5⟩ := HMX.out.store (by omega) hy
    rw [show y.R.z = x.R.z from YZ] at hrun
    have HRUN := Lib.hid hrun
    have HM5 := Lib.hid hm5
    have HB5 := Lib.hid (HBW.out.grown hg5 HBW.out.size (fun k e => by cases e; exact Nat.le_refl _))
    have HEQ5 : Hid ((xput es y).map (·.R) = ((xs.take (k + 1)).map (·.R)).foldl mput []) := Lib.hid (by rw [HGS.out, ← HEQ.out]; exact xput_mput HMX.out.keys (r := x.R) YZ.symm YR)
    have HMAY5 : Hid (∀ x ∈ xput es y, x.R.may = true) := Lib.hid (fun u hu => by
     rcases xput_mem hu with rfl | hu
     ·exact YM
     ·exact HMAY.out u hu)
    have HS5 := Lib.hid (And.intro (hS.1.kept_map hg5 HMX.out) (hS.2.kept_map hg5 HMX.out))
    clear hrun hm5 hg5 hy hyR hb0 hbx YZ YR YM
    refine wpAnyH_ready (rs := [5]) (by kernel_rfl) (by simp) (AllReadyH.cons (o := ⟨none, _, _, _, _, _⟩) rfl (fun K hK => ?_) AllReadyH.nil)
    have hrun := HRUN.out
    go_simp
    refine hK.out _ _ HS5.out (fun _ => ?_)
    clear hK K hS hrun
    refine wpAnyH_done (by kernel_rfl) ?_ _
    go_wp2
    go_roundw
    case rel => exact ⟨k + 1, by omega, by go_num, _, HM5.out, HEQ5.out, HMAY5.out, HB5.out⟩
    case measure => simp [intOf]; omega
   | some o =>
    have HXA := Lib.hid hxat
    have HOM := Lib.hid (xat_some hxat).1
    have HOZ := Lib.hid (xat_some hxat).2
    have ZO := Lib.hid (HMM.out.rv o HOM.out).len
    have HJN := Lib.hid (join_eq (HMAY.out o HOM.out) HMX0.out HOZ.out)
    clear hxat
    go_wp2_with (first | ((with_reducible refine wpList_load_by (o := ⟨some 14, .load 61 (.tmp 13), _, _, _, _⟩) ?e1 61 (.tmp 13) ?e2 ⟨b0, ox, none⟩ ?e3 _ LX.out ?_); (case e1 => rfl); (case e2 => rfl); (case e3 => rfl)) | ((with_reducible refine wpList_store_newx (o := ⟨none, .store 61 (.tmp 5) (.tmp 14), _, _, _, _⟩) (w := wr) ?e1 (.tmp 5) (.tmp 14) ?e2 wr.heap.size ?e0 ?e3 x ?e4 ZX.out ?_); (case e1 => rfl); (case e2 => rfl); (case e0 => rfl); (case e3 => rfl); (case e4 => rfl); intro w2 hb2 hx2 hs2; have X2 := Lib.hid hx2; have HW2 := Lib.hid hb2; have LI := Lib.hid hx2.load_id; have HM2 := Lib.hid (HMM.out.below hb2 (Nat.le_refl _)); have LK := HM2.out.look HVX.out.len HVX.out.1.2; rw [HXA.out] at LK; dsimp only [Option.getD_none, Option.getD_some, Option.isSome_none, Option.isSome_some] at LK; clear hx2 hb2 hs2) | ((with_reducible refine wpList_load_by (o := ⟨some 18, .load 30 (.tmp 17), _, _, _, _⟩) ?e1 30 (.tmp 17) ?e2 ⟨wr.heap.size, 0, none⟩ ?e3 _ LI.out ?_); (case e1 => rfl); (case e2 => rfl); (case e3 => rfl)) | ((with_reducible refine wpList_store_newx (o := ⟨none, .store 61 (.tmp 6) (.tmp 20), _, _, _, _⟩) (w := w2) ?e1 (.tmp 6) (.tmp 20) ?e2 w2.heap.size ?e0 ?e3 o ?e4 ZO.out ?_); (case e1 => rfl); (case e2 => rfl); (case e0 => rfl); (case e3 => rfl); (case e4 => rfl); intro w3 hb3 hx3 hs3; have X3 := Lib.hid (X2.out.below hb3 X2.out.lt); have O3 := Lib.hid hx3; have HM3 := Lib.hid (HM2.out.below hb3 (Nat.le_refl _)); have HB3 := Lib.hid (HBB.out.trans ((HW2.out.trans (hb3.mono HW2.out.size)).mono HBB.out.size)); have HV3 := Lib.hid ((HVX.out.below HW2.out (Nat.le_refl _)).below hb3 (Nat.le_refl _)); have HJ := Lib.hid (fun (w9 : World) (hS : Below w3.heap.size w3 w9) => xjoin_any o x w9 (HLA.out _ (HB3.out.trans (hS.mono HB3.out.size))) (HM3.out.rv o HOM.out |>.below hS (Nat.le_refl _)) (HV3.out.below hS (Nat.le_refl _))); rw [HJN.out] at HJ; dsimp only [Option.getD_some, Option.isSome_some] at HJ; clear hx3 hb3 hs3 LK))
    refine wp_region_held_drew (S := fun w' => XAt w' wr.heap.size x ∧ XAt w' w2.heap.size o) (by kernel_rfl) ⟨X3.out, O3.out⟩ (fun hS => ?_)
    refine wpHv (i := 0) (oi := ⟨some 30, _, _, _, _, _⟩) (v := ?_) rfl ?_ hS ?_; rotate_left; (focus (intro w9 hSw; (try dsimp only at hSw); go_simp; try with_reducible rfl)); simp only [Act.put, Z2, Z3, Z4]
    refine wpHv (i := 1) (oi := ⟨some 31, _, _, _, _, _⟩) (v := ?_) rfl ?_ hS ?_; rotate_left; (focus (intro w9 hSw; (try dsimp only at hSw); go_simp; try with_reducible rfl)); simp only [Act.put, Z2, Z3, Z4]
    refine wpHv (i := 2) (oi := ⟨some 32, _, _, _, _, _⟩) (v := (.agg (bvals x.R.z))) rfl ?_ hS ?_; (focus (intro w9 hSw; (try dsimp only at hSw); exact exec_load_by 30 _ rfl ⟨wr.heap.size, 0, none⟩ rfl hSw.1.load_id)); simp only [Act.put, Z2, Z3, Z4]
    refine wpHv (i := 3) (oi := ⟨some 33, _, _, _, _, _⟩) (v := (.agg o.cells)) rfl ?_ hS ?_; (focus (intro w9 hSw; (try dsimp only at hSw); exact exec_load_by 61 _ rfl ⟨w2.heap.size, 0, none⟩ rfl hSw.2.load)); simp only [Act.put, Z2, Z3, Z4]
    refine wpHv (i := 4) (oi := ⟨some 34, _, _, _, _, _⟩) (v := (.agg x.cells)) rfl ?_ hS ?_; (focus (intro w9 hSw; (try dsimp only at hSw); exact exec_load_by 61 _ rfl ⟨wr.heap.size, 0, none⟩ rfl hSw.1.load)); simp only [Act.put, Z2, Z3, Z4]
    refine wpAnyH_ready (rs := [5]) (by kernel_rfl) (by simp) (AllReadyH.cons (o := ⟨some 35, _, _, _, _, _⟩) rfl (fun K hK => ?_) AllReadyH.nil)
    go_simp
    refine (HJ.out _ (Below.refl w3.heap.size w3).drew).mono ?_
    rintro e x0 ⟨y, rfl, hyR, hy, hb0⟩
    have hbx : Below w3.heap.size w3 x0 := ((Below.refl w3.heap.size w3).drew).trans (hb0.mono (Nat.le_refl _))
    clear hS
    refine hK.out _ _ ⟨X3.out.below hbx X3.out.lt, O3.out.below hbx O3.out.lt⟩ (fun hS => ?_)
    clear hK K
    have YZ : y.R.z = x.R.z := by rw [hyR, jn_z]; exact HOZ.out
    have YR : y.R = bone (bat (es.map (·.R)) x.R.z) x.R := by rw [xat_bat, HXA.out]; exact hyR
    have YM : y.R.may = true := by rw [hyR]; exact jn_may (HMAY.out o HOM.out) HMX0.out
    have HMX := Lib.hid ((HM3.out.below hbx (Nat.le_refl _)))
    have HBW := Lib.hid (HB3.out.trans (hbx.mono HB3.out.size))
    obtain ⟨w5, hrun, hm5, hg5⟩ := HMX.out.store (by omega) hy
    rw [show y.R.z = x.R.z from YZ] at hrun
    have HRUN := Lib.hid hrun
    have HM5 := Lib.hid hm5
    have HB5 := Lib.hid (HBW.out.grown hg5 HBW.out.size (fun k e => by cases e; exact Nat.le_refl _))
    have HEQ5 : Hid ((xput es y).map (·.R) = ((xs.take (k + 1)).map (·.R)).foldl mput []) := Lib.hid (by rw [HGS.out, ← HEQ.out]; exact xput_mput HMX.out.keys (r := x.R) YZ.symm YR)
    have HMAY5 : Hid (∀ x ∈ xput es y, x.R.may = true) := Lib.hid (fun u hu => by
     rcases xput_mem hu with rfl | hu
     ·exact YM
     ·exact HMAY.out u hu)
    have HS5 := Lib.hid (And.intro (hS.1.kept_map hg5 HMX.out) (hS.2.kept_map hg5 HMX.out))
    clear hrun hm5 hg5 hy hyR hb0 hbx YZ YR YM
    refine wpHv (i := 6) (oi := ⟨some 29, _, _, _, _, _⟩) (v := ?_) rfl ?_ hS ?_; rotate_left; (focus (intro w9 hSw; (try dsimp only at hSw); go_simp; try with_reducible rfl)); simp only [Act.put, Z2, Z3, Z4]
    refine wpHv (i := 7) (oi := ⟨some 36, _, _, _, _, _⟩) (v := ?_) rfl ?_ hS ?_; rotate_left; (focus (intro w9 hSw; (try dsimp only at hSw); go_simp; try with_reducible rfl)); simp only [Act.put, Z2, Z3, Z4]
    refine wpHv (i := 8) (oi := ⟨some 37, _, _, _, _, _⟩) (v := ?_) rfl ?_ hS ?_; rotate_left; (focus (intro w9 hSw; (try dsimp only at hSw); go_simp; try with_reducible rfl)); simp only [Act.put, Z2, Z3, Z4]
    refine wpAnyH_ready (rs := [9]) (by kernel_rfl) (by simp) (AllReadyH.cons (o := ⟨none, _, _, _, _, _⟩) rfl (fun K hK => ?_) AllReadyH.nil)
    have hrun := HRUN.out
    go_simp
    refine hK.out _ _ HS5.out (fun _ => ?_)
    clear hK K hS hrun
    refine wpAnyH_done (by kernel_rfl) ?_ _
    go_wp2
    go_roundw
    case rel => exact ⟨k + 1, by omega, by go_num, _, HM5.out, HEQ5.out, HMAY5.out, HB5.out⟩
    case measure => simp [intOf]; omega
  ·obtain rfl : k = len := by omega
   rw [List.take_of_length_le (by rw [HLN.out]; exact Nat.le_refl _)] at heq
   have HEQ := Lib.hid heq
   have HMM := Lib.hid hM
   have HBB := Lib.hid hb
   clear heq hmay hM hb
   go_wp2
   go_ret
   exact ⟨_, _, _, rfl, Nat.le_refl _, HMM.out, HEQ.out, HBB.out⟩
end
end Go.Proofs.YtkjimhlpbgeagaaGreatDoor
