import Derived.Test.YtkjimhlpbgeagaaGreatDoorF0
import Derived.Test.YtkjimhlpbgeagaaGreatDoorF1
import Derived.Lib.AppendZeros
import Derived.Deep.Draws
import Derived.Deep.WholeRow
import Derived.Test.YtkjimhlpbgeagaaGreatDoorF2
import Derived.Test.YtkjimhlpbgeagaaGreatDoorF6
import Derived.RangeFuncBox
import Derived.Test.YtkjimhlpbgeagaaGreatDoorF5
import Derived.Maps.OwnSet
import Derived.Maps.Views
import Derived.DeepKeys4
/-
  What the functions that a law of this layer reaches answer, part 12. Nothing that was there is written.
-/
namespace Go.Proofs.YtkjimhlpbgeagaaGreatDoor
set_option linter.unusedVariables false
set_option linter.unusedSimpArgs false
section
open Go.RowKit WM
set_option maxRecDepth 20000
structure Kind (α : Type) where
 n : Nat
 pos : 0 < n
 cs : α → List Value
 d : α
 ok : World → α → Prop
 len : ∀ {w : World} {x : α}, ok w x → (cs x).length = n
 one : ∀ (x : α) (u : Value), u ∈ cs x → u.oneCell' = true
 below : ∀ {w w' : World} {x : α}, ok w x → Below w.heap.size w w' → ok w' x
section
variable {α : Type} (K : Kind α)
def Kind.v (x : α) : Value := .agg (K.cs x).toArray
def Kind.at (w : World) (b o : Nat) (x : α) : Prop := ∀ j, j < K.n → w.cell? ⟨b, o + j, none⟩ = (K.cs x)[j]?
def Kind.row (w : World) (A : Option Addr) (c : Nat) (xs : List α) : Prop :=
 xs.length ≤ c ∧ c ≤ maxLen ∧ (A = none → c = 0) ∧
 (0 < xs.length → ∃ b off, A = some ⟨b, off, none⟩ ∧ b < w.heap.size ∧ ∀ i, i < xs.length → K.at w b (off + i * K.n) (xs.getD i K.d)) ∧ ∀ x ∈ xs, K.ok w x
def Kind.blk (t : TypeId) (w : World) (b : Nat) (x : α) : Prop := w.heap[b]? = some (.cells (K.cs x).toArray t)
end
section
variable {α : Type} {K : Kind α} {w w' : World} {A : Option Addr} {c : Nat} {xs ys : List α} {x : α} {b o : Nat} {t te ts : TypeId}
theorem Kind.at_same (h : K.at w b o x) (hb : w'.heap[b]? = w.heap[b]?) : K.at w' b o x := fun j hj => (World.cell?_of_block (a := ⟨b, o + j, none⟩) hb).trans (h j hj)
theorem Kind.at_blk (h : K.blk t w b x) : K.at w b 0 x := fun j hj => by rw [Nat.zero_add, cell_of_row _ _ _ _ _ _ h, List.getElem?_toArray]
theorem Kind.row_below {B : Nat} (h : K.row w A c xs) (hb : Below B w w') (hB : w.heap.size ≤ B) : K.row w' A c xs := by
 obtain ⟨h1, h2, h3, h4, h5⟩ := h
 refine ⟨h1, h2, h3, fun h0 => ?_, fun x hx => K.below (h5 x hx) (hb.mono hB)⟩
 obtain ⟨b, off, rfl, hlt, hc⟩ := h4 h0
 exact ⟨b, off, rfl, Nat.lt_of_lt_of_le hlt hb.size, fun i hi => Kind.at_same (hc i hi) (hb.block b (Nat.lt_of_lt_of_le hlt hB))⟩
theorem Kind.row_nil (w : World) (A : Option Addr) (c : Nat) (hc : c ≤ maxLen) (h : A = none → c = 0) : K.row w A c [] := ⟨Nat.zero_le _, hc, h, fun h => absurd h (by simp), fun x hx => by cases hx⟩
theorem Kind.row_ok (h : K.row w A c xs) {i : Nat} (hi : i < xs.length) : K.ok w (xs.getD i K.d) := by
 rw [List.getD_eq_getElem?_getD, List.getElem?_eq_getElem hi]
 exact h.2.2.2.2 _ (List.getElem_mem hi)
theorem Kind.blk_lt (h : K.blk t w b x) : b < w.heap.size := (Array.getElem?_eq_some_iff.1 h).1
theorem Kind.blk_below {B : Nat} (h : K.blk t w b x) (hb : Below B w w') (hB : b < B) : K.blk t w' b x := by unfold Kind.blk; rw [hb.block b hB]; exact h
theorem Kind.blk_new (w : World) (x : α) (t : TypeId) : K.blk t (w.alloc (.cells (K.cs x).toArray t)) w.heap.size x := heap_alloc_new w _
theorem Kind.blk_old (h : K.blk t w b x) (o : Obj) : K.blk t (w.alloc o) b x := Kind.blk_below h ((Below.refl w.heap.size w).alloc (Nat.le_refl _) o) (Kind.blk_lt h)
theorem Kind.flat_one (xs : List α) : ∀ u ∈ xs.flatMap K.cs, u.oneCell' = true := fun u hu => by
 obtain ⟨f, _, hf⟩ := List.mem_flatMap.1 hu
 exact K.one f u hf
theorem Kind.flat_len : ∀ {xs : List α}, (∀ x ∈ xs, K.ok w x) → (xs.flatMap K.cs).length = xs.length * K.n
 | [], _ => by simp
 | f :: fs, h => by rw [List.flatMap_cons, List.length_append, Kind.flat_len (fun x hx => h x (List.mem_cons_of_mem _ hx)), List.length_cons, K.len (h f List.mem_cons_self), Nat.succ_mul]; omega
theorem Kind.flat_at : ∀ {xs : List α}, (∀ x ∈ xs, K.ok w x) → ∀ {i j : Nat}, i < xs.length → j < K.n → (xs.flatMap K.cs)[i * K.n + j]? = (K.cs (xs.getD i K.d))[j]?
 | [], _, i, j, hi, _ => by simp at hi
 | x :: xs, h, i, j, hi, hj => by
  have hx := K.len (h x List.mem_cons_self)
  cases i with
  | zero =>
   simp only [List.flatMap_cons, Nat.zero_mul, Nat.zero_add, List.getD_cons_zero]
   rw [List.getElem?_append_left (by rw [hx]; omega)]
  | succ i =>
   simp only [List.flatMap_cons, List.getD_cons_succ]
   have e : (i + 1) * K.n + j = i * K.n + j + K.n := by rw [Nat.succ_mul]; omega
   rw [List.getElem?_append_right (by rw [hx, e]; omega), hx, e, Nat.add_sub_cancel]
   exact Kind.flat_at (fun y hy => h y (List.mem_cons_of_mem _ hy)) (by simpa using hi) hj
theorem Kind.row_own {base : Nat} (h : w.ownsRow base te K.n (.slice A xs.length c) xs.length (xs.flatMap K.cs)) (hx : ∀ x ∈ xs, K.ok w x) : K.row w A c xs := by
 rcases h.2 with ⟨h1, h2⟩ | ⟨g, cap, cur, h1, hb, hg, hn, hm, hs, ht⟩
 ·simp only [Value.slice.injEq] at h1
  obtain ⟨rfl, h3, rfl⟩ := h1
  exact ⟨by omega, by decide, fun _ => rfl, fun h0 => by omega, hx⟩
 ·simp only [Value.slice.injEq] at h1
  obtain ⟨rfl, _, rfl⟩ := h1
  refine ⟨hn, hm, fun h => (by cases h), fun h0 => ⟨g, 0, rfl, (Array.getElem?_eq_some_iff.1 hg).1, fun i hi j hj => ?_⟩, hx⟩
  rw [cell_of_row w g _ cur _ (0, 0) hg, ← Kind.flat_at hx hi hj, ← ht, List.getElem?_take, if_pos (Nat.lt_of_lt_of_le (show i * K.n + j < (i + 1) * K.n by rw [Nat.succ_mul]; omega) (Nat.mul_le_mul_right _ hi))]
  simp
theorem Kind.row_one (h : K.ok (w.alloc (.cells (K.cs x).toArray t)) x) : K.row (w.alloc (.cells (K.cs x).toArray t)) (some ⟨w.heap.size, 0, none⟩) 1 [x] := by
 refine ⟨Nat.le_refl _, (show 1 ≤ maxLen by decide), (fun e => by cases e), fun _ => ⟨w.heap.size, 0, rfl, by rw [World.size_alloc]; omega, fun i hi => ?_⟩, fun y hy => by rw [List.mem_singleton.1 hy]; exact h⟩
 obtain rfl : i = 0 := by simpa using hi
 rw [Nat.zero_mul]
 exact Kind.at_blk (Kind.blk_new w x t)
theorem Kind.at_load {P : Program} {d : TypeDesc} (h : K.at w b o x) (hk : (K.cs x).length = K.n) (hu : P.underlying te = some d) (hd : (match d with | .struct _ | .array _ _ => true | _ => false) = true) (hi : (P.info? te).map (·.size) = some K.n) :
  (loadVar te ⟨b, o, none⟩).run P w = .ok (K.v x) w := by
 have hl : (loadCells ⟨b, o, none⟩ K.n).run P w = .ok (K.cs x).toArray w := by
  have h1 := run_loadCells_list (P := P) w ⟨b, o, none⟩ (K.cs x) (fun j u hu => by
   rw [Addr.add_lit, h j (by have := (List.getElem?_eq_some_iff.1 hu).1; rw [hk] at this; exact this)]
   exact hu)
  rw [hk] at h1
  exact h1
 cases hq : P.info? te with
 | none => simp [hq] at hi
 | some i =>
  have hs : i.size = K.n := by simpa [hq] using hi
  have hagg : (isAgg te).run P w = .ok true w := by
   unfold isAgg
   rw [Sem.run_bind, run_underlying hu w]
   cases d <;> simp at hd ⊢
  simp [loadVar, Sem.run_bind, hagg, sizeOf, typeInfo, hq, hs, hl, Kind.v]
theorem Kind.ix {P : Program} {off len cap i : Nat} (ht : P.underlying ts = some (.slice (P.elem ts))) (hs : ∀ w, (sizeOf (P.elem ts)).run P w = .ok K.n w) (h : i < len) (I : Int) (e : I = i) (w : World) :
  (Instr.indexAt ts (.slice (some ⟨b, off, none⟩) len cap) (.int .i64 I)).run P w = .ok (.pointer (some ⟨b, off + i * K.n, none⟩)) w := by
 subst e
 rw [run_indexAt_slice w ts _ len cap .i64 i ht, if_pos (by omega), hs]
 simp [Result.andThen, Addr.add_lit]
end
section
variable {α : Type} {K : Kind α} {P : Program} {ops : Array Oper} {rest : List Oper} {o : Oper} {a : Act} {Q : Exit → Act → World → Prop}
theorem wpList_append_K (w : World) (hgd : o.guard = none) (s x : Operand) (t : TypeId)
  (ho : o.op = .call { callee := .builtin .append, args := #[s, x], argTypes := #[t, t] })
  (base : Nat) (e : TypeId) (i : TypeInfo) (zv : Value) (bytes : Nat) (ht : P.underlying t = some (.slice e)) (hi : P.info? e = some i) (hz : i.zero = some zv) (hsize : i.size = K.n) (hby : i.bytes = bytes) (hzs : zv.cells.size = K.n) (hb9 : bytes ≤ 1000)
  (v : Value) (n : Nat) (gs : List α) (hs : a.eval s = v) (hown : w.ownsRow base e K.n v n (gs.flatMap K.cs))
  (A : Option Addr) (m c : Nat) (fs : List α) (hx : a.eval x = .slice A m c) (hr : K.row w A c fs) (hl : fs.length = m) (hlen : n + m ≤ 10000000) (hbase : base ≤ w.heap.size)
  (h : ∀ v' w', w'.ownsRow base e K.n v' (n + m) ((gs ++ fs).flatMap K.cs) → w.grownBy w' v.ownBlock → wpList P ops Q rest (a.put o.dst v') w') : wpList P ops Q (o :: rest) a w := by
 have fin : ∀ ad : Addr, A = some ad → (∀ j u, (fs.flatMap K.cs)[j]? = some u → w.cell? (ad.add j) = some u) → wpList P ops Q (o :: rest) a w := by
  intro ad hA hc
  subst hA
  refine wpList_append_own w hgd s x t ho base e i zv K.n bytes ht hi hz hsize hby hzs K.pos v n _ hs hown ad m c (fs.flatMap K.cs) hx (by rw [Kind.flat_len (fun x hxx => hr.2.2.2.2 x hxx), hl]) hc (Kind.flat_one fs) (by simp only [maxLen]; omega) (Nat.le_trans (Nat.mul_le_mul hlen hb9) (by omega)) hbase ?_
  intro v' w' h1 h2 _
  exact h v' w' (by rw [List.flatMap_append]; exact h1) h2
 obtain ⟨h1, h2, h3, h4, h5⟩ := hr
 by_cases hn : fs = []
 ·subst hn
  cases A with
  | none =>
   have hc0 := h3 rfl
   simp at hl
   subst hl
   subst hc0
   refine wpList_append_own_none hgd s x t ho base e i K.n ht hi v n _ hs hown hx ?_
   exact h v w (by simpa using hown) (World.grownBy.refl w _)
  | some ad => exact fin ad rfl (fun j u hj => by simp at hj)
 ·obtain ⟨b, off, hA, _, hc⟩ := h4 (List.length_pos_iff.2 hn)
  refine fin _ hA (fun j u hj => ?_)
  have hjl := (List.getElem?_eq_some_iff.1 hj).1
  rw [Kind.flat_len h5] at hjl
  have hij : j = j / K.n * K.n + j % K.n := by rw [Nat.mul_comm]; exact (Nat.div_add_mod j K.n).symm
  have hi' : j / K.n < fs.length := Nat.div_lt_of_lt_mul (by rw [Nat.mul_comm]; exact hjl)
  have hm := Nat.mod_lt j K.pos
  rw [hij, Kind.flat_at h5 hi' hm] at hj
  have hq := hc (j / K.n) hi' (j % K.n) hm
  rw [Addr.add_lit]
  rw [Nat.add_assoc, ← hij] at hq
  exact hq.trans hj
end
section
variable {α : Type} {K : Kind α} {P : Program} {ops : Array Oper} {o : Oper} {a : Act} {KK : Act → World → Prop} {Q : Exit → Act → World → Prop} {E : Prop}
theorem step_append_K {X : World} (hgd : o.guard = none) (s x : Operand) (t : TypeId)
  (ho : o.op = .call { callee := .builtin .append, args := #[s, x], argTypes := #[t, t] })
  (base : Nat) (e : TypeId) (i : TypeInfo) (zv : Value) (bytes : Nat) (ht : P.underlying t = some (.slice e)) (hi : P.info? e = some i) (hz : i.zero = some zv) (hsize : i.size = K.n) (hby : i.bytes = bytes) (hzs : zv.cells.size = K.n) (hb9 : bytes ≤ 1000)
  (v : Value) (L : List α) (y : α) (hs : a.eval s = v) (hown : (X.alloc (.cells (K.cs y).toArray e)).ownsRow base e K.n v L.length (L.flatMap K.cs)) (hL : L.length ≤ 90000) (hyl : (K.cs y).length = K.n)
  (hx : a.eval x = .slice (some ⟨X.heap.size, 0, none⟩) 1 1) (hbase : base ≤ (X.alloc (.cells (K.cs y).toArray e)).heap.size)
  (h : ∀ v' w', w'.ownsRow base e K.n v' (L.length + 1) ((L ++ [y]).flatMap K.cs) → (X.alloc (.cells (K.cs y).toArray e)).grownBy w' v.ownBlock → KK (a.put o.dst v') w') :
  if Region.wanted o (yielded ops a.tmps) = true then Oper.wp P o a (X.alloc (.cells (K.cs y).toArray e)) KK Q else E := by
 have hw : Region.wanted o (yielded ops a.tmps) = true := by simp [Region.wanted, hgd]
 rw [if_pos hw]
 refine wp_append_own _ s x t ho base e i zv K.n bytes ht hi hz hsize hby hzs K.pos v L.length _ hs hown ⟨X.heap.size, 0, none⟩ 1 1 (K.cs y) hx (by rw [hyl, Nat.one_mul]) (fun j u hu => by
  rw [Addr.add_lit, cell_of_row _ _ _ _ _ _ (heap_alloc_new X _), Nat.zero_add, List.getElem?_toArray]
  exact hu) (K.one y) (by simp only [maxLen]; omega) (Nat.le_trans (Nat.mul_le_mul (show L.length + 1 ≤ 10000000 by omega) hb9) (by omega)) hbase ?_
 intro v' w' h1 h2 _
 refine h v' w' ?_ h2
 rw [List.flatMap_append, List.flatMap_singleton]
 exact h1
end
theorem foldl_put (l : List Value) : ∀ (pre rest : List Value), rest.length = l.length → ((l.zipIdx pre.length).foldl (fun cs (x : Value × Nat) => cs.setIfInBounds (0 + x.2) x.1) (pre ++ rest).toArray) = (pre ++ l).toArray := by
 induction l with
 | nil => intro pre rest h; rw [List.eq_nil_of_length_eq_zero h]; rfl
 | cons u l ih =>
  intro pre rest h
  cases rest with
  | nil => simp at h
  | cons r rest =>
   rw [List.zipIdx_cons, List.foldl_cons]
   have e : (pre ++ r :: rest).toArray.setIfInBounds (0 + pre.length) u = ((pre ++ [u]) ++ rest).toArray := by
    rw [Z2, Nat.zero_add, List.set_append_right _ _ (Nat.le_refl _), Nat.sub_self, Z3, List.append_assoc]
    rfl
   dsimp only
   rw [e]
   have h2 := ih (pre ++ [u]) rest (by simpa using h)
   rw [List.length_append, List.length_singleton] at h2
   rw [h2, List.append_assoc]
   rfl
theorem fill_whole {n : Nat} {cells : Array Value} {v : Value} (h : v.cells.size = n) (hc : cells.size = n) : Instr.fill (fun i => some (i * n, n)) cells [(0, v)] = some v.cells := by
 subst h
 unfold Instr.fill
 simp only [Nat.zero_mul]
 have hcond : (decide (v.cells.size ≠ v.cells.size) || decide (0 + v.cells.size > cells.size)) = false := by rw [hc]; simp
 rw [hcond]
 simp only [Bool.false_eq_true, if_false]
 unfold Instr.fill
 congr 1
 obtain ⟨l, hl⟩ : ∃ l, v.cells = l.toArray := ⟨v.cells.toList, by simp⟩
 obtain ⟨r, hr⟩ : ∃ r, cells = r.toArray := ⟨cells.toList, by simp⟩
 rw [hl, hr] at hc ⊢
 have h3 := foldl_put l [] r (by simpa using hc)
 simpa using h3
section
variable {α : Type} {K : Kind α} {P : Program} {ops : Array Oper} {rest : List Oper} {o : Oper} {a : Act} {Q : Exit → Act → World → Prop} {KK : Act → World → Prop} {E : Prop}
theorem run_bsliceK {x : α} {ts te : TypeId} {zv : Value} (hx : (K.cs x).length = K.n) (hu : P.underlying ts = some (.slice te)) (hs : ∀ w, (sizeOf te).run P w = .ok K.n w) (hz : ∀ w, (zeroValue te).run P w = .ok zv w) (hn : K.n ≤ 1000) (w : World) :
  (Instr.buildSlice ts 1 #[(0, K.v x)]).run P w = .ok (.slice (some ⟨w.heap.size, 0, none⟩) 1 1) (w.alloc (.cells (K.cs x).toArray te)) := by
 have hp := K.pos
 unfold Instr.buildSlice
 rw [Sem.run_bind, run_underlying hu w]
 simp only [Result.andThen_ok, Sem.run_bind, hs]
 rw [if_neg (by omega), if_neg (by omega)]
 simp only [Sem.run_bind, hz, Result.andThen_ok, Sem.run_pure]
 have hf := fill_whole (v := K.v x) (n := K.n) (cells := (Array.range (1 * K.n)).map (zv.cells[· % zv.cells.size]!)) (by rw [Kind.v, Value.cells, List.size_toArray]; exact hx) (by simp)
 have hf' : Instr.fill (fun i => some (i * K.n, K.n)) ((Array.range (1 * K.n)).map (zv.cells[· % zv.cells.size]!)) (#[(0, K.v x)] : Array (Nat × Value)).toList = some (K.v x).cells := hf
 rw [hf']
 rw [show (K.v x).cells = (K.cs x).toArray from rfl]
 generalize (K.cs x).toArray = C
 simp only [newRow, newObj]
 rfl
theorem wpList_bsliceK {w : World} {ts te : TypeId} {zv : Value} (hgd : o.guard = none) (y : Operand) (hop : o.op = .buildSlice ts 1 #[(0, y)]) (x : α) (hy : a.eval y = K.v x) (hx : (K.cs x).length = K.n) (hu : P.underlying ts = some (.slice te)) (hs : ∀ w, (sizeOf te).run P w = .ok K.n w) (hz : ∀ w, (zeroValue te).run P w = .ok zv w) (hn : K.n ≤ 1000)
  (hK : wpList P ops Q rest (a.put o.dst (.slice (some ⟨w.heap.size, 0, none⟩) 1 1)) (w.alloc (.cells (K.cs x).toArray te))) : wpList P ops Q (o :: rest) a w := by
 refine wpList_plain hgd fun K' hK' => ?_
 unfold Oper.wp execOp
 simp only [hop, List.map_toArray, List.map_cons, List.map_nil, hy, Sem.run_bind, run_bsliceK hx hu hs hz hn, Result.andThen_ok, Sem.run_pure]
 exact hK' _ _ hK
theorem step_bsliceK {X : World} {ts te : TypeId} {zv : Value} (hgd : o.guard = none) (y : Operand) (hop : o.op = .buildSlice ts 1 #[(0, y)]) (x : α) (hy : a.eval y = K.v x) (hx : (K.cs x).length = K.n) (hu : P.underlying ts = some (.slice te)) (hs : ∀ w, (sizeOf te).run P w = .ok K.n w) (hz : ∀ w, (zeroValue te).run P w = .ok zv w) (hn : K.n ≤ 1000)
  (h : KK (a.put o.dst (.slice (some ⟨X.heap.size, 0, none⟩) 1 1)) (X.alloc (.cells (K.cs x).toArray te))) :
  if Region.wanted o (yielded ops a.tmps) = true then Oper.wp P o a X KK Q else E := by
 have hw : Region.wanted o (yielded ops a.tmps) = true := by simp [Region.wanted, hgd]
 rw [if_pos hw]
 unfold Oper.wp execOp
 simp only [hop, List.map_toArray, List.map_cons, List.map_nil, hy, Sem.run_bind, run_bsliceK hx hu hs hz hn, Result.andThen_ok, Sem.run_pure]
 exact h
end
theorem wpList_build_at {P : Program} {ops : Array Oper} {rest : List Oper} {o : Oper} {a : Act} {w : World} {Q : Exit → Act → World → Prop} (hw : Region.wanted o (yielded ops a.tmps) = true) (t : TypeId) (parts : Array (Nat × Operand)) (ho : o.op = .build t parts)
  (ps : Array (Nat × Value)) (hp : parts.map (fun x => (x.1, a.eval x.2)) = ps) (v : Value) (hv : (Instr.build t ps).run P w = .ok v w)
  (h : wpList P ops Q rest (a.put o.dst v) w) : wpList P ops Q (o :: rest) a w :=
 BigFrame.wpList_want hw fun _ hK => by
  unfold Oper.wp execOp
  simp only [ho]
  have e : parts.map (fun x => match x with | (i, x) => (i, a.eval x)) = ps := hp
  rw [e]
  simp only [Sem.run_bind, Sem.run_pure, Result.andThen_ok, hv]
  exact hK _ _ h
theorem wpList_load_at {P : Program} {ops : Array Oper} {rest : List Oper} {o : Oper} {a : Act} {w : World} {Q : Exit → Act → World → Prop} (hw : Region.wanted o (yielded ops a.tmps) = true) (ty : TypeId) (x : Operand) (ho : o.op = .load ty x)
  (ad : Addr) (hx : a.eval x = .pointer (some ad)) (v : Value) (hv : (loadVar ty ad).run P w = .ok v w)
  (h : wpList P ops Q rest (a.put o.dst v) w) : wpList P ops Q (o :: rest) a w :=
 BigFrame.wpList_want hw fun _ hK => by
  unfold Oper.wp execOp
  simp only [ho, hx, Instr.loadAt, Instr.sureAddr, Sem.run_bind, Sem.run_pure, Result.andThen_ok, hv]
  exact hK _ _ h
theorem exec_load_at {P : Program} {o : Oper} {ρ : Operand → Value} {w : World} (ty : TypeId) (x : Operand) (ho : o.op = .load ty x) (ad : Addr) (hx : ρ x = .pointer (some ad)) {v : Value} (hv : (loadVar ty ad).run P w = .ok v w) :
  (execOp ρ o).run P w = .ok (.value v) w := by
 unfold execOp
 simp only [ho, hx, Instr.loadAt, Instr.sureAddr, Sem.run_bind, Sem.run_pure, Result.andThen_ok, hv]
theorem exec_build_at {P : Program} {o : Oper} {ρ : Operand → Value} {w : World} (t : TypeId) (parts : Array (Nat × Operand)) (ho : o.op = .build t parts) (ps : Array (Nat × Value)) (hp : parts.map (fun x => (x.1, ρ x.2)) = ps) {v : Value}
  (hv : (Instr.build t ps).run P w = .ok v w) : (execOp ρ o).run P w = .ok (.value v) w := by
 unfold execOp
 simp only [ho]
 have e : parts.map (fun x => match x with | (i, x) => (i, ρ x)) = ps := hp
 rw [e]
 simp [hv]
theorem exec_store_at {P : Program} {o : Oper} {ρ : Operand → Value} {w : World} (ty : TypeId) (x y : Operand) (ho : o.op = .store ty x y) (g : Nat) (cells : Array Value) (hx : ρ x = .pointer (some ⟨g, 0, none⟩)) (hy : ρ y = .agg cells)
  (t : TypeId) (old : Array Value) (hg : w.heap[g]? = some (.cells old t (0, 0))) (hi : (P.info? ty).map (·.size) = some cells.size) (hold : old.size = cells.size) (h1 : cells.all (·.oneCell') = true) :
  (execOp ρ o).run P w = .ok .skip (w.setRow g cells) := by
 unfold execOp
 simp only [ho, hx, hy, Instr.storeAt, Instr.sureAddr, Sem.run_bind, Sem.run_pure, Result.andThen_ok, run_storeVar_row w g t ty old cells hg hi hold h1]
theorem wpList_store_new {P : Program} {ops : Array Oper} {rest : List Oper} {o : Oper} {a : Act} {w : World} {Q : Exit → Act → World → Prop} (hgd : o.guard = none) (t : TypeId) (p y : Operand) (hop : o.op = .store t p y) (hp : a.eval p = .pointer (some ⟨w.heap.size, 0, none⟩))
  (Z X : Array Value) (hy : a.eval y = .agg X) (hi : (P.info? t).map (·.size) = some X.size) (hold : Z.size = X.size) (h1 : X.all (·.oneCell') = true) (hK : wpList P ops Q rest (a.put o.dst undef) (w.alloc (.cells X t))) : wpList P ops Q (o :: rest) a (w.alloc (.cells Z t)) :=
 wpList_store_row hgd t p y hop w.heap.size X hp hy t Z (heap_alloc_new w _) hi hold h1 (by rw [World.setRow_alloc_new w _ _ _]; exact hK)
theorem exec_eql_at {P : Program} {o : Oper} {ρ : Operand → Value} {w : World} (t : TypeId) (x y : Operand) (u : TypeId) (ho : o.op = .binOp .eql t x y u) {xs ys : Array Value} (hx : ρ x = .agg xs) (hy : ρ y = .agg ys) (hm : P.eqGuardType P.depth t = false)
  {b : Bool} (h : (Op.equalIn 10000 t (.agg xs) (.agg ys)).run P w = .ok b w) : (execOp ρ o).run P w = .ok (.value (.bool b)) w := by
 unfold execOp
 simp only [ho, hx, hy, Sem.run_bind, run_eqGuard_agg (hm := hm), run_eql_struct, h, Result.andThen_ok, Sem.run_pure]
theorem exec_neq_at {P : Program} {o : Oper} {ρ : Operand → Value} {w : World} (t : TypeId) (x y : Operand) (u : TypeId) (ho : o.op = .binOp .neq t x y u) {xs ys : Array Value} (hx : ρ x = .agg xs) (hy : ρ y = .agg ys) (hm : P.eqGuardType P.depth t = false)
  {b : Bool} (h : (Op.equalIn 10000 t (.agg xs) (.agg ys)).run P w = .ok b w) : (execOp ρ o).run P w = .ok (.value (.bool !b)) w := by
 unfold execOp
 simp only [ho, hx, hy, Sem.run_bind, run_eqGuard_agg (hm := hm), run_neq_struct, h, Result.andThen_ok, Sem.run_pure]
theorem drop_same9 {α : Type} (d : α) {xs ys : List α} {k : Nat} (h1 : k < xs.length) (h2 : k < ys.length) : (xs.drop k = ys.drop k) ↔ (xs.getD k d = ys.getD k d ∧ xs.drop (k + 1) = ys.drop (k + 1)) := by
 rw [List.drop_eq_getElem_cons h1, List.drop_eq_getElem_cons h2, List.cons.injEq, List.getD_eq_getElem?_getD, List.getD_eq_getElem?_getD, List.getElem?_eq_getElem h1, List.getElem?_eq_getElem h2]
 rfl
theorem Kind.row_take {α : Type} {K : Kind α} {w : World} {A : Option Addr} {c : Nat} {xs : List α} (h : K.row w A c xs) (j : Nat) : K.row w A c (xs.take j) := by
 obtain ⟨h1, h2, h3, h4, h5⟩ := h
 have hl : (xs.take j).length ≤ xs.length := by rw [List.length_take]; omega
 refine ⟨Nat.le_trans hl h1, h2, h3, fun h0 => ?_, fun x hx => h5 x (List.mem_of_mem_take hx)⟩
 obtain ⟨b, off, hA, hb, hc⟩ := h4 (Nat.lt_of_lt_of_le h0 hl)
 refine ⟨b, off, hA, hb, fun i hi => ?_⟩
 have e : (xs.take j).getD i K.d = xs.getD i K.d := by
  rw [List.getD_eq_getElem?_getD, List.getD_eq_getElem?_getD, List.getElem?_take, if_pos (by rw [List.length_take] at hi; omega)]
 rw [e]
 exact hc i (Nat.lt_of_lt_of_le hi hl)
theorem slice_upto {P : Program} {ts : TypeId} {n : Nat} (ht : P.underlying ts = some (.slice (P.elem ts))) (hs : ∀ w, (sizeOf (P.elem ts)).run P w = .ok n w) (A : Option Addr) (len cap h : Nat) (h2 : h ≤ cap) (H : Int) (eH : H = h) (w : World) :
  (Instr.slice ts (.slice A len cap) none (some (.int .i64 H)) none).run P w = .ok (.slice A h cap) w := by
 subst eH
 rw [run_slice_h w ts _ len cap ht .i64 h (by omega) (by omega), hs]
 simp only [sliced, Result.andThen, Int.toNat_natCast, Nat.zero_mul, Nat.sub_zero]
 cases A with
 | none => simp
 | some a => simp [Addr.add]
def KPostN {α : Type} (K : Kind α) (te : TypeId) (w : World) (L : List α) (e : Ending) (w' : World) : Prop := ∃ A c, e = .returned (.slice A L.length c) ∧ K.row w' A c L ∧ Below w.heap.size w w' ∧ ∀ p : Addr, A = some p → ∃ cur, w'.heap[p.block]? = some (.cells cur te)
theorem kpostN_nil {α : Type} {K : Kind α} {te : TypeId} {w w' : World} (hb : Below w.heap.size w w') : KPostN K te w [] (.returned (.slice none 0 0)) w' := ⟨none, 0, rfl, Kind.row_nil w' none 0 (by decide) (fun _ => rfl), hb, fun _ h => by cases h⟩
theorem kpostN_own {α : Type} {K : Kind α} {w w' : World} {v : Value} {L : List α} {te : TypeId} (ho : w'.ownsRow w.heap.size te K.n v L.length (L.flatMap K.cs)) (hok : ∀ x ∈ L, K.ok w' x) (hb : Below w.heap.size w w') : KPostN K te w L (.returned v) w' := by
 rcases ho.2 with ⟨rfl, h0⟩ | ⟨g, cap, cur, rfl, _, hg, _⟩
 ·have hn : L = [] := List.eq_nil_of_length_eq_zero h0
  subst hn
  exact kpostN_nil hb
 ·exact ⟨_, cap, rfl, Kind.row_own (K := K) ho hok, hb, fun a h => by cases h; exact ⟨cur, hg⟩⟩
end
section
section
open Go.RowKit WM
set_option maxRecDepth 100000
theorem ix_strR (s : ByteArray) (k : Nat) (hk : k < (nums s).length) (K : Int) (e : K = k) (w : World) : (Instr.index 9 (.string s) (.int .i64 K)).run Tryz.prog w = .ok (.int .u8 ((nums s).getD k 0)) w := by
 subst e
 have hs : k < s.size := by rw [nums_len] at hk; exact hk
 have hd : k < s.data.toList.length := by rw [Array.length_toList]; exact hs
 rw [run_index_string (P := Tryz.prog) w 9 s .i64 k Tryz.underlying9]
 simp [nums, List.getD, hs]
 rfl
theorem byte_at (s : ByteArray) (k : Nat) : 0 ≤ (nums s).getD k 0 ∧ (nums s).getD k 0 ≤ 255 := by
 rw [List.getD_eq_getElem?_getD]
 rcases Nat.lt_or_ge k (nums s).length with h | h
 ·rw [List.getElem?_eq_getElem h]
  exact nums_bytes s _ (List.getElem_mem h)
 ·rw [List.getElem?_eq_none h]
  simp
end
section
open Go.RowKit WM
set_option maxRecDepth 20000
theorem nums_extract (s : ByteArray) (i j : Nat) : nums (s.extract i j) = ((nums s).drop i).take (j - i) := by
 unfold nums
 rw [ByteArray.data_extract, Array.toList_extract]
 simp [List.extract, List.map_drop, List.map_take]
theorem extract_size (s : ByteArray) (i j : Nat) (hj : j ≤ s.size) : (s.extract i j).size = j - i := by rw [ByteArray.size_extract]; omega
end
section
open Go.RowKit WM
set_option maxRecDepth 100000
end
section
open Go.RowKit WM
set_option maxRecDepth 100000
theorem shl16 (b : Nat) : Op.shift BinOp.shl .u32 (b : Int) .u64 16 = pure (.int .u32 ((b * 65536 % 4294967296 : Nat) : Int)) := by
 rw [shift_shl_any _ _ _ _ (by omega), IntKind.wrap_u32', show IntKind.u32.bits = 32 from rfl]
 congr 2
theorem mask16 (a : Nat) (h : a < 4294967296) : bits .and .u32 (a : Int) 65535 = ((a % 65536 : Nat) : Int) := by
 rw [show (65535 : Int) = ((65535 : Nat) : Int) from rfl, u32_and_nat _ _ h (by omega)]
 congr 1
 exact Nat.and_two_pow_sub_one_eq_mod a 16
theorem both16 (a b : Nat) : bits .or .u32 ((b * 65536 % 4294967296 : Nat) : Int) ((a % 65536 : Nat) : Int) = ((65536 * (b % 65536) + a % 65536 : Nat) : Int) := by
 rw [u32_or_nat _ _ (Nat.mod_lt _ (by omega)) (by omega)]
 congr 1
 have e : b * 65536 % 4294967296 = (b % 65536) <<< 16 := by rw [Nat.shiftLeft_eq]; omega
 rw [e, ← Nat.shiftLeft_add_eq_or_of_lt (by omega : a % 65536 < 2 ^ 16), Nat.shiftLeft_eq]
 omega
theorem rlchk_any (a b : Nat) (w : World) (ha : a < 4294967296) : Calls Tryz.prog 75 #[.int .u32 a, .int .u32 b] w fun e w' => e = .returned (.int .u32 ((65536 * (b % 65536) + a % 65536 : Nat) : Int)) ∧ Below w.heap.size w w' := by
 have HB := Lib.hid (Below.refl w.heap.size w)
 have h1 := shl16 b
 have h2 := mask16 a ha
 have h3 := both16 a b
 generalize ((65536 * (b % 65536) + a % 65536 : Nat) : Int) = r at *
 generalize ((b * 65536 % 4294967296 : Nat) : Int) = p at *
 generalize ((a % 65536 : Nat) : Int) = q at *
 clear ha
 go_enter Tryz.func75, Tryz.ntmps75
 go_wp2
 go_ret
 exact ⟨rfl, HB.out⟩
theorem take_sA {zs : List Int} {k : Nat} (h : k < zs.length) : sA (zs.take (k + 1)) = sA (zs.take k) + zs.getD k 0 := by
 rw [List.take_succ_eq_append_getElem h, sA_append, List.getD_eq_getElem?_getD, List.getElem?_eq_getElem h]
 simp [sA]
theorem take_sB {zs : List Int} {k : Nat} (h : k < zs.length) : sB (zs.take (k + 1)) = sB (zs.take k) + sA (zs.take (k + 1)) := by
 rw [take_sA h, List.take_succ_eq_append_getElem h, sB_append, List.getD_eq_getElem?_getD, List.getElem?_eq_getElem h]
 simp [sB]
 omega
theorem u32_nat (x : Int) : ∃ n : Nat, n < 4294967296 ∧ IntKind.u32.wrap x = (n : Int) ∧ (n : Int) = x % 4294967296 := ⟨(x % 4294967296).toNat, by omega, by rw [IntKind.wrap_u32']; omega, by omega⟩
set_option maxHeartbeats 4000000 in
theorem rlsum_any (s : ByteArray) (w : World) (hs : s.size ≤ 1000000) : Calls Tryz.prog 65 #[.string s] w fun e w' => e = .returned (.int .u32 (rlS (nums s))) ∧ Below w.heap.size w w' := by
 have HB := Lib.hid (Below.refl w.heap.size w)
 obtain ⟨n, hn⟩ : ∃ n, n = s.size := ⟨_, rfl⟩
 have HN := Lib.hid (show (nums s).length = n by rw [nums_len, hn])
 have hlen : s.size = n := hn.symm
 clear hn
 go_enter Tryz.func65, Tryz.ntmps65
 go_wp2
 go_loopw [3, 4, 8] (fun a b i wr => ∃ (k A B : Nat), k ≤ n ∧ i = .int .i64 k ∧ a = .int .u32 A ∧ b = .int .u32 B ∧ A < 4294967296 ∧ B < 4294967296 ∧ (A : Int) = (sA ((nums s).take k)) % 4294967296 ∧ (B : Int) = (sB ((nums s).take k)) % 4294967296 ∧ Below w.heap.size w wr) (fun _ _ i _ => n - (intOf i).toNat)
 case atStart => exact ⟨0, 0, 0, Nat.zero_le _, rfl, rfl, rfl, by omega, by omega, by simp [sA], by simp [sB], HB.out⟩
 case round =>
  obtain ⟨k, A, B, hk, rfl, rfl, rfl, hA0, hB0, hA, hB, hb⟩ := hrel
  have HBB := Lib.hid hb
  by_cases hlt : k < n
  ·have hkl : k < (nums s).length := by rw [HN.out]; exact hlt
   have t1 : (k : Int) < (n : Int) := by omega
   have hix := ix_strR s k hkl k rfl
   have dA := take_sA hkl
   have dB := take_sB hkl
   have hz := byte_at s k
   generalize (nums s).getD k 0 = z at *
   have f1 : IntKind.u32.wrap z = z := IntWalk.u32_in _ (by omega)
   obtain ⟨A', hA1, f2, hA2⟩ := u32_nat ((A : Int) + z)
   obtain ⟨B', hB1, f3, hB2⟩ := u32_nat ((B : Int) + (A' : Int))
   have HF : Hid ((A' : Int) = (sA ((nums s).take (k + 1))) % 4294967296 ∧ (B' : Int) = (sB ((nums s).take (k + 1))) % 4294967296) := Lib.hid ⟨by omega, by omega⟩
   clear hA hB dA dB hA2 hB2 hb hkl
   go_wp2
   go_roundw
   case rel => exact ⟨k + 1, A', B', by omega, by go_num, rfl, rfl, hA1, hB1, HF.out.1, HF.out.2, HBB.out⟩
   case measure => simp [intOf]; omega
  ·obtain rfl : k = n := by omega
   have t1 : ¬ (k : Int) < (k : Int) := by omega
   have hd : (nums s).take k = nums s := List.take_of_length_le (by rw [HN.out]; exact Nat.le_refl _)
   rw [hd] at hA hB
   have HV : Hid (rlS (nums s) = ((65536 * (B % 65536) + A % 65536 : Nat) : Int)) := Lib.hid (by unfold rlS; omega)
   have HC := Lib.hid (fun w => rlchk_any A B w hA0)
   generalize ((65536 * (B % 65536) + A % 65536 : Nat) : Int) = R at HV HC
   clear hA hB hd hb
   go_wp2_with fail
   refine (HC.out _).mono ?_
   rintro e w1 ⟨rfl, hb⟩
   have B1 := Lib.hid (HBB.out.trans (hb.mono HBB.out.size))
   clear hb
   go_wp2
   go_ret
   exact ⟨by rw [HV.out]; rfl, B1.out⟩
end
end
section
open Go.RowKit WM
set_option maxRecDepth 100000
def Sg.cs (x : Sg) : List Value := .int .u32 x.wk :: x.ds.map (Value.int .u8)
theorem Sg.cs_len {x : Sg} (h : x.Ok) : x.cs.length = 33 := by simp [Sg.cs, h.2.2.1]
theorem Sg.cs_one (x : Sg) (u : Value) (hu : u ∈ x.cs) : u.oneCell' = true := by
 rcases List.mem_cons.1 hu with rfl | hu
 ·rfl
 ·obtain ⟨z, _, rfl⟩ := List.mem_map.1 hu
  rfl
def KSig : Kind Sg := { n := 33, pos := by decide, cs := Sg.cs, d := sg0, ok := fun _ x => x.Ok, len := fun h => Sg.cs_len h, one := Sg.cs_one, below := fun h _ => h }
theorem sizeSig (w : World) : (sizeOf 102).run Tryz.prog w = .ok 33 w := by
 simp [sizeOf, go_sem]
 rfl
theorem infoSig : (Tryz.prog.info? 102).map (fun i => (i.zero, i.size, i.bytes)) = some (some (KSig.v ⟨0, List.replicate 32 0⟩), 33, 36) := by kernel_rfl
theorem zeroSig (w : World) : (zeroValue 102).run Tryz.prog w = .ok (KSig.v ⟨0, List.replicate 32 0⟩) w := by
 obtain ⟨i, hi, hz, hs, hb⟩ := info_parts infoSig
 simp [zeroValue, typeInfo, hi, hz, Sem.run_bind]
theorem sig_inj {x y : Sg} (h : KSig.v x = KSig.v y) : x = y := by
 have h1 := congrArg (fun v => v.cells.toList) h
 simp only [Kind.v, KSig, Sg.cs, Value.cells, List.cons.injEq, Value.int.injEq, true_and] at h1
 obtain ⟨h2, h3⟩ := h1
 have h4 : (x.ds.map (Value.int .u8)).map intOf = (y.ds.map (Value.int .u8)).map intOf := congrArg (List.map intOf) h3
 rw [List.map_map, List.map_map] at h4
 have h5 : x.ds = y.ds := by simpa [Function.comp_def, intOf] using h4
 cases x
 cases y
 simp_all
theorem mapM_givesS {α β : Type} {f : α → Option β} {g : α → β} : ∀ (l : List α), (∀ x ∈ l, f x = some (g x)) → l.mapM f = some (l.map g)
 | [], _ => rfl
 | x :: l, h => by
  rw [List.mapM_cons, h x (by simp), mapM_givesS l (fun y hy => h y (by simp [hy]))]
  rfl
theorem key_dig {z : List Int} (h : z.length = 32) (hb : AllBytes z) (d : Nat) : ∃ ls, Tryz.prog.keyLits (d + 2) 23 (z.map (Value.int .u8)) = some ls := by
 have c1 : Tryz.prog.cellsOf 5 = 1 := by kernel_rfl
 have c32 : Tryz.prog.cellsOf 23 = 32 := by kernel_rfl
 unfold Program.keyLits
 rw [Tryz.underlying23]
 dsimp only
 rw [if_pos (by rw [List.length_map, h, c32])]
 rw [mapM_givesS (g := fun i => [Lit.int .u8 (z.getD i 0)]) _ (fun i hi => ?_)]
 ·exact ⟨_, rfl⟩
 ·have hi : i < 32 := by simpa using hi
  have e : ((z.map (Value.int .u8)).drop (i * Tryz.prog.cellsOf 5)).take (Tryz.prog.cellsOf 5) = [.int .u8 (z.getD i 0)] := by
   rw [c1, Nat.mul_one]
   apply List.ext_getElem?
   intro j
   cases j with
   | zero => simp [List.getD, List.getElem?_eq_getElem (show i < z.length by omega)]
   | succ j => rw [List.getElem?_eq_none (by simp; omega), List.getElem?_eq_none (by simp)]
  rw [e]
  have hz := hb (z.getD i 0) (by rw [List.getD_eq_getElem?_getD, List.getElem?_eq_getElem (show i < z.length by omega)]; exact List.getElem_mem _)
  unfold Program.keyLits
  rw [Tryz.underlying5]
  dsimp only
  rw [if_pos]
  refine ⟨rfl, ?_⟩
  generalize z.getD i 0 = q at *
  simp [Lit.wf, IntKind.min, IntKind.max, IntKind.bits, IntKind.signed]
  omega
theorem key_sig {x : Sg} (h : x.Ok) : ∃ l, keyOf Tryz.prog 102 (KSig.v x) = some l := by
 have c33 : Tryz.prog.cellsOf 102 = 33 := by kernel_rfl
 have c32 : Tryz.prog.cellsOf 23 = 32 := by kernel_rfl
 have c1 : Tryz.prog.cellsOf 82 = 1 := by kernel_rfl
 have kt : Tryz.prog.keyType 102 = true := by kernel_rfl
 have hs : ∃ d, Tryz.prog.types.size + 1 = d + 3 := ⟨Tryz.prog.types.size - 2, by have : 2 ≤ Tryz.prog.types.size := of_decide_eq_true (by kernel_rfl); omega⟩
 obtain ⟨d, hd⟩ := hs
 obtain ⟨ls, hls⟩ := key_dig h.2.2.1 h.2.2.2 d
 have hw : (Lit.int .u32 x.wk).wf = true := by
  have := h.1
  have := h.2.1
  simp [Lit.wf, IntKind.min, IntKind.max, IntKind.bits, IntKind.signed]
  omega
 have h1 : Tryz.prog.keyLits (d + 2) 82 [.int .u32 x.wk] = some [Lit.int .u32 x.wk] := by
  unfold Program.keyLits
  rw [Tryz.underlying82]
  dsimp only
  rw [if_pos ⟨rfl, hw⟩]
 have hk : ∃ l, Tryz.prog.keyLits (d + 3) 102 x.cs = some l := by
  unfold Program.keyLits
  rw [Tryz.underlying102]
  dsimp only
  rw [if_pos ⟨by rw [Sg.cs_len h, c33], by kernel_rfl⟩]
  simp only [List.mapM_cons, List.mapM_nil, c32, c1, Sg.cs]
  rw [show List.take 1 (List.drop 0 (Value.int .u32 x.wk :: x.ds.map (Value.int .u8))) = [Value.int .u32 x.wk] from rfl, h1]
  rw [show List.take 32 (List.drop 1 (Value.int .u32 x.wk :: x.ds.map (Value.int .u8))) = x.ds.map (Value.int .u8) from List.take_of_length_le (by simp [h.2.2.1]), hls]
  exact ⟨_, rfl⟩
 obtain ⟨l, hl⟩ := hk
 refine ⟨.string (keyBytes l), ?_⟩
 unfold keyOf
 rw [Tryz.underlying102]
 dsimp only
 rw [if_pos (by rw [kt]; simp [Value.formed, Kind.v, KSig, Tryz.underlying102, Sg.cs_len h, c33]), hd]
 show ((Tryz.prog.keyLits (d + 3) 102 x.cs).map fun ls => Lit.string (keyBytes ls)) = _
 rw [hl]
 rfl
theorem sgLaw : WideMaps.KeyLaw Tryz.prog 102 := deep_law (m := 3) (by decide) (by kernel_rfl) (by kernel_rfl) (by rw [Tryz.underlying102])
theorem eq_sig {x y : Sg} (hx : x.Ok) (hy : y.Ok) (w : World) : (Op.equalIn 10000 102 (KSig.v x) (KSig.v y)).run Tryz.prog w = .ok (decide (x = y)) w := by
 obtain ⟨k, hk⟩ := key_sig hx
 obtain ⟨l, hl⟩ := key_sig hy
 obtain ⟨r, h1, h2⟩ := run_equal_deep w (m := 3) (by decide) (k := 102) (by kernel_rfl) (by rw [Tryz.underlying102]) hk hl
 have h3 : r = decide (x = y) := by
  rw [Bool.eq_iff_iff, h2, decide_eq_true_iff]
  constructor
  ·rintro rfl
   exact sig_inj (sgLaw.inj hk hl)
  ·rintro rfl
   rw [hk] at hl
   exact Option.some.inj hl
 rw [← h3]
 exact h1
theorem list32 {z : List Int} (h : z.length = 32) : ∃ a0 a1 a2 a3 a4 a5 a6 a7 a8 a9 a10 a11 a12 a13 a14 a15 a16 a17 a18 a19 a20 a21 a22 a23 a24 a25 a26 a27 a28 a29 a30 a31, z = [a0, a1, a2, a3, a4, a5, a6, a7, a8, a9, a10, a11, a12, a13, a14, a15, a16, a17, a18, a19, a20, a21, a22, a23, a24, a25, a26, a27, a28, a29, a30, a31] := by
 match z, h with
 | [a0, a1, a2, a3, a4, a5, a6, a7, a8, a9, a10, a11, a12, a13, a14, a15, a16, a17, a18, a19, a20, a21, a22, a23, a24, a25, a26, a27, a28, a29, a30, a31], _ => exact ⟨a0, a1, a2, a3, a4, a5, a6, a7, a8, a9, a10, a11, a12, a13, a14, a15, a16, a17, a18, a19, a20, a21, a22, a23, a24, a25, a26, a27, a28, a29, a30, a31, rfl⟩
theorem built_list {z : List Int} (h : z.length = 32) (n : Int) : Tryz.prog.built 102 [(0, .int .u32 n), (1, .agg (bvals z))] = some (KSig.cs ⟨n, z⟩).toArray := by
 obtain ⟨a0, a1, a2, a3, a4, a5, a6, a7, a8, a9, a10, a11, a12, a13, a14, a15, a16, a17, a18, a19, a20, a21, a22, a23, a24, a25, a26, a27, a28, a29, a30, a31, rfl⟩ := list32 h
 kernel_rfl
theorem build_sig {x : Sg} (h : x.ds.length = 32) (w : World) : (Instr.build 102 #[(0, .int .u32 x.wk), (1, .agg (bvals x.ds))]).run Tryz.prog w = .ok (KSig.v x) w := run_build w _ _ _ (built_list h x.wk)
theorem sizeSigK (w : World) : (sizeOf 102).run Tryz.prog w = .ok KSig.n w := sizeSig w
theorem nSig : KSig.n ≤ 1000 := by decide
def sgz : Sg := ⟨0, List.replicate 32 0⟩
theorem sgz_ok : sgz.Ok := by unfold sgz Sg.Ok AllBytes; decide
theorem sig_size {x : Sg} (h : x.Ok) : (Tryz.prog.info? 102).map (·.size) = some (KSig.cs x).toArray.size := by
 obtain ⟨i, hi, _, hs, _⟩ := info_parts infoSig
 rw [hi, List.size_toArray, show (KSig.cs x).length = 33 from Sg.cs_len h, ← hs]
 rfl
theorem sig_same {x y : Sg} (hx : x.Ok) (hy : y.Ok) : (KSig.cs x).toArray.size = (KSig.cs y).toArray.size := by
 rw [List.size_toArray, List.size_toArray, show (KSig.cs x).length = 33 from Sg.cs_len hx, show (KSig.cs y).length = 33 from Sg.cs_len hy]
theorem sig_ones (x : Sg) : (KSig.cs x).toArray.all (·.oneCell') = true := by
 rw [Array.all_eq_true_iff_forall_mem]
 intro u hu
 exact KSig.one x u (by simpa using hu)
theorem load_sig {w : World} {b o : Nat} {x : Sg} (h : KSig.at w b o x) (hx : x.Ok) : (loadVar 102 ⟨b, o, none⟩).run Tryz.prog w = .ok (KSig.v x) w :=
 Kind.at_load h (Sg.cs_len hx) Tryz.underlying102 rfl (by obtain ⟨i, hi, _, hs, _⟩ := info_parts infoSig; rw [hi]; exact congrArg some hs)
theorem sig_row {w : World} {A : Option Addr} {c : Nat} {xs : List Sg} (h : KSig.row w A c xs) (h0 : 0 < xs.length) : ∃ b off, A = some ⟨b, off, none⟩ ∧ b < w.heap.size ∧ (∀ i, i < xs.length → KSig.at w b (off + i * 33) (xs.getD i sg0)) ∧ ∀ (i : Nat), i < xs.length → ∀ (I : Int), I = i → ∀ (X : World), (Instr.indexAt 44 (.slice (some ⟨b, off, none⟩) xs.length c) (.int .i64 I)).run Tryz.prog X = .ok (.pointer (some ⟨b, off + i * 33, none⟩)) X := by
 obtain ⟨b, off, hA, hb, hc⟩ := h.2.2.2.1 h0
 exact ⟨b, off, hA, hb, hc, fun i hi I e X => Kind.ix (K := KSig) (P := Tryz.prog) (ts := 44) Tryz.underlying44 (fun w => sizeSig w) hi I e X⟩
theorem load_sigK {w w9 : World} {b o : Nat} {x : Sg} (h : KSig.at w b o x) (hx : x.Ok) (hb : Below w.heap.size w w9) (hlt : b < w.heap.size) : (loadVar 102 ⟨b, o, none⟩).run Tryz.prog w9 = .ok (KSig.v x) w9 :=
 load_sig (Kind.at_same h (hb.block b hlt)) hx
theorem guardSig : Tryz.prog.eqGuardType Tryz.prog.depth 102 = false := by kernel_rfl
theorem byte_ones (x : List Int) (u : Value) (hu : u ∈ x.map (Value.int .u8)) : u.oneCell' = true := by
 obtain ⟨z, _, rfl⟩ := List.mem_map.1 hu
 rfl
def KDig : Kind (List Int) := { n := 32, pos := by decide, cs := fun z => z.map (Value.int .u8), d := [], ok := fun _ z => z.length = 32 ∧ AllBytes z, len := fun h => (List.length_map _).trans h.1, one := byte_ones, below := fun h _ => h }
theorem load_dig {w : World} {b o : Nat} {z : List Int} (h : KDig.at w b o z) (hz : z.length = 32) : (loadVar 23 ⟨b, o, none⟩).run Tryz.prog w = .ok (.agg (bvals z)) w :=
 Kind.at_load (K := KDig) h (by show (z.map (Value.int .u8)).length = 32; rw [List.length_map, hz]) Tryz.underlying23 rfl (by rw [sizeD]; rfl)
theorem guardDig : Tryz.prog.eqGuardType Tryz.prog.depth 23 = false := by kernel_rfl
end
end Go.Proofs.YtkjimhlpbgeagaaGreatDoor
