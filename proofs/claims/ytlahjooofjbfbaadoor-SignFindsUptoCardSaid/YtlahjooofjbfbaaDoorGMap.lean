import Derived.Test.YtlahjooofjbfbaaDoorGBase
import Derived.Maps.OwnSet
import Derived.Maps.Views
import Derived.DeepKeys4
/-
  A map that a call has made, by keys of one kind, whatever the kind (arrays, structs): what it holds, what a look-up gives, what a store leaves.
-/
namespace Go.Proofs.YtlahjooofjbfbaaDoor
open Go.RowKit WM
set_option linter.unusedVariables false
set_option maxRecDepth 20000
theorem run_makeMap_hint {P : Program} {t a b : TypeId} (hu : P.underlying t = some (.map a b)) (q : IntKind) (n : Int) (w : World) : (Instr.makeMap t (some (.int q n))).run P w = .ok (.map (some w.heap.size)) (w.alloc (.map #[] 0)) := by
  simp [Instr.makeMap, run_underlying hu, asInt, asIntOf, Result.andThen]
/-- Values, as data: each one held as it is. -/
def heldV (v : Value) : Option (DataW Value × List MemPlace) := some (.held v, [])
/-- One kind of key. -/
structure MKey (P : Program) (α : Type) where
  t : TypeId
  v : α → Value
  ok : α → Prop
  key : ∀ {x : α}, ok x → ∃ l, keyOf P t (v x) = some l
  inj : ∀ {x y : α}, v x = v y → x = y
  law : WideMaps.KeyLaw P t
section
variable {P : Program} {α : Type} {K : MKey P α} {w w' : World} {b n : Nat} {f : α → Option Value} {z : Value}
theorem MKey.keyed (K : MKey P α) : Maps.Keyed P K.t := Maps.Keyed.of_law K.law
theorem MKey.ne {x y : α} {k l : Lit} (hx : keyOf P K.t (K.v x) = some k) (hy : keyOf P K.t (K.v y) = some l) (h : x ≠ y) : k ≠ l := by
  rintro rfl
  exact h (K.inj (K.law.inj hx hy))
/-- Block b is a map of at most n entries that holds f; z: what there is where nothing is. -/
def GMs (K : MKey P α) (w : World) (b n : Nat) (f : α → Option Value) (z : Value) : Prop :=
  ∃ D : DataW Value, w.ownsMap P K.t heldV b n D ∧ ∀ x l, keyOf P K.t (K.v x) = some l → Maps.has D l = (f x).isSome ∧ D.atKey l (.held z) = .held ((f x).getD z)
theorem GMs.lt (h : GMs K w b n f z) : b < w.heap.size := by obtain ⟨D, h, _⟩ := h; exact h.lt
theorem GMs.same (h : GMs K w b n f z) (hb : w'.heap[b]? = w.heap[b]?) : GMs K w' b n f z := by
  obtain ⟨D, ⟨es, clock, hh, r⟩, h2⟩ := h
  exact ⟨D, ⟨es, clock, hb.trans hh, r⟩, h2⟩
theorem GMs.more {m : Nat} (h : GMs K w b n f z) (hm : n ≤ m) : GMs K w b m f z := by
  obtain ⟨D, ⟨es, clock, hh, F, hs, r⟩, h2⟩ := h
  exact ⟨D, ⟨es, clock, hh, F, Nat.le_trans hs hm, r⟩, h2⟩
theorem GMs.below {B : Nat} (h : GMs K w b n f z) (hb : Below B w w') (hB : b < B) : GMs K w' b n f z := h.same (hb.block b hB)
theorem GMs.made (K : MKey P α) (w : World) (z : Value) : GMs K (w.alloc (.map #[] 0)) w.heap.size 0 (fun _ => none) z :=
  ⟨.map [], World.ownsMap_made w _ _ _, fun x l _ => ⟨rfl, Maps.atKey_of_not_has rfl _⟩⟩
theorem GMs.look (h : GMs K w b n f z) {t e : TypeId} (ht : P.underlying t = some (.map K.t e)) (hz : ∀ w, (zeroValue e).run P w = .ok z w) {x : α} (hx : K.ok x) :
    (Instr.lookup t (.map (some b)) (K.v x) true).run P w = .ok (.tuple #[(f x).getD z, .bool (f x).isSome]) w := by
  obtain ⟨D, h1, h2⟩ := h
  obtain ⟨l, hl⟩ := K.key hx
  obtain ⟨v, ps, hr, hv⟩ := h1.look_ok K.keyed ht (hz w) (zd := .held z) (zp := []) rfl hl
  rw [(h2 x l hl).2] at hv
  simp only [heldV, Option.some.injEq, Prod.mk.injEq, DataW.held.injEq] at hv
  rw [hr, (h2 x l hl).1, hv.1]
def fput [DecidableEq α] (f : α → Option Value) (x : α) (v : Value) : α → Option Value := fun y => if y = x then some v else f y
theorem GMs.store [DecidableEq α] (h : GMs K w b n f z) (hn : n < 1000000000) {t e : TypeId} (ht : P.underlying t = some (.map K.t e)) {x : α} (hx : K.ok x) (v : Value) :
    ∃ w', (Instr.mapUpdate t (.map (some b)) (K.v x) v).run P w = .ok () w' ∧ GMs K w' b (n + 1) (fput f x v) z ∧ w.grownBy w' (some b) := by
  obtain ⟨D, h1, h2⟩ := h
  obtain ⟨l, hl⟩ := K.key hx
  obtain ⟨w', hr, ho, hg⟩ := h1.update K.keyed ht (by simp only [maxLen]; omega) hl (d := .held v) (ps := []) rfl
  have hkl := K.keyed.key hl
  refine ⟨w', hr, ⟨_, ho, fun y m hm => ?_⟩, hg⟩
  unfold fput
  by_cases hy : y = x
  · subst hy
    rw [hl] at hm
    obtain rfl := Option.some.inj hm
    rw [if_pos rfl]
    exact ⟨Maps.has_put_same h1.isMap hkl _, Maps.atKey_put_same h1.isMap hkl _ _⟩
  · rw [if_neg hy]
    have hne : m ≠ l := MKey.ne hm hl hy
    rw [Maps.has_put_other hne, Maps.atKey_put_other hne]
    exact h2 y m hm
theorem wpList_mapUpdate_G [DecidableEq α] {ops : Array Oper} {rest : List Oper} {o : Oper} {a : Act} {Q : Exit → Act → World → Prop} (hgd : o.guard = none) (t : TypeId) (m x v : Operand) (hop : o.op = Op.mapUpdate t m x v)
    {e : TypeId} (ht : P.underlying t = some (.map K.t e)) (k : α) (u : Value) (hm : a.eval m = .map (some b)) (hx : a.eval x = K.v k) (hv : a.eval v = u) (h : GMs K w b n f z) (hn : n < 1000000000) (hk : K.ok k)
    (hK : ∀ w', GMs K w' b (n + 1) (fput f k u) z → w.grownBy w' (some b) → wpList P ops Q rest (a.put o.dst undef) w') : wpList P ops Q (o :: rest) a w := by
  refine wpList_plain hgd fun K' hK' => ?_
  obtain ⟨w', hrun, r1, r2⟩ := h.store hn ht hk u
  unfold Oper.wp
  simp [execOp, hop, hm, hx, hv, hrun, Result.andThen]
  exact hK' _ _ (hK w' r1 r2)
theorem GMs.len (h : GMs K w b n f z) {t e : TypeId} (ht : P.underlying t = some (.map K.t e)) (ty : TypeId) : ∃ m, (Builtin.len_ #[t] ty #[.map (some b)]).run P w = .ok (.int .i64 m) w := by
  obtain ⟨D, h1, h2⟩ := h
  exact ⟨_, h1.len ht ty⟩
end
end Go.Proofs.YtlahjooofjbfbaaDoor

