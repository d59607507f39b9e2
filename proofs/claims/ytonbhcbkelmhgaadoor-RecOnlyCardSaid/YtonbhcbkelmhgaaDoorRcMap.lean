/-
  A map of cells by numbers, that the call has made: what it holds, what a look-up gives, what a store leaves.
-/
import Derived.Test.YtonbhcbkelmhgaaDoorRcBase
import Derived.Maps.OwnSet
import Derived.Maps.Views
namespace Go.Proofs.YtonbhcbkelmhgaaDoor
open Go.RowKit WM
set_option linter.unusedVariables false
theorem cel_inj {a b : Cel} (h : a.v = b.v) : a = b := by
  obtain ⟨n, r, s⟩ := a
  obtain ⟨m, q, t⟩ := b
  simp only [Cel.v, Value.agg.injEq] at h
  cases h
  rfl
/-- A cell, as a datum. -/
def celD (c : Cel) : DataW Unit := .agg [.lit (.int .i64 c.n), .lit (.int .i64 c.r), .lit (.string c.s.data.toList)]
theorem celD_inj {a b : Cel} (h : celD a = celD b) : a = b := by
  obtain ⟨n, r, ⟨s⟩⟩ := a
  obtain ⟨m, q, ⟨t⟩⟩ := b
  simp only [celD, DataW.agg.injEq, List.cons.injEq, DataW.lit.injEq, Lit.int.injEq, Lit.string.injEq, true_and, and_true, Array.toList_inj] at h
  obtain ⟨rfl, rfl, rfl⟩ := h
  rfl
open Classical in
noncomputable def celR (v : Value) : Option (DataW Unit × List MemPlace) := if h : ∃ c : Cel, v = c.v then some (celD h.choose, []) else none
theorem celR_mk (c : Cel) : celR c.v = some (celD c, []) := by
  have h : ∃ d : Cel, c.v = d.v := ⟨c, rfl⟩
  rw [celR, dif_pos h, ← cel_inj h.choose_spec]
theorem celR_inv {v : Value} {c : Cel} {ps : List MemPlace} (h : celR v = some (celD c, ps)) : v = c.v := by
  unfold celR at h
  split at h
  · rename_i hh
    simp only [Option.some.injEq, Prod.mk.injEq] at h
    rw [hh.choose_spec, celD_inj h.1]
  · cases h
/-- Block b is a map that holds f, of at most n entries. -/
def MIs (w : World) (b n : Nat) (f : Int → Option Cel) : Prop :=
  ∃ D : DataW Unit, w.ownsMap Tryd.prog 3 celR b n D ∧ ∀ k : Int, Maps.has D (.int .i64 k) = (f k).isSome ∧ D.atKey (.int .i64 k) (celD cel00) = celD ((f k).getD cel00)
theorem keyI : Maps.Keyed Tryd.prog 3 := Maps.int_keyed Tryd.underlying3
theorem zeroCel (w : World) : (zeroValue 25).run Tryd.prog w = .ok cel00.v w := (zero_of_info (show (Tryd.prog.info? 25).map (fun i => (i.zero, i.size)) = some (some cel00.v, 3) by kernel_rfl)).1 w
theorem MIs.lt {w : World} {b n : Nat} {f : Int → Option Cel} (h : MIs w b n f) : b < w.heap.size := by obtain ⟨D, h, _⟩ := h; exact h.lt
theorem MIs.same {w w' : World} {b n : Nat} {f : Int → Option Cel} (h : MIs w b n f) (hb : w'.heap[b]? = w.heap[b]?) : MIs w' b n f := by
  obtain ⟨D, ⟨es, clock, hh, r⟩, h2⟩ := h
  exact ⟨D, ⟨es, clock, hb.trans hh, r⟩, h2⟩
theorem MIs.below {w w' : World} {b n B : Nat} {f : Int → Option Cel} (h : MIs w b n f) (hb : Below B w w') (hB : b < B) : MIs w' b n f := h.same (hb.block b hB)
theorem MIs.made (w : World) : MIs (w.alloc (.map #[] 0)) w.heap.size 0 (fun _ => none) :=
  ⟨.map [], World.ownsMap_made w _ _ _, fun k => ⟨rfl, Maps.atKey_of_not_has rfl _⟩⟩
theorem wf_i64 {k : Int} (h0 : -9223372036854775808 ≤ k) (h1 : k ≤ 9223372036854775807) : (Lit.int .i64 k).wf = true := by
  simp [Lit.wf, IntKind.min, IntKind.max, IntKind.bits, IntKind.signed]
  omega
theorem MIs.look {w : World} {b n : Nat} {f : Int → Option Cel} (h : MIs w b n f) {k : Int} (hk : (Lit.int .i64 k).wf = true) :
    (Instr.lookup 75 (.map (some b)) (.int .i64 k) true).run Tryd.prog w = .ok (.tuple #[((f k).getD cel00).v, .bool (f k).isSome]) w := by
  obtain ⟨D, h1, h2⟩ := h
  obtain ⟨v, ps, hr, hv⟩ := h1.look_ok keyI Tryd.underlying75 (zeroCel w) (celR_mk cel00) (Maps.keyOf_int_mk Tryd.underlying3 hk)
  rw [(h2 k).2] at hv
  rw [hr, (h2 k).1, celR_inv hv]
theorem MIs.store {w : World} {b n : Nat} {f : Int → Option Cel} (h : MIs w b n f) (hn : n < 1000) {k : Int} (hk : (Lit.int .i64 k).wf = true) (c : Cel) :
    ∃ w', (Instr.mapUpdate 75 (.map (some b)) (.int .i64 k) c.v).run Tryd.prog w = .ok () w' ∧ MIs w' b (n + 1) (fun j => if j = k then some c else f j) ∧ w.grownBy w' (some b) := by
  obtain ⟨D, h1, h2⟩ := h
  obtain ⟨w', hr, ho, hg⟩ := h1.update keyI Tryd.underlying75 (by simp only [maxLen]; omega) (Maps.keyOf_int_mk Tryd.underlying3 hk) (celR_mk c)
  refine ⟨w', hr, ⟨_, ho, fun j => ?_⟩, hg⟩
  dsimp only
  by_cases hj : j = k
  · subst hj
    rw [if_pos rfl]
    exact ⟨Maps.has_put_same h1.isMap (by simp [WideAt.IsKeyLit]) _, Maps.atKey_put_same h1.isMap (by simp [WideAt.IsKeyLit]) _ _⟩
  · rw [if_neg hj]
    have hne : (Lit.int .i64 j) ≠ (.int .i64 k) := fun e => hj (by simpa using e)
    rw [Maps.has_put_other hne, Maps.atKey_put_other hne]
    exact h2 j
/-- A store into such a map, for the walk. -/
theorem wpList_mapUpdate_cel {w : World} {ops : Array Oper} {rest : List Oper} {o : Oper} {a : Act} {Q : Exit → Act → World → Prop} (hgd : o.guard = none) (m x v : Operand) (hop : o.op = Op.mapUpdate 75 m x v)
    (b n : Nat) (f : Int → Option Cel) (k : Int) (c : Cel) (hm : a.eval m = .map (some b)) (hx : a.eval x = .int .i64 k) (hv : a.eval v = c.v) (h : MIs w b n f) (hn : n < 1000) (hk : (Lit.int .i64 k).wf = true)
    (hK : ∀ w', MIs w' b (n + 1) (fun j => if j = k then some c else f j) → w.grownBy w' (some b) → wpList Tryd.prog ops Q rest (a.put o.dst undef) w') : wpList Tryd.prog ops Q (o :: rest) a w := by
  refine wpList_plain hgd fun K' hK' => ?_
  obtain ⟨w', hrun, r1, r2⟩ := h.store hn hk c
  unfold Oper.wp
  simp [execOp, hop, hm, hx, hv, hrun, Result.andThen]
  exact hK' _ _ (hK w' r1 r2)
end Go.Proofs.YtonbhcbkelmhgaaDoor
