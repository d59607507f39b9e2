import Derived.Test.YtkjimhlpbgeagaaGreatDoorF0
import Derived.Test.YtkjimhlpbgeagaaGreatDoorF1
/-
  What the functions that a law of this layer reaches answer, part 6. Nothing that was there is written.
-/
namespace Go.Proofs.YtkjimhlpbgeagaaGreatDoor
set_option linter.unusedVariables false
set_option linter.unusedSimpArgs false
section
section
open Go.RowKit WM
section
variable {P : Program} {ops : Array Oper} {Q : Exit → Act → World → Prop} {md : Region.Mode} {S : World → Prop}
def Uni (P : Program) (S : World → Prop) (x : Sem Next) (v : Value) : Prop :=
 ∀ w, S w → x.run P w = .ok (.value v) w ∨ ∃ f args, x.run P w = .ok (.enter f args) w ∧ Calls P f args w fun e w' => e = .returned v ∧ S w'
def UniIf (P : Program) (ops : Array Oper) (S : World → Prop) (o : Oper) (v : Value) (a : Act) : Prop :=
 (Region.wanted o (yielded ops a.tmps) = true ∧ Uni P S (execOp a.eval o) v) ∨ (Region.wanted o (yielded ops a.tmps) = false ∧ v = undef)
def wpU (P : Program) (md : Region.Mode) (ops : Array Oper) (Q : Exit → Act → World → Prop) (S : World → Prop) : Nat → Array Bool → Act → Prop
 | 0, listed, a => Region.ready md ops listed = [] ∧ ∀ w, S w → Q .normal a w
 | fuel + 1, listed, a =>
  (Region.ready md ops listed = [] → ∀ w, S w → Q .normal a w) ∧
  ∀ i ∈ Region.ready md ops listed, ∃ o v, ops[i]? = some o ∧ UniIf P ops S o v a ∧ wpU P md ops Q S fuel (listed.setIfInBounds i true) (a.put o.dst v)
theorem wpU_done {listed : Array Bool} {a : Act} (hr : Region.ready md ops listed = []) (h : ∀ w, S w → Q .normal a w) : ∀ fuel, wpU P md ops Q S fuel listed a
 | 0 => ⟨hr, h⟩
 | _ + 1 => ⟨fun _ => h, by rw [hr]; simp⟩
end
end
section
open Go.RowKit WM
abbrev Blks := List (Nat × Array Value × TypeId)
def HasBlks (L : Blks) (w : World) : Prop := ∀ x ∈ L, w.heap[x.1]? = some (.cells x.2.1 x.2.2)
theorem HasBlks.lt {L : Blks} {w : World} (h : HasBlks L w) {x : Nat × Array Value × TypeId} (hx : x ∈ L) : x.1 < w.heap.size := by
 rcases Nat.lt_or_ge x.1 w.heap.size with h1 | h1
 ·exact h1
 ·have := h x hx; rw [Array.getElem?_eq_none h1] at this; cases this
theorem HasBlks.below {L : Blks} {w w' : World} (h : HasBlks L w) (hb : Below w.heap.size w w') : HasBlks L w' := fun x hx => by
 rw [hb.block _ (h.lt hx)]; exact h x hx
section
variable {P : Program} {ops : Array Oper} {Q : Exit → Act → World → Prop} {md : Region.Mode} {W0 : World}
def UniB (P : Program) (W0 : World) (x : Sem Next) (v : Value) : Prop :=
 ∀ w, Below W0.heap.size W0 w → x.run P w = .ok (.value v) w ∨ ∃ f args, x.run P w = .ok (.enter f args) w ∧ Calls P f args w fun e w' => e = .returned v ∧ Below w.heap.size w w'
def UniBIf (P : Program) (ops : Array Oper) (W0 : World) (o : Oper) (v : Value) (a : Act) : Prop :=
 (Region.wanted o (yielded ops a.tmps) = true ∧ UniB P W0 (execOp a.eval o) v) ∨ (Region.wanted o (yielded ops a.tmps) = false ∧ v = undef)
def AllocOp (P : Program) (ops : Array Oper) (W0 : World) (o : Oper) (z : Array Value) (t : TypeId) (a : Act) : Prop :=
 Region.wanted o (yielded ops a.tmps) = true ∧ ∀ w, Below W0.heap.size W0 w → (execOp a.eval o).run P w = .ok (.value (.pointer (some ⟨w.heap.size, 0, none⟩))) (w.alloc (.cells z t))
def StoreOp (P : Program) (ops : Array Oper) (W0 : World) (L L' : Blks) (o : Oper) (v : Value) (a : Act) : Prop :=
 Region.wanted o (yielded ops a.tmps) = true ∧ ∀ w, Below W0.heap.size W0 w → HasBlks L w → ∃ w', ((execOp a.eval o).run P w = .ok (.value v) w' ∨ ((execOp a.eval o).run P w = .ok .skip w' ∧ v = undef)) ∧ Below W0.heap.size W0 w' ∧ HasBlks L' w'
def Same (P : Program) (ops : Array Oper) (o : Oper) (a a' : Act) : Prop := execOp a'.eval o = execOp a.eval o ∧ Region.wanted o (yielded ops a'.tmps) = Region.wanted o (yielded ops a.tmps)
theorem UniBIf.of_same {o : Oper} {v : Value} {a a' : Act} (hy : UniBIf P ops W0 o v a) (h : Same P ops o a a') : UniBIf P ops W0 o v a' := by
 unfold UniBIf at *; rw [h.1, h.2]; exact hy
theorem AllocOp.of_same {o : Oper} {z : Array Value} {t : TypeId} {a a' : Act} (hy : AllocOp P ops W0 o z t a) (h : Same P ops o a a') : AllocOp P ops W0 o z t a' := by
 unfold AllocOp at *; rw [h.1, h.2]; exact hy
theorem StoreOp.of_same {o : Oper} {L L' : Blks} {v : Value} {a a' : Act} (hy : StoreOp P ops W0 L L' o v a) (h : Same P ops o a a') : StoreOp P ops W0 L L' o v a' := by
 unfold StoreOp at *; rw [h.1, h.2]; exact hy
def wpG (P : Program) (md : Region.Mode) (ops : Array Oper) (Q : Exit → Act → World → Prop) (W0 : World) : Nat → Blks → Array Bool → Act → Prop
 | 0, L, listed, a => Region.ready md ops listed = [] ∧ ∀ w, Below W0.heap.size W0 w → HasBlks L w → Q .normal a w
 | fuel + 1, L, listed, a =>
  (Region.ready md ops listed = [] → ∀ w, Below W0.heap.size W0 w → HasBlks L w → Q .normal a w) ∧
  ∀ i ∈ Region.ready md ops listed, ∃ o, ops[i]? = some o ∧
   ((∃ v, UniBIf P ops W0 o v a ∧ wpG P md ops Q W0 fuel L (listed.setIfInBounds i true) (a.put o.dst v)) ∨
    (∃ z t, AllocOp P ops W0 o z t a ∧ ∀ g, W0.heap.size ≤ g → (∀ x ∈ L, x.1 ≠ g) → wpG P md ops Q W0 fuel ((g, z, t) :: L) (listed.setIfInBounds i true) (a.put o.dst (.pointer (some ⟨g, 0, none⟩)))) ∨
    (∃ L' v, StoreOp P ops W0 L L' o v a ∧ wpG P md ops Q W0 fuel L' (listed.setIfInBounds i true) (a.put o.dst v)))
theorem wpAny_of_G : ∀ (fuel : Nat) (L : Blks) (listed : Array Bool) (a : Act), wpG P md ops Q W0 fuel L listed a → ∀ w, Below W0.heap.size W0 w → HasBlks L w → wpAny P md ops Q fuel listed a w
 | 0, _, _, _, h, w, hS, hL => ⟨h.1, h.2 w hS hL⟩
 | fuel + 1, L, _, a, h, w, hS, hL => ⟨fun h0 => h.1 h0 w hS hL, fun i hi => by
   obtain ⟨o, ho, h1⟩ := h.2 i hi
   unfold Go.wpOp
   simp only [ho]
   rcases h1 with ⟨v, hu, hr⟩ | ⟨z, t, hu, hr⟩ | ⟨L', v, hu, hr⟩
   ·rcases hu with ⟨hw, hv⟩ | ⟨hw, rfl⟩
    ·simp only [hw, if_true, Oper.wp]
     refine .inl ?_
     rcases hv w hS with h1 | ⟨f, args, h1, h2⟩
     ·rw [h1]; exact wpAny_of_G fuel L _ _ hr w hS hL
     ·rw [h1, Oper.upon_enter]
      refine h2.mono ?_
      rintro e w' ⟨rfl, hb⟩
      exact wpAny_of_G fuel L _ _ hr w' (hS.trans (hb.mono hS.size)) (hL.below hb)
    ·simp only [hw, Bool.false_eq_true, if_false]; exact wpAny_of_G fuel L _ _ hr w hS hL
   ·simp only [hu.1, if_true, Oper.wp]
    refine .inl ?_
    rw [hu.2 w hS]
    have hb := (Below.refl w.heap.size w).alloc (Nat.le_refl _) (.cells z t)
    refine wpAny_of_G fuel _ _ _ (hr w.heap.size hS.size (fun x hx => Nat.ne_of_lt (hL.lt hx))) _ (hS.trans (hb.mono hS.size)) ?_
    intro x hx
    rcases List.mem_cons.1 hx with rfl | hx
    ·exact heap_alloc_new w _
    ·exact hL.below hb x hx
   ·simp only [hu.1, if_true, Oper.wp]
    refine .inl ?_
    obtain ⟨w', h1, h2, h3⟩ := hu.2 w hS hL
    rcases h1 with h1 | ⟨h1, rfl⟩
    ·rw [h1]; exact wpAny_of_G fuel L' _ _ hr w' h2 h3
    ·rw [h1]; exact wpAny_of_G fuel L' _ _ hr w' h2 h3⟩
theorem wpG_first {i : Nat} {oi : Oper} {v : Value} (hi : ops[i]? = some oi) (hsel : ∀ (j : Nat) (o : Oper) cs b, ops[j]? = some o → o.op ≠ .select cs b) :
  ∀ (fuel : Nat) (L : Blks) (listed : Array Bool) (a : Act),
   (∀ j oj, ops[j]? = some oj → j ≠ i → listed.getD j true = false → (∀ e ∈ oj.after, Region.binds md e = true → e.on ≠ i) → oi.apart ops oj = true) →
   i ∈ Region.ready md ops listed → UniBIf P ops W0 oi v a →
   wpG P md ops Q W0 fuel L (listed.setIfInBounds i true) (a.put oi.dst v) → wpG P md ops Q W0 (fuel + 1) L listed a := by
 intro fuel
 induction fuel with
 | zero =>
  intro L listed a _ hr hy H
  refine ⟨fun h => (by rw [h] at hr; cases hr), fun j hj => ?_⟩
  by_cases hji : j = i
  ·subst hji; exact ⟨oi, hi, .inl ⟨v, hy, H⟩⟩
  ·have := ready_mono hj hji
   rw [H.1] at this
   cases this
 | succ fuel ih =>
  intro L listed a hfree hr hy H
  refine ⟨fun h => (by rw [h] at hr; cases hr), fun j hj => ?_⟩
  by_cases hji : j = i
  ·subst hji; exact ⟨oi, hi, .inl ⟨v, hy, H⟩⟩
  ·obtain ⟨oj, hoj, hr1⟩ := H.2 j (ready_mono hj hji)
   obtain ⟨hjun, oj', hoj', hall⟩ := mem_ready.1 hj
   obtain rfl : oj = oj' := by rw [hoj] at hoj'; exact Option.some.inj hoj'
   have hnot : ∀ e ∈ oj.after, Region.binds md e = true → e.on ≠ i := fun e he hb heq => by
    have h1 := hall e he hb
    have h0 := (mem_ready.1 hr).1
    rw [heq] at h1
    rcases Nat.lt_or_ge i listed.size with h' | h'
    ·simp [h'] at h0 h1; rw [h0] at h1; cases h1
    ·simp [Array.getElem?_eq_none h'] at h1
   obtain ⟨h1, h2, h3⟩ := Oper.apart_spec (hfree j oj hoj hji hjun hnot)
   have hfree' : ∀ k ok, ops[k]? = some ok → k ≠ i → (listed.setIfInBounds j true).getD k true = false →
     (∀ e ∈ ok.after, Region.binds md e = true → e.on ≠ i) → oi.apart ops ok = true := fun k ok hk hki hun hno => by
    refine hfree k ok hk hki ?_ hno
    by_cases hjk : j = k
    ·subst hjk; exact hjun
    ·rw [getD_set_ne true hjk] at hun; exact hun
   have hsame : Same P ops oj (a.put oi.dst v) a := ⟨(execOp_put oj (fun cs b => hsel j oj cs b hoj) a oi.dst v h1).symm, (wanted_put oj a oi.dst v h1).symm⟩
   have hsi : ∀ u, UniBIf P ops W0 oi v (a.put oj.dst u) := fun u => hy.of_same ⟨execOp_put oi (fun cs b => hsel i oi cs b hi) a oj.dst u h3, wanted_put oi a oj.dst u h3⟩
   have hgo : ∀ (L' : Blks) (u : Value), wpG P md ops Q W0 fuel L' ((listed.setIfInBounds i true).setIfInBounds j true) ((a.put oi.dst v).put oj.dst u) → wpG P md ops Q W0 (fuel + 1) L' (listed.setIfInBounds j true) (a.put oj.dst u) := fun L' u h => by
    refine ih L' (listed.setIfInBounds j true) _ hfree' (ready_mono hr (Ne.symm hji)) (hsi u) ?_
    rw [Array.setIfInBounds_comm _ _ hji, ← Act.put_comm a v u h2]
    exact h
   refine ⟨oj, hoj, ?_⟩
   rcases hr1 with ⟨u, hu, hr⟩ | ⟨z, t, hu, hr⟩ | ⟨L', u, hu, hr⟩
   ·exact .inl ⟨u, hu.of_same hsame, hgo L u hr⟩
   ·exact .inr (.inl ⟨z, t, hu.of_same hsame, fun g hg hn => hgo _ _ (hr g hg hn)⟩)
   ·exact .inr (.inr ⟨L', u, hu.of_same hsame, hgo L' u hr⟩)
theorem wpG_take {i : Nat} {oi : Oper} {v : Value} {fuel : Nat} {L : Blks} {listed : Array Bool} {a : Act} (hi : ops[i]? = some oi)
  (hs : Region.noSelect ops = true) (hf : Region.free md ops listed i = true) (hr : (Region.ready md ops listed).contains i = true)
  (hy : UniBIf P ops W0 oi v a) (h : wpG P md ops Q W0 fuel L (listed.setIfInBounds i true) (a.put oi.dst v)) : wpG P md ops Q W0 (fuel + 1) L listed a :=
 wpG_first hi (Region.noSelect_spec hs) fuel L listed a (Region.free_spec hi hf) (by simpa using hr) hy h
theorem wpG_alloc {i : Nat} {oi : Oper} {z : Array Value} {t : TypeId} {fuel : Nat} {L : Blks} {listed : Array Bool} {a : Act} (hr : Region.ready md ops listed = [i]) (hi : ops[i]? = some oi)
  (hy : AllocOp P ops W0 oi z t a) (h : ∀ g, W0.heap.size ≤ g → (∀ x ∈ L, x.1 ≠ g) → wpG P md ops Q W0 fuel ((g, z, t) :: L) (listed.setIfInBounds i true) (a.put oi.dst (.pointer (some ⟨g, 0, none⟩)))) : wpG P md ops Q W0 (fuel + 1) L listed a :=
 ⟨fun h0 => (by rw [hr] at h0; cases h0), fun j hj => by rw [hr] at hj; obtain rfl := List.mem_singleton.1 hj; exact ⟨oi, hi, .inr (.inl ⟨z, t, hy, h⟩)⟩⟩
theorem wpG_store {i : Nat} {oi : Oper} {v : Value} {fuel : Nat} {L : Blks} (L' : Blks) {listed : Array Bool} {a : Act} (hr : Region.ready md ops listed = [i]) (hi : ops[i]? = some oi)
  (hy : StoreOp P ops W0 L L' oi v a) (h : wpG P md ops Q W0 fuel L' (listed.setIfInBounds i true) (a.put oi.dst v)) : wpG P md ops Q W0 (fuel + 1) L listed a :=
 ⟨fun h0 => (by rw [hr] at h0; cases h0), fun j hj => by rw [hr] at hj; obtain rfl := List.mem_singleton.1 hj; exact ⟨oi, hi, .inr (.inr ⟨L', v, hy, h⟩)⟩⟩
theorem wpG_done {L : Blks} {listed : Array Bool} {a : Act} (hr : Region.ready md ops listed = []) (h : ∀ w, Below W0.heap.size W0 w → HasBlks L w → Q .normal a w) : ∀ fuel, wpG P md ops Q W0 fuel L listed a
 | 0 => ⟨hr, h⟩
 | _ + 1 => ⟨fun _ => h, by rw [hr]; simp⟩
theorem wp_region_G (W0 : World) {id : Nat} {a : Act} (hm : P.follows .mixedOrders = true)
  (h : wpG P .any ops Q W0 ops.size [] (Array.replicate ops.size false) a) : (Code.region id ops true).wp P Q a W0 :=
 wp_region_any hm (wpAny_of_G _ _ _ _ h _ ((Below.refl _ _).drew) (fun x hx => by cases hx))
theorem unib_val {x : Sem Next} {v : Value} (h : ∀ w, Below W0.heap.size W0 w → x.run P w = .ok (.value v) w) : UniB P W0 x v := fun w hS => .inl (h w hS)
theorem unib_call {x : Sem Next} {v : Value} {f : FuncId} {args : Array Value} (h : ∀ w, Below W0.heap.size W0 w → x.run P w = .ok (.enter f args) w) (hc : ∀ w, Calls P f args w fun e w' => e = .returned v ∧ Below w.heap.size w w') : UniB P W0 x v :=
 fun w hS => .inr ⟨f, args, h w hS, hc w⟩
theorem unib_call_if {x : Sem Next} {v : Value} {f : FuncId} {args : Array Value} (h : ∀ w, Below W0.heap.size W0 w → x.run P w = .ok (.enter f args) w) (hc : ∀ w, Below W0.heap.size W0 w → Calls P f args w fun e w' => e = .returned v ∧ Below w.heap.size w w') : UniB P W0 x v :=
 fun w hS => .inr ⟨f, args, h w hS, hc w hS⟩
end
end
end
section
open Go.RowKit WM
variable {P : Program} {ops : Array Oper} {Q : Exit → Act → World → Prop} {md : Region.Mode} {W0 : World}
theorem wpGv {i : Nat} {oi : Oper} {v : Value} {fuel : Nat} {L : Blks} {listed : Array Bool} {a : Act} (hi : ops[i]? = some oi) (hx : ∀ w, Below W0.heap.size W0 w → (execOp a.eval oi).run P w = .ok (.value v) w)
    (h : wpG P md ops Q W0 fuel L (listed.setIfInBounds i true) (a.put oi.dst v)) (hw : Region.wanted oi (yielded ops a.tmps) = true := by rfl) (hs : Region.noSelect ops = true := by kernel_rfl) (hf : Region.free md ops listed i = true := by kernel_rfl) (hr : (Region.ready md ops listed).contains i = true := by kernel_rfl) : wpG P md ops Q W0 (fuel + 1) L listed a :=
  wpG_take hi hs hf hr (Or.inl ⟨hw, unib_val hx⟩) h
theorem wpGo {i : Nat} {oi : Oper} {fuel : Nat} {L : Blks} {listed : Array Bool} {a : Act} (hi : ops[i]? = some oi) (h : wpG P md ops Q W0 fuel L (listed.setIfInBounds i true) (a.put oi.dst undef)) (hw : Region.wanted oi (yielded ops a.tmps) = false := by rfl)
    (hs : Region.noSelect ops = true := by kernel_rfl) (hf : Region.free md ops listed i = true := by kernel_rfl) (hr : (Region.ready md ops listed).contains i = true := by kernel_rfl) : wpG P md ops Q W0 (fuel + 1) L listed a :=
  wpG_take hi hs hf hr (Or.inr ⟨hw, rfl⟩) h
end
end Go.Proofs.YtkjimhlpbgeagaaGreatDoor
