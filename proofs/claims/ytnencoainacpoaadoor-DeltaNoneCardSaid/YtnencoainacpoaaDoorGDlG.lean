import Derived.ScopeJumps
import Derived.WalkMore
import Derived.Test.YtnencoainacpoaaDoorGSgO
import Derived.RangeFuncNested
import Derived.RangeFuncBound
import Derived.RangeFuncCalls
import Derived.RangeFuncLeaves
import Derived.RangeFuncBox
import Derived.Shelf.Abstract
import Derived.Shelf.RegionOpen
import Derived.WalkKit
import Derived.OwnWalkIn
import Derived.TacticsInMore
import Derived.LoopNIn
import Derived.LoopIn
import Derived.Test.YtnencoainacpoaaDoorGDlM
import Derived.Test.YtnencoainacpoaaDoorGDlK
section
/-
  A scope through which the run goes by gotos to several labels: what holds at each (J), and a measure that each pass from a label lowers.
-/
namespace Go.Proofs.YtnencoainacpoaaDoor
open Go
set_option linter.unusedVariables false
/-- As Q; by a goto to one of the labels I: J of it; by any other goto: no way out. -/
def exitJ (I : List Nat) (J : Nat → Act → World → Prop) (Q : Exit → Act → World → Prop) : Exit → Act → World → Prop
  | .goto l, a, w => l ∈ I ∧ J l a w
  | e, a, w => Q e a w
section
variable {I : List Nat} {J : Nat → Act → World → Prop} {Q : Exit → Act → World → Prop} {a : Act} {w : World}
@[go_sem] theorem exitJ_normal : exitJ I J Q .normal a w = Q .normal a w := rfl
@[go_sem] theorem exitJ_exit (id : Nat) : exitJ I J Q (.exit id) a w = Q (.exit id) a w := rfl
@[go_sem] theorem exitJ_ret : exitJ I J Q .ret a w = Q .ret a w := rfl
@[go_sem] theorem exitJ_panic (ch : List PanicEntry) : exitJ I J Q (.panic ch) a w = Q (.panic ch) a w := rfl
theorem exitJ_goto {l : Nat} (hl : l ∈ I) (h : J l a w) : exitJ I J Q (.goto l) a w := ⟨hl, h⟩
end
theorem wp_more {P : Program} {c : Code} {Q Q' : Exit → Act → World → Prop} {a : Act} {w : World} (h : c.wp P Q a w) (hq : ∀ e a w, Q e a w → Q' e a w) : c.wp P Q' a w := by
  intro b k cs
  obtain ⟨e, a₁, w₁, h1, h2⟩ := h b k cs
  exact ⟨e, a₁, w₁, hq _ _ _ h1, h2⟩
section
variable {P : Program} {a : Act} {w : World} {Q : Exit → Act → World → Prop}
theorem wp_scope_labels {c : Code} (I : List Nat) (R : Nat → Code) (J : Nat → Act → World → Prop) (μ : Nat → Act → World → Nat) (hf : ∀ l ∈ I, findLabel c l = some (R l))
    (pass : ∀ l ∈ I, ∀ a w, J l a w → (R l).wp P (exitJ I (fun l' a' w' => J l' a' w' ∧ μ l' a' w' < μ l a w) Q) a w)
    (first : (∀ l ∈ I, ∀ a w, J l a w → (R l).wp P (exitJ I J Q) a w) → c.wp P (exitJ I J Q) a w) : (Code.scope c).wp P Q a w := by
  intro b k cs
  have hg : ∀ l ∈ I, gotoIn l (.inScope c :: k) = some (.code (R l) :: .inScope c :: k) := fun l hl => by simp [gotoIn, hf l hl]
  have key : ∀ n l, l ∈ I → ∀ a w, μ l a w = n → J l a w → ∃ e a' w', Q e a' w' ∧ Arrives P (lone (b.at a (.code (R l) :: .inScope c :: k)) cs w) b k cs e a' w' := by
    intro n
    induction n using Nat.strongRecOn with
    | _ n ih =>
      intro l hl a w hn hJ
      obtain ⟨e, a₁, w₁, hq, harr⟩ := pass l hl a w hJ b (.inScope c :: k) cs
      cases e with
      | normal => exact ⟨.normal, a₁, w₁, hq, Steps.trans harr (.one step_inScope)⟩
      | exit id => exact ⟨.exit id, a₁, w₁, hq, fun k' hk => harr k' (by simp [exitTo, hk])⟩
      | goto l' =>
        obtain ⟨hl', hJ', hlt⟩ := hq
        obtain ⟨e₂, a₂, w₂, hq₂, harr₂⟩ := ih _ (by omega) l' hl' a₁ w₁ rfl hJ'
        exact ⟨e₂, a₂, w₂, hq₂, .of_steps (harr _ (hg l' hl')) harr₂⟩
      | ret => exact ⟨_, a₁, w₁, hq, harr⟩
      | panic ch => exact ⟨_, a₁, w₁, hq, harr⟩
      | outgrown => exact ⟨_, a₁, w₁, hq, harr⟩
  obtain ⟨e, a₁, w₁, hq, harr⟩ := first (fun l hl a w h => wp_more (pass l hl a w h) (fun e a w h => by
    cases e with
    | goto l' => exact ⟨h.1, h.2.1⟩
    | normal => exact h
    | exit id => exact h
    | ret => exact h
    | panic ch => exact h
    | outgrown => exact h)) b (.inScope c :: k) cs
  cases e with
  | normal => exact ⟨.normal, a₁, w₁, hq, .head step_scope (Steps.trans harr (.one step_inScope))⟩
  | exit id => exact ⟨.exit id, a₁, w₁, hq, fun k' hk => .head step_scope (harr k' (by simp [exitTo, hk]))⟩
  | goto l' =>
    obtain ⟨hl', hJ'⟩ := hq
    obtain ⟨e₂, a₂, w₂, hq₂, harr₂⟩ := key _ l' hl' a₁ w₁ rfl hJ'
    exact ⟨e₂, a₂, w₂, hq₂, .of_steps (.head step_scope (harr _ (hg l' hl'))) harr₂⟩
  | ret => exact ⟨_, a₁, w₁, hq, .of_steps (.one step_scope) harr⟩
  | panic ch => exact ⟨_, a₁, w₁, hq, .of_steps (.one step_scope) harr⟩
  | outgrown => exact ⟨_, a₁, w₁, hq, .of_steps (.one step_scope) harr⟩
theorem exitJ_weak {I : List Nat} {J J' : Nat → Act → World → Prop} {Q : Exit → Act → World → Prop} {e : Exit} {a : Act} {w : World} (h : exitJ I (fun l a w => J l a w ∧ J' l a w) Q e a w) : exitJ I J Q e a w := by
  cases e with
  | goto l' => exact ⟨h.1, h.2.1⟩
  | normal => exact h
  | exit id => exact h
  | ret => exact h
  | panic ch => exact h
  | outgrown => exact h
theorem wp_scope_1 {c : Code} (l0 : Nat) {R0 : Code} (J : Nat → Act → World → Prop) (μ : Nat → Act → World → Nat) (h0 : findLabel c l0 = some (Code.skip.seq R0))
    (pass0 : ∀ a w, J l0 a w → R0.wp P (exitJ [l0] (fun l' a' w' => J l' a' w' ∧ μ l' a' w' < μ l0 a w) Q) a w)
    (first : (∀ a w, J l0 a w → R0.wp P (exitJ [l0] J Q) a w) → c.wp P (exitJ [l0] J Q) a w) : (Code.scope c).wp P Q a w := by
  refine wp_scope_labels [l0] (fun l => Code.skip.seq R0) J μ (fun l hl => ?_) (fun l hl a w h => ?_) (fun _ => first (fun a w h => wp_more (pass0 a w h) (fun e a w h => exitJ_weak h)))
  · obtain rfl : l = l0 := by simpa using hl
    exact h0
  · obtain rfl : l = l0 := by simpa using hl
    exact wp_seq (wp_skip (pass0 a w h))
theorem wp_scope_2 {c : Code} (l0 l1 : Nat) {R0 R1 : Code} (J : Nat → Act → World → Prop) (μ : Nat → Act → World → Nat) (h0 : findLabel c l0 = some (Code.skip.seq R0)) (h1 : findLabel c l1 = some (Code.skip.seq R1)) (d01 : ¬ l1 = l0)
    (pass0 : ∀ a w, J l0 a w → R0.wp P (exitJ [l0, l1] (fun l' a' w' => J l' a' w' ∧ μ l' a' w' < μ l0 a w) Q) a w)
    (pass1 : ∀ a w, J l1 a w → R1.wp P (exitJ [l0, l1] (fun l' a' w' => J l' a' w' ∧ μ l' a' w' < μ l1 a w) Q) a w)
    (first : (∀ a w, J l0 a w → R0.wp P (exitJ [l0, l1] J Q) a w) → (∀ a w, J l1 a w → R1.wp P (exitJ [l0, l1] J Q) a w) → c.wp P (exitJ [l0, l1] J Q) a w) : (Code.scope c).wp P Q a w := by
  refine wp_scope_labels [l0, l1] (fun l => if l = l0 then Code.skip.seq R0 else Code.skip.seq R1) J μ (fun l hl => ?_) (fun l hl a w h => ?_) (fun _ => first (fun a w h => wp_more (pass0 a w h) (fun e a w h => exitJ_weak h)) (fun a w h => wp_more (pass1 a w h) (fun e a w h => exitJ_weak h)))
  · simp only [List.mem_cons, List.not_mem_nil, or_false] at hl
    rcases hl with rfl | rfl
    · simp only [if_true]; exact h0
    · simp only [if_neg d01]; exact h1
  · simp only [List.mem_cons, List.not_mem_nil, or_false] at hl
    rcases hl with rfl | rfl
    · simp only [if_true]; exact wp_seq (wp_skip (pass0 a w h))
    · simp only [if_neg d01]; exact wp_seq (wp_skip (pass1 a w h))
theorem wp_scope_3 {c : Code} (l0 l1 l2 : Nat) {R0 R1 R2 : Code} (J : Nat → Act → World → Prop) (μ : Nat → Act → World → Nat) (h0 : findLabel c l0 = some (Code.skip.seq R0)) (h1 : findLabel c l1 = some (Code.skip.seq R1)) (h2 : findLabel c l2 = some (Code.skip.seq R2)) (d01 : ¬ l1 = l0) (d02 : ¬ l2 = l0) (d12 : ¬ l2 = l1)
    (pass0 : ∀ a w, J l0 a w → R0.wp P (exitJ [l0, l1, l2] (fun l' a' w' => J l' a' w' ∧ μ l' a' w' < μ l0 a w) Q) a w)
    (pass1 : ∀ a w, J l1 a w → R1.wp P (exitJ [l0, l1, l2] (fun l' a' w' => J l' a' w' ∧ μ l' a' w' < μ l1 a w) Q) a w)
    (pass2 : ∀ a w, J l2 a w → R2.wp P (exitJ [l0, l1, l2] (fun l' a' w' => J l' a' w' ∧ μ l' a' w' < μ l2 a w) Q) a w)
    (first : (∀ a w, J l0 a w → R0.wp P (exitJ [l0, l1, l2] J Q) a w) → (∀ a w, J l1 a w → R1.wp P (exitJ [l0, l1, l2] J Q) a w) → (∀ a w, J l2 a w → R2.wp P (exitJ [l0, l1, l2] J Q) a w) → c.wp P (exitJ [l0, l1, l2] J Q) a w) : (Code.scope c).wp P Q a w := by
  refine wp_scope_labels [l0, l1, l2] (fun l => if l = l0 then Code.skip.seq R0 else if l = l1 then Code.skip.seq R1 else Code.skip.seq R2) J μ (fun l hl => ?_) (fun l hl a w h => ?_) (fun _ => first (fun a w h => wp_more (pass0 a w h) (fun e a w h => exitJ_weak h)) (fun a w h => wp_more (pass1 a w h) (fun e a w h => exitJ_weak h)) (fun a w h => wp_more (pass2 a w h) (fun e a w h => exitJ_weak h)))
  · simp only [List.mem_cons, List.not_mem_nil, or_false] at hl
    rcases hl with rfl | rfl | rfl
    · simp only [if_true]; exact h0
    · simp only [if_neg d01, if_true]; exact h1
    · simp only [if_neg d02, if_neg d12]; exact h2
  · simp only [List.mem_cons, List.not_mem_nil, or_false] at hl
    rcases hl with rfl | rfl | rfl
    · simp only [if_true]; exact wp_seq (wp_skip (pass0 a w h))
    · simp only [if_neg d01, if_true]; exact wp_seq (wp_skip (pass1 a w h))
    · simp only [if_neg d02, if_neg d12]; exact wp_seq (wp_skip (pass2 a w h))
theorem wp_scope_4 {c : Code} (l0 l1 l2 l3 : Nat) {R0 R1 R2 R3 : Code} (J : Nat → Act → World → Prop) (μ : Nat → Act → World → Nat) (h0 : findLabel c l0 = some (Code.skip.seq R0)) (h1 : findLabel c l1 = some (Code.skip.seq R1)) (h2 : findLabel c l2 = some (Code.skip.seq R2)) (h3 : findLabel c l3 = some (Code.skip.seq R3)) (d01 : ¬ l1 = l0) (d02 : ¬ l2 = l0) (d03 : ¬ l3 = l0) (d12 : ¬ l2 = l1) (d13 : ¬ l3 = l1) (d23 : ¬ l3 = l2)
    (pass0 : ∀ a w, J l0 a w → R0.wp P (exitJ [l0, l1, l2, l3] (fun l' a' w' => J l' a' w' ∧ μ l' a' w' < μ l0 a w) Q) a w)
    (pass1 : ∀ a w, J l1 a w → R1.wp P (exitJ [l0, l1, l2, l3] (fun l' a' w' => J l' a' w' ∧ μ l' a' w' < μ l1 a w) Q) a w)
    (pass2 : ∀ a w, J l2 a w → R2.wp P (exitJ [l0, l1, l2, l3] (fun l' a' w' => J l' a' w' ∧ μ l' a' w' < μ l2 a w) Q) a w)
    (pass3 : ∀ a w, J l3 a w → R3.wp P (exitJ [l0, l1, l2, l3] (fun l' a' w' => J l' a' w' ∧ μ l' a' w' < μ l3 a w) Q) a w)
    (first : (∀ a w, J l0 a w → R0.wp P (exitJ [l0, l1, l2, l3] J Q) a w) → (∀ a w, J l1 a w → R1.wp P (exitJ [l0, l1, l2, l3] J Q) a w) → (∀ a w, J l2 a w → R2.wp P (exitJ [l0, l1, l2, l3] J Q) a w) → (∀ a w, J l3 a w → R3.wp P (exitJ [l0, l1, l2, l3] J Q) a w) → c.wp P (exitJ [l0, l1, l2, l3] J Q) a w) : (Code.scope c).wp P Q a w := by
  refine wp_scope_labels [l0, l1, l2, l3] (fun l => if l = l0 then Code.skip.seq R0 else if l = l1 then Code.skip.seq R1 else if l = l2 then Code.skip.seq R2 else Code.skip.seq R3) J μ (fun l hl => ?_) (fun l hl a w h => ?_) (fun _ => first (fun a w h => wp_more (pass0 a w h) (fun e a w h => exitJ_weak h)) (fun a w h => wp_more (pass1 a w h) (fun e a w h => exitJ_weak h)) (fun a w h => wp_more (pass2 a w h) (fun e a w h => exitJ_weak h)) (fun a w h => wp_more (pass3 a w h) (fun e a w h => exitJ_weak h)))
  · simp only [List.mem_cons, List.not_mem_nil, or_false] at hl
    rcases hl with rfl | rfl | rfl | rfl
    · simp only [if_true]; exact h0
    · simp only [if_neg d01, if_true]; exact h1
    · simp only [if_neg d02, if_neg d12, if_true]; exact h2
    · simp only [if_neg d03, if_neg d13, if_neg d23]; exact h3
  · simp only [List.mem_cons, List.not_mem_nil, or_false] at hl
    rcases hl with rfl | rfl | rfl | rfl
    · simp only [if_true]; exact wp_seq (wp_skip (pass0 a w h))
    · simp only [if_neg d01, if_true]; exact wp_seq (wp_skip (pass1 a w h))
    · simp only [if_neg d02, if_neg d12, if_true]; exact wp_seq (wp_skip (pass2 a w h))
    · simp only [if_neg d03, if_neg d13, if_neg d23]; exact wp_seq (wp_skip (pass3 a w h))
end
end Go.Proofs.YtnencoainacpoaaDoor

end
section
/-
  What slices.Backward hands back, and what it goes through; what placesOf and find answer. Nothing that was there is written.
-/
namespace Go.Proofs.YtnencoainacpoaaDoor
open Go.RowKit Go.Shelf WM
set_option linter.unusedVariables false
set_option maxRecDepth 100000
attribute [local go_sem] Oper.semAt_some
/-! ### the map, from the last block on -/
def sgBk (l : List Sg) (k : Nat) : Sg → Option Value := fun x => if sgFrom x k (l.drop k) = -1 then none else some (.int .i64 (sgFrom x k (l.drop k)))
theorem sgBk_end (l : List Sg) : sgBk l l.length = fun _ => none := by
  funext x
  simp [sgBk, sgFrom]
theorem sgBk_step {l : List Sg} {k : Nat} (hk : k < l.length) : sgBk l k = fput (sgBk l (k + 1)) (l.getD k sg0) (.int .i64 (k : Int)) := by
  funext x
  unfold sgBk fput
  rw [sgFrom_step hk]
  by_cases h : l.getD k sg0 = x
  · rw [if_pos h, if_pos h.symm, if_neg (by omega)]
  · have h' : ¬ x = l.getD k sg0 := fun e => h e.symm
    simp only [if_neg h, if_neg h']
/-- A block, and its place. -/
structure IX where
  k : Nat
  x : Sg
  ok : x.Ok
def encI (e : IX) : Array Value := #[.int .i64 (e.k : Int), .agg (KSig.cs e.x).toArray]
def ixP (e : IX) : Nat × Sg := (e.k, e.x)
def rv (N k : Nat) : List Nat := ((List.range N).drop k).reverse
theorem rv_end (N : Nat) : rv N N = [] := by simp [rv]
theorem rv_step {N k : Nat} (h : k < N) : rv N k = rv N (k + 1) ++ [k] := by
  unfold rv
  rw [List.drop_eq_getElem_cons (by simpa using h), List.reverse_cons]
  simp
def mfold (L : List (Nat × Sg)) : Sg → Option Value := L.foldl (fun M e => fput M e.2 (.int .i64 (e.1 : Int))) (fun _ => none)
theorem mfold_rv (l : List Sg) : ∀ (j k : Nat), k + j = l.length → mfold ((rv l.length k).map fun i => (i, l.getD i sg0)) = sgBk l k
  | 0, k, h => by
    obtain rfl : k = l.length := by omega
    rw [rv_end, sgBk_end]
    rfl
  | j + 1, k, h => by
    rw [rv_step (by omega), List.map_append, sgBk_step (by omega), ← mfold_rv l j (k + 1) (by omega)]
    unfold mfold
    rw [List.foldl_append]
    rfl
theorem mfold_snoc (L : List (Nat × Sg)) (e : Nat × Sg) : mfold (L ++ [e]) = fput (mfold L) e.2 (.int .i64 (e.1 : Int)) := by
  unfold mfold
  rw [List.foldl_append]
  rfl
/-! ### slices.Backward -/
def BoxG (w : World) (B : Nat) (A : Option Addr) (N c : Nat) : Prop := w.heap[B]? = some (.cells #[.slice A N c] 23)
theorem BoxG.lt {w : World} {B N c : Nat} {A : Option Addr} (h : BoxG w B A N c) : B < w.heap.size := (Array.getElem?_eq_some_iff.1 h).1
theorem BoxG.c {w : World} {B N c : Nat} {A : Option Addr} (h : BoxG w B A N c) : w.cell? ⟨B, 0, none⟩ = some (.slice A N c) := by rw [cell_of_row _ _ _ _ _ _ h]; rfl
def KpG (B base : Nat) (X Y : World) : Prop := Y.heap[B]? = X.heap[B]? ∧ ∀ k, k < base → Y.heap[k]? = X.heap[k]?
theorem KpG.below {B base : Nat} {X Y : World} (h : Below X.heap.size X Y) (hB : B < X.heap.size) (hb : base ≤ X.heap.size) : KpG B base X Y := ⟨h.block _ hB, fun k hk => h.block _ (by omega)⟩
theorem abides_below11 {α : Type} {B : Nat} {J : α → World → Prop} (hJ : AbidesFrom B J) {s : α} {W W' : World} (h : J s W) (hb : Below W.heap.size W W') : J s W' :=
  hJ _ _ _ none h ⟨hb.os, hb.tape, hb.output, hb.size, fun k hk _ => hb.block k hk⟩ (fun r e => by cases e)
theorem wpListIn_load_at {F : Fence} {n : Nat} {P : Program} {ops : Array Oper} {rest : List Oper} {o : Oper} {a : Act} {w : World} {Q : Exit → Act → World → Prop} (hgd : o.guard = none) (ty : TypeId) (x : Operand) (hop : o.op = .load ty x) (ad : Addr) (hx : a.eval x = .pointer (some ad)) (v : Value) (hv : (loadVar ty ad).run P w = .ok v w)
    (hK : wpListIn F n P ops Q rest (a.put o.dst v) w) : wpListIn F n P ops Q (o :: rest) a w := by
  refine wpListIn_plain hgd fun K' hK' => ?_
  unfold Oper.wpIn
  refine ⟨by simp [Oper.about, hop], ?_⟩
  rw [Oper.semAt_plain F _ _ (by rw [hop]; intro c hc'; cases hc')]
  unfold execOp
  simp only [hop, hx, Instr.loadAt, Instr.sureAddr, Sem.run_bind, Sem.run_pure, Result.andThen_ok, hv]
  exact hK' _ _ hK
theorem wpListIn_store_new11 {F : Fence} {n : Nat} {P : Program} {ops : Array Oper} {rest : List Oper} {o : Oper} {a : Act} {w : World} {Q : Exit → Act → World → Prop} (hgd : o.guard = none) (t : TypeId) (p y : Operand) (hop : o.op = .store t p y) (hp : a.eval p = .pointer (some ⟨w.heap.size, 0, none⟩))
    (Z X : Array Value) (hy : a.eval y = .agg X) (hi : (P.info? t).map (·.size) = some X.size) (hold : Z.size = X.size) (h1 : X.all (·.oneCell') = true) (hK : wpListIn F n P ops Q rest (a.put o.dst undef) (w.alloc (.cells X t))) : wpListIn F n P ops Q (o :: rest) a (w.alloc (.cells Z t)) := by
  refine wpListIn_plain hgd fun K' hK' => ?_
  unfold Oper.wpIn
  refine ⟨by simp [Oper.about, hop], ?_⟩
  rw [Oper.semAt_plain F _ _ (by rw [hop]; intro c hc'; cases hc')]
  have hr := run_storeVar_row (P := P) (w.alloc (.cells Z t)) w.heap.size t t Z X (heap_alloc_new w _) hi hold h1
  unfold execOp
  simp only [hop, hp, hy, Instr.storeAt, Instr.sureAddr, Sem.run_bind, Sem.run_pure, Result.andThen_ok, hr]
  rw [World.setRow_alloc_new w _ _ _]
  exact hK' _ _ hK
theorem wpListIn_mapUpdate_G {F : Fence} {nF : Nat} {P : Program} {α : Type} [DecidableEq α] {K : MKey P α} {w : World} {b n : Nat} {f : α → Option Value} {z : Value} {ops : Array Oper} {rest : List Oper} {o : Oper} {a : Act} {Q : Exit → Act → World → Prop} (hgd : o.guard = none) (t : TypeId) (m x v : Operand) (hop : o.op = Op.mapUpdate t m x v)
    {e : TypeId} (ht : P.underlying t = some (.map K.t e)) (k : α) (u : Value) (hm : a.eval m = .map (some b)) (hx : a.eval x = K.v k) (hv : a.eval v = u) (h : GMs K w b n f z) (hn : n < 1000000000) (hk : K.ok k)
    (hK : ∀ w', GMs K w' b (n + 1) (fput f k u) z → w.grownBy w' (some b) → wpListIn F nF P ops Q rest (a.put o.dst undef) w') : wpListIn F nF P ops Q (o :: rest) a w := by
  refine wpListIn_plain hgd fun K' hK' => ?_
  obtain ⟨w', hrun, r1, r2⟩ := h.store hn ht hk u
  unfold Oper.wpIn
  refine ⟨by simp [Oper.about, hop], ?_⟩
  rw [Oper.semAt_plain F _ _ (by rw [hop]; intro c hc'; cases hc')]
  simp [execOp, hop, hm, hx, hv, hrun, Result.andThen]
  exact hK' _ _ (hK w' r1 r2)
set_option maxHeartbeats 4000000 in
theorem back1_in (n : Nat) (hn : 1 ≤ n) (l Bx base N : Nat) (A : Option Addr) (c : Nat) (sig : List Sg) (w : World) (h1 : KSig.row w A c sig) (hN : sig.length = N) (hbase : w.heap.size = base) (hl : N ≤ 1000000) (J Jx : List IX → World → Prop) (W : World) (hJ : AbidesFrom W.heap.size J)
    (hY : ∀ pre x W, J pre W → pre.length < N + 1 → YieldAt Fence.wide (n - 1) Tryd.prog l (encI x) W fun e W' =>
      (e = .returned (.bool true) ∧ J (pre ++ [x]) W' ∧ KpG Bx base W W') ∨ (e = .returned (.bool false) ∧ Jx (pre ++ [x]) W'))
    (hBx : BoxG W Bx A N c) (hW : ∀ k, k < base → W.heap[k]? = w.heap[k]?) (h0 : J [] W) :
    CallsIn Fence.wide n Tryd.prog 63 #[.func (.yield l) #[] #[], .pointer (some ⟨Bx, 0, none⟩)] W fun e W' => (∃ v, e = .returned v) ∧
      ((∃ ys : List IX, ys.map ixP = ((rv N 0).map fun i => (i, sig.getD i sg0)) ∧ J ys W') ∨ (∃ pre, True ∧ Jx pre W')) := by
  have H1 := Lib.hid h1
  have R1 := Lib.hid (fun h => sig_row h1 h)
  have HOK := Lib.hid (fun i (hi : i < N) => show Sg.Ok (sig.getD i sg0) from Kind.row_ok h1 (i := i) (by rw [hN]; exact hi))
  rw [hN] at R1
  have HJ := Lib.hid (fun pre X Y (h : J pre X) (hb : Below X.heap.size X Y) => abides_below11 hJ h hb)
  have HBX := Lib.hid hBx
  have HW := Lib.hid hW
  have H0 := Lib.hid h0
  have HBS := Lib.hid hbase
  have cb := hBx.c
  have f0 : IntKind.i64.wrap ((N : Int) - 1) = (N : Int) - 1 := IntWalk.i64_in _ (by omega)
  have HM0 := Lib.hid (show ([] : List IX).map ixP = (rv N N).map (fun i => (i, sig.getD i sg0)) by rw [rv_end]; rfl)
  clear h1 hBx hW h0 hJ hN
  refine callsIn_of_wp Tryd.func63 rfl trivial ?_ rfl
  simp only [Tryd.ntmps63, List.size_toArray, List.length_cons, List.length_nil, Nat.reduceAdd, Nat.reduceSub, Array.replicate_succ, Array.replicate_zero, List.push_toArray, List.append_toArray, List.nil_append, List.cons_append]
  refine wpIn_wide.2 ?_
  go_wp2
  go_loopw [3] (fun i wr => ∃ (k : Nat) (pre : List IX), k ≤ N ∧ i = .int .i64 ((k : Int) - 1) ∧ pre.map ixP = (rv N k).map (fun i => (i, sig.getD i sg0)) ∧ pre.length = N - k ∧ J pre wr ∧ BoxG wr Bx A N c ∧ ∀ k, k < base → wr.heap[k]? = w.heap[k]?) (fun i _ => (intOf i + 1).toNat)
  case atStart => exact ⟨N, [], Nat.le_refl _, rfl, HM0.out, by simp, H0.out, HBX.out, HW.out⟩
  case round =>
    obtain ⟨k, pre, hk, rfl, hp, hpl, hJs, hbx, hww⟩ := hrel
    have HP := Lib.hid hp
    have HPL := Lib.hid hpl
    have HJS := Lib.hid hJs
    have HB2 := Lib.hid hbx
    have HW2 := Lib.hid hww
    have cr := hbx.c
    by_cases hlt : 0 < k
    · obtain ⟨j, rfl⟩ : ∃ j, k = j + 1 := ⟨k - 1, by omega⟩
      rw [show (((j + 1 : Nat) : Int) - 1) = (j : Int) by omega]
      have t1 : (0 : Int) ≤ (j : Int) := by omega
      obtain ⟨b1, off1, hA1, hb1w, hx1, hi1⟩ := R1.out (by omega)
      have ix1 := hi1 j (by omega) j rfl
      rw [← hA1] at ix1
      have hxj := hx1 j (by omega)
      have hok := HOK.out j (by omega)
      have LD := Lib.hid (load_sig (Kind.at_same (w' := wr) hxj (HW2.out b1 (by rw [← HBS.out]; exact hb1w))) hok)
      obtain ⟨fn, tmps, assign, body, hy, hR⟩ := hY _ ⟨j, sig.getD j sg0, hok⟩ _ hJs (by omega)
      unfold encI at hy
      have HRR := Lib.hid hR
      have HPX := Lib.hid (show (pre ++ [(⟨j, sig.getD j sg0, hok⟩ : IX)]).map ixP = (rv N j).map (fun i => (i, sig.getD i sg0)) by rw [rv_step (by omega : j < N), List.map_append, List.map_append, HP.out]; rfl)
      have HPY := Lib.hid (show (pre ++ [(⟨j, sig.getD j sg0, hok⟩ : IX)]).length = N - j by rw [List.length_append, HPL.out]; simp; omega)
      dsimp only at hy
      rw [show KSig.v (sig.getD j sg0) = .agg (KSig.cs (sig.getD j sg0)).toArray from rfl] at LD
      generalize hE : (KSig.cs (sig.getD j sg0)).toArray = E at *
      have f1 : IntKind.i64.wrap ((j : Int) - 1) = (j : Int) - 1 := IntWalk.i64_in _ (by omega)
      clear hp hpl hJs hbx hww hx1 hi1 hA1 hxj hR cb hE
      refine (wpIn_wide (n := n)).1 ?_
      gi_wp2_with ((with_reducible refine wpListIn_load_at ?e0 81 (.tmp 15) ?e1 ⟨b1, off1 + j * 33, none⟩ ?e2 _ LD.out ?_); (case e0 => rfl); (case e1 => rfl); (case e2 => rfl))
      refine HRR.out.mono ?_
      rintro e2 W3 (⟨rfl, hJ3, hk3⟩ | ⟨rfl, hJx3⟩)
      · have FIN := Lib.hid (show J _ W3 ∧ BoxG W3 Bx A N c ∧ ∀ k, k < base → W3.heap[k]? = w.heap[k]? from ⟨hJ3, hk3.1.trans HB2.out, fun k hk => (hk3.2 k hk).trans (HW2.out k hk)⟩)
        clear hJ3 hk3 cr ix1
        gi_wp2
        go_roundw
        case rel => exact ⟨j, _, by omega, rfl, HPX.out, HPY.out, FIN.out.1, FIN.out.2.1, FIN.out.2.2⟩
        case measure => simp [intOf]
      · have HX3 := Lib.hid hJx3
        clear hJx3 cr ix1
        gi_wp2
        exact ⟨rfl, .tuple #[], by simp [results, Tryd.results63], ⟨_, rfl⟩, .inr ⟨_, trivial, HX3.out⟩⟩
    · obtain rfl : k = 0 := by omega
      rw [show (((0 : Nat) : Int) - 1) = -1 from rfl]
      have t1 : ¬ (0 : Int) ≤ -1 := by decide
      clear hp hpl hJs hbx hww cb cr
      go_wp2
      exact ⟨rfl, .tuple #[], by simp [results, Tryd.results63], ⟨_, rfl⟩, .inl ⟨_, HP.out, HJS.out⟩⟩
theorem back_stops (n : Nat) (hn : 1 ≤ n) (Bx base N : Nat) (A : Option Addr) (c : Nat) (sig : List Sg) (w wS : World) (h1 : KSig.row w A c sig) (hN : sig.length = N) (hbase : w.heap.size = base) (hl : N ≤ 1000000) (hb : Below base w wS) (hBx : BoxG wS Bx A N c) :
    SeqStopsK Fence.wide n Tryd.prog 63 #[.pointer (some ⟨Bx, 0, none⟩)] encI (KpG Bx base) (fun ys : List IX => ys.map ixP = ((rv N 0).map fun i => (i, sig.getD i sg0))) (fun _ => True) (N + 1) wS := fun l J Jx W hW hJ _ hY h0 =>
  back1_in n hn l Bx base N A c sig w h1 hN hbase hl J Jx W hJ hY ((hW.block _ hBx.lt).trans hBx) (fun k hk => (hW.block _ (by have := hb.size; omega)).trans (hb.block k hk)) h0
theorem backward_any (A : Option Addr) (N c : Nat) (w : World) : Calls Tryd.prog 47 #[.slice A N c] w fun e w' =>
    e = .returned (.func (.func 63) #[] #[.pointer (some ⟨w.heap.size, 0, none⟩)]) ∧ w' = w.alloc (.cells #[.slice A N c] 23) := by
  go_enter Tryd.func47, Tryd.ntmps47
  go_wp2
  go_ret
  exact ⟨rfl, rfl⟩
/-! ### placesOf -/
def PlP (w : World) (sig : List Sg) (e : Ending) (w' : World) : Prop := ∃ b n, e = .returned (.map (some b)) ∧ GMs mkSig w' b n (sgBk sig 0) (.int .i64 0) ∧ Below w.heap.size w w' ∧ w.heap.size ≤ b
/-- What holds between two rounds. -/
def PJ11 (w : World) (n0 mb g Bx : Nat) (A : Option Addr) (N c : Nat) (pre : List IX) (W : World) : Prop :=
  GMs mkSig W mb pre.length (mfold (pre.map ixP)) (.int .i64 0) ∧ W.heap[g]? = some (.cells #[.map (some mb)] 60) ∧ BoxG W Bx A N c ∧ Below w.heap.size w W ∧ n0 ≤ W.heap.size
theorem cells_turned {W W' : World} {b : Nat} {cs : Array Value} {t : TypeId} {row : Option Nat} (h : W.heap[b]? = some (.cells cs t)) (hg : W.grownBy W' row) (hr : ∀ r, row = some r → ∃ o : Obj, W.heap[r]? = some o ∧ o.isCells = false) : W'.heap[b]? = some (.cells cs t) :=
  (hg.block b (Array.getElem?_eq_some_iff.1 h).1 (fun e => by
    obtain ⟨o, ho, hc⟩ := hr b e.symm
    rw [h] at ho
    cases ho
    cases hc)).trans h
theorem PJ11_own {w : World} {n0 mb g Bx N c B : Nat} {A : Option Addr} (hB : w.heap.size ≤ B) (hm : mb < B) : OwnFrom B (PJ11 w n0 mb g Bx A N c) := by
  rintro s X Y row ⟨h1, h2, h3, h4, h5⟩ hg hr
  have hr' : ∀ r, row = some r → ∃ o : Obj, X.heap[r]? = some o ∧ o.isCells = false := fun r e => (hr r e).2
  exact ⟨h1.same (hg.block mb h1.lt (fun e => by have := (hr mb e.symm).1; omega)), cells_turned h2 hg hr', cells_turned h3 hg hr', ownFrom_below (β := Unit) (Nat.le_refl _) hB () X Y row h4 hg hr, Nat.le_trans h5 hg.size⟩
theorem PJ11.below {w W W' : World} {n0 mb g Bx N c : Nat} {A : Option Addr} {pre : List IX} (h : PJ11 w n0 mb g Bx A N c pre W) (hb : Below W.heap.size W W') : PJ11 w n0 mb g Bx A N c pre W' := by
  obtain ⟨h1, h2, h3, h4, h5⟩ := h
  exact ⟨h1.below hb h1.lt, (hb.block _ (Array.getElem?_eq_some_iff.1 h2).1).trans h2, (hb.block _ h3.lt).trans h3, h4.trans (hb.mono h4.size), Nat.le_trans h5 hb.size⟩
theorem PJ11.put {w W W' : World} {n0 mb g Bx N c : Nat} {A : Option Addr} {pre : List IX} (x : IX) (h : PJ11 w n0 mb g Bx A N c pre W) (hm : w.heap.size ≤ mb) (hgm : g ≠ mb) (hbm : Bx ≠ mb)
    (h1 : GMs mkSig W' mb (pre.length + 1) (fput (mfold (pre.map ixP)) x.x (.int .i64 (x.k : Int))) (.int .i64 0)) (hg : W.grownBy W' (some mb)) : PJ11 w n0 mb g Bx A N c (pre ++ [x]) W' := by
  obtain ⟨_, h2, h3, h4, h5⟩ := h
  refine ⟨?_, (hg.block _ (Array.getElem?_eq_some_iff.1 h2).1 (fun e => hgm (Option.some.inj e))).trans h2, (hg.block _ h3.lt (fun e => hbm (Option.some.inj e))).trans h3, h4.grown hg h4.size (fun k e => by rw [← Option.some.inj e]; exact hm), Nat.le_trans h5 hg.size⟩
  rw [List.length_append, List.map_append, List.map_singleton, mfold_snoc]
  exact h1
set_option maxHeartbeats 8000000 in
theorem placesOf_any (A : Option Addr) (c : Nat) (sig : List Sg) (w : World) (h1 : KSig.row w A c sig) (hl : sig.length ≤ 1000000) : Calls Tryd.prog 30 #[.slice A sig.length c] w (PlP w sig) := by
  have H1 := Lib.hid h1
  obtain ⟨N, hN⟩ : ∃ N, N = sig.length := ⟨_, rfl⟩
  have HN := Lib.hid hN.symm
  have HL := Lib.hid hl
  have hmm := fun (n : Int) (w : World) => run_makeMap_hint (P := Tryd.prog) (t := 60) Tryd.underlying60 .i64 n w
  have HFIN : Hid (∀ b n w', GMs mkSig w' b n (mfold ((rv N 0).map fun i => (i, sig.getD i sg0))) (.int .i64 0) → Below w.heap.size w w' → w.heap.size ≤ b → PlP w sig (.returned (.map (some b))) w') := Lib.hid (fun b n w' g1 g2 g3 => ⟨b, n, rfl, by rw [hN, mfold_rv sig sig.length 0 (by omega)] at g1; exact g1, g2, g3⟩)
  generalize PlP w sig = RR at *
  have M0 := GMs.made mkSig w (.int .i64 0)
  obtain ⟨mb, hmb⟩ : ∃ mb, mb = w.heap.size := ⟨_, rfl⟩
  obtain ⟨w1, hw1⟩ : ∃ w1, w1 = (w.alloc (.map #[] 0)).alloc (.cells #[.map (some w.heap.size)] 60) := ⟨_, rfl⟩
  have B1 := Lib.hid (show Below w.heap.size w w1 by rw [hw1]; exact ((Below.refl w.heap.size w).alloc (Nat.le_refl _) (.map #[] 0)).alloc (by rw [World.size_alloc]; omega) _)
  have hs1 : w1.heap.size = mb + 2 := by rw [hw1, World.size_alloc, World.size_alloc, hmb]
  have G1 := Lib.hid (show w1.heap[mb + 1]? = some (.cells #[.map (some mb)] 60) by
    have := heap_alloc_new (w.alloc (.map #[] 0)) (.cells #[.map (some w.heap.size)] 60)
    rw [World.size_alloc, ← hw1, ← hmb] at this; exact this)
  have M1 := Lib.hid (show GMs mkSig w1 mb 0 (fun _ => none) (.int .i64 0) by
    rw [hw1, hmb]; exact M0.below ((Below.refl _ _).alloc (Nat.le_refl _) _) (by rw [World.size_alloc]; omega))
  have HBK := Lib.hid (backward_any A N c w1)
  obtain ⟨w2, hw2⟩ : ∃ w2, w2 = w1.alloc (.cells #[.slice A N c] 23) := ⟨_, rfl⟩
  have B2 := Lib.hid (show Below w.heap.size w w2 by rw [hw2]; exact B1.out.alloc B1.out.size _)
  have hs2 : w2.heap.size = mb + 3 := by rw [hw2, World.size_alloc, hs1]
  have X2 := Lib.hid (show BoxG w2 (mb + 2) A N c by
    have := heap_alloc_new w1 (.cells #[.slice A N c] 23)
    rw [hs1, ← hw2] at this; exact this)
  have G2 := Lib.hid (show w2.heap[mb + 1]? = some (.cells #[.map (some mb)] 60) by
    rw [hw2]; exact (Below.heap_alloc _ _ _ (by omega)).trans G1.out)
  have M2 := Lib.hid (show GMs mkSig w2 mb 0 (fun _ => none) (.int .i64 0) by rw [hw2]; exact M1.out.below ((Below.refl _ _).alloc (Nat.le_refl _) _) M1.out.lt)
  rw [hs1, ← hw2] at HBK
  have HS2 := Lib.hid hs2
  have HMB := Lib.hid hmb
  have HST := Lib.hid (back_stops 11 (by omega) (mb + 2) w.heap.size N A c sig w w2 h1 hN.symm rfl (by omega) B2.out X2.out)
  have J0 := Lib.hid (show PJ11 w (mb + 3) mb (mb + 1) (mb + 2) A N c [] w2 from ⟨M2.out, G2.out, X2.out, B2.out, by rw [hs2]; exact Nat.le_refl _⟩)
  have hz := zeroSig
  rw [show KSig.v ⟨0, List.replicate 32 0⟩ = .agg (KSig.cs sgz).toArray from rfl] at hz
  have hzne : ¬ (KSig.cs sgz).toArray = #[] := by simp [KSig, Sg.cs]
  have hzs : (KSig.cs sgz).toArray.size = 33 := by decide
  have HN100 := Lib.hid (show N ≤ 1000000 by omega)
  rw [← hN]
  clear h1 M0 hN hs2 hl
  refine (callsIn_wide (n := 12)).1 ?_
  refine callsIn_of_wp_marks Tryd.func30 rfl trivial ?_ rfl
  simp only [Tryd.ntmps30, List.size_toArray, List.length_cons, List.length_nil, Nat.reduceAdd, Nat.reduceSub, Array.replicate_succ, Array.replicate_zero, List.push_toArray, List.append_toArray, List.nil_append, List.cons_append]
  refine wpIn_wide.2 ?_
  go_wp2_with fail
  try rw [← hw1]
  try rw [← hmb]
  refine HBK.out.mono ?_
  rintro e w3 ⟨rfl, rfl⟩
  clear hw1 hw2 hs1 hmb
  go_wp2_with fail
  refine (wpIn_wide (n := 12)).1 ?_
  refine wpIn_rangeFunc_ownH (F := Fence.wide) (n := 12) rfl (by omega) (gf := 63) (lb := #[.pointer (some ⟨mb + 2, 0, none⟩)]) rfl trivial (enters_of Tryd.func63 (by kernel_rfl) rfl)
    (HST.out)
    (fun h k => ⟨k.1.trans h.1, fun i hi => (k.2 i hi).trans (h.2 i hi)⟩)
    (fun W l o o' hl h _ _ => ⟨World.putObj_heap_other (by have := HS2.out; omega), fun k hk => World.putObj_heap_other (by have := HS2.out; have := HMB.out; omega)⟩)
    (Below.refl _ _) (fun _ => rfl)
    (PJ11 w (mb + 3) mb (mb + 1) (mb + 2) A N c)
    (fun _ _ _ => False)
    (PJ11_own (by have := HS2.out; have := HMB.out; omega) (by have := HS2.out; omega))
    (fun _ _ _ _ _ hs _ _ => hs)
    J0.out
    (fun x a' W => ∃ Bc, mb + 3 ≤ Bc ∧ W.heap[Bc]? = some (.cells (KSig.cs x.x).toArray 81) ∧ a' = { tmps := #[Value.slice A N c, undef, .map none, .pointer (some ⟨mb + 1, 0, none⟩), .int .i64 (x.k : Int), .pointer (some ⟨Bc, 0, none⟩), .slice A N c, .int .i64 (N : Int), .map (some mb), .slice A N c, .func (.func 63) #[] #[.pointer (some ⟨mb + 2, 0, none⟩)], .int .i64 (x.k : Int), .agg (KSig.cs x.x).toArray, undef, undef, undef, undef], defers := [] })
    (fun x a' _ X Y row hs hg hr => by
      obtain ⟨Bc, h1, h2, h3⟩ := hs
      exact ⟨Bc, h1, cells_turned h2 hg (fun r e => (hr r e).2), h3⟩)
    ?assign ?body ?done ?stop
  case assign =>
    rintro l pre x W K hI hK
    have hnW := hI.2.2.2.2
    have hba : Below W.heap.size W (W.alloc (.cells (KSig.cs x.x).toArray 81)) := (Below.refl _ _).alloc (Nat.le_refl _) _
    have hK2 := hK _ _ ((KeepsOthers.alloc W (.cells (KSig.cs x.x).toArray 81)).from _) (KpG.below hba hI.2.2.1.lt (by have := HMB.out; omega)) (hI.below hba) ⟨_, hnW, heap_alloc_new W _, rfl⟩
    have SZ := Lib.hid (sig_size x.ok)
    have SQ := Lib.hid (sig_same sgz_ok x.ok)
    have SO := Lib.hid (sig_ones x.x)
    clear hK hI hba
    unfold encI
    generalize (KSig.cs x.x).toArray = E at *
    gi_wp2_with ((with_reducible refine wpListIn_store_new11 ?e1 81 (.tmp 5) (.tmp 12) ?e2 ?e3 (KSig.cs sgz).toArray E ?e4 SZ.out SQ.out SO.out ?_); (case e1 => rfl); (case e2 => rfl); (case e3 => rfl); (case e4 => rfl))
    exact hK2
  case body =>
    rintro l pre x a' W hl hr hI ⟨Bc, hBc, hX, rfl⟩ hlt2
    have g0 : W.cell? ⟨mb + 1, 0, none⟩ = some (.map (some mb)) := by rw [cell_of_row _ _ _ _ _ _ hI.2.1]; rfl
    have LX := Lib.hid (load_sig (Kind.at_blk (K := KSig) (x := x.x) hX) x.ok)
    rw [show KSig.v x.x = .agg (KSig.cs x.x).toArray from rfl] at LX
    have HII := Lib.hid hI
    have hpl : pre.length < 1000000000 := by have := HN100.out; omega
    obtain ⟨w4, hrun, hm4, hg4⟩ := hI.1.store hpl (t := 60) Tryd.underlying60 x.ok (.int .i64 (x.k : Int))
    rw [show mkSig.v x.x = .agg (KSig.cs x.x).toArray from rfl] at hrun
    have FIN := Lib.hid (hI.put x (by have := HMB.out; omega) (by omega) (by omega) hm4 hg4)
    have G4 := Lib.hid hg4
    clear hm4 hg4
    clear hI hX hz hzne hzs
    generalize (KSig.cs x.x).toArray = E at *
    generalize (x.k : Int) = xk at *
    gi_wp2_with (first | ((with_reducible refine wpListIn_load_at ?e1 81 (.tmp 5) ?e2 ⟨Bc, 0, none⟩ ?e3 _ LX.out ?_); (case e1 => rfl); (case e2 => rfl); (case e3 => rfl)))
    exact ⟨KeepsFrom.of_grownBy G4.out (fun j e => by have := Option.some.inj e; have := HS2.out; omega), ⟨G4.out.block _ HII.out.2.2.1.lt (fun e => by have := Option.some.inj e; omega), fun k hk => G4.out.block _ (by have := HII.out.2.2.2.2; have := HMB.out; omega) (fun e => by have := Option.some.inj e; have := HMB.out; omega)⟩, FIN.out⟩
  case done =>
    rintro D ys W hD hp hI hK
    have g0 : W.cell? ⟨mb + 1, 0, none⟩ = some (.map (some mb)) := by rw [cell_of_row _ _ _ _ _ _ hI.2.1]; rfl
    have hMD : mb ≠ D := by have := HS2.out; omega
    have HP := Lib.hid (HFIN.out mb ys.length (W.putObj D (.deferred none)) (by rw [← hp]; exact hI.1.same (World.putObj_heap_other hMD)) (hI.2.2.2.1.trans (belowK_b (w := w) (Nat.le_refl _) _ D _ _ (by have := HS2.out; have := HMB.out; omega) hK rfl rfl)) (by have := HMB.out; omega))
    have HK := Lib.hid hK
    clear hI hK
    go_wp2
    refine ⟨by simp, .inl ⟨_, _, rfl, run_takeDeferred HK.out, ?_⟩⟩
    exact ⟨_, by simp [results, Tryd.results30], HP.out⟩
  case stop =>
    rintro D c pre W _ _ h _
    exact h.elim
end Go.Proofs.YtnencoainacpoaaDoor

end
section
/-
  What places' find answers. Nothing that was there is written.
-/
namespace Go.Proofs.YtnencoainacpoaaDoor
open Go.RowKit WM
set_option linter.unusedVariables false
set_option maxRecDepth 100000
theorem GMs.len0 {P : Program} {α : Type} {K : MKey P α} {w : World} {b n : Nat} {f : α → Option Value} {z : Value} (h : GMs K w b n f z) {t e : TypeId} (ht : P.underlying t = some (.map K.t e)) : ∃ m : Int, (∀ ty, (Builtin.len_ #[t] ty #[.map (some b)]).run P w = .ok (.int .i64 m) w) ∧ (m = 0 → ∀ x, K.ok x → f x = none) := by
  obtain ⟨D, h1, h2⟩ := h
  refine ⟨_, fun ty => h1.len ht ty, fun h0 x hx => ?_⟩
  obtain ⟨l, hl⟩ := K.key hx
  have h3 := (h2 x l hl).1
  obtain ⟨es, rfl⟩ := h1.isMap
  have h4 : es = [] := by
    have : es.length = 0 := by
      have h5 : ((Maps.size (DataW.map es) : Nat) : Int) = 0 := h0
      rw [Maps.size_eq] at h5
      omega
    exact List.eq_nil_of_length_eq_zero this
  subst h4
  rw [Maps.has_eq] at h3
  cases hf : f x with
  | none => rfl
  | some v => rw [hf] at h3; simp at h3
def fiV (r : Int) : Value := .tuple #[.int .i64 (if r = -1 then 0 else r), .bool (decide (¬ r = -1))]
theorem fiV_no : fiV (-1) = .tuple #[.int .i64 0, .bool false] := by simp [fiV]
theorem fiV_yes {q : Nat} : fiV (q : Int) = .tuple #[.int .i64 (q : Int), .bool true] := by
  unfold fiV
  rw [if_neg (by omega), decide_eq_true (by omega)]
set_option maxHeartbeats 4000000 in
theorem find11_any (b n : Nat) (sig : List Sg) (s : ByteArray) (w : World) (hlaid : Laid w) (hM : GMs mkSig w b n (sgBk sig 0) (.int .i64 0)) (hs : s.size ≤ 1000000) :
    Calls Tryd.prog 32 #[.map (some b), .string s] w fun e w' => e = .returned (fiV (if 8 ≤ s.size then sgFrom (sgOne (nums (s.extract 0 8))) 0 sig else -1)) ∧ Below w.heap.size w w' := by
  have HB := Lib.hid (Below.refl w.heap.size w)
  obtain ⟨m, hlen, hm0⟩ := hM.len0 (t := 60) Tryd.underlying60
  have hl2 := hlen 3
  by_cases h8 : 8 ≤ s.size
  · have HXO := Lib.hid (sgOne_ok (nums (s.extract 0 8)))
    rw [if_pos h8]
    have HR0 := Lib.hid (show m = 0 → sgFrom (sgOne (nums (s.extract 0 8))) 0 sig = -1 by
      intro h
      have h9 := hm0 h _ HXO.out
      unfold sgBk at h9
      rw [List.drop_zero] at h9
      by_cases h7 : sgFrom (sgOne (nums (s.extract 0 8))) 0 sig = -1
      · exact h7
      · rw [if_neg h7] at h9; cases h9)
    by_cases t1 : m = 0
    · have hr := HR0.out t1
      rw [hr, fiV_no]
      subst t1
      clear HR0 HXO hM hm0 hlen hlaid hr
      go_enter Tryd.func32, Tryd.ntmps32
      go_wp2
      refine bodyPost_ret (v := .tuple #[.int .i64 0, .bool false]) (by simp [results, Tryd.results32]) rfl ⟨rfl, HB.out⟩
    · have t2 : ¬ (s.size : Int) < 8 := by omega
      have hsl := sub_str s 0 8 (by omega) h8 (0 : Int) (8 : Int) rfl rfl
      have hsu := cut_upto s 8 h8 8 rfl
      have HC := Lib.hid (one_any (s.extract 0 8) w hlaid (by rw [extract_size _ _ _ h8]; omega))
      generalize s.extract 0 8 = p at *
      rw [show KSig.v (sgOne (nums p)) = .agg (KSig.cs (sgOne (nums p))).toArray from rfl] at HC
      have HM := Lib.hid (fun w1 (h9 : Below w.heap.size w w1) => (hM.below h9 hM.lt).look (t := 60) Tryd.underlying60 zeroInt HXO.out)
      rw [show mkSig.v (sgOne (nums p)) = .agg (KSig.cs (sgOne (nums p))).toArray from rfl] at HM
      have hsg : sgFrom (sgOne (nums p)) 0 sig = -1 ∨ ∃ q : Nat, sgFrom (sgOne (nums p)) 0 sig = (q : Int) := by
        rcases sgFrom_cases (sgOne (nums p)) sig 0 with ⟨h, _⟩ | ⟨i, _, h, _⟩
        · exact .inl h
        · exact .inr ⟨_, h⟩
      unfold sgBk at HM
      rw [List.drop_zero] at HM
      generalize sgFrom (sgOne (nums p)) 0 sig = r at *
      generalize (KSig.cs (sgOne (nums p))).toArray = E at *
      clear HXO hM hm0 hlen hlaid HR0
      rcases hsg with h | ⟨q, h⟩
      · subst h
        rw [fiV_no]
        have HM := Lib.hid (fun w1 (h9 : Below w.heap.size w w1) => show (Instr.lookup 60 (.map (some b)) (.agg E) true).run Tryd.prog w1 = .ok (.tuple #[.int .i64 0, .bool false]) w1 from HM.out w1 h9)
        go_enter Tryd.func32, Tryd.ntmps32
        go_wp2_with fail
        refine HC.out.mono ?_
        rintro e w1 ⟨rfl, hb⟩
        have lk := HM.out _ hb
        have B1 := Lib.hid hb
        clear hb
        go_wp2
        refine bodyPost_ret (v := .tuple #[.int .i64 0, .bool false]) (by simp [results, Tryd.results32]) rfl ⟨rfl, B1.out⟩
      · subst h
        rw [fiV_yes]
        have HM := Lib.hid (fun w1 (h9 : Below w.heap.size w w1) => show (Instr.lookup 60 (.map (some b)) (.agg E) true).run Tryd.prog w1 = .ok (.tuple #[.int .i64 (q : Int), .bool true]) w1 from by
          have h7 := HM.out w1 h9
          rw [if_neg (by omega : ¬ (q : Int) = -1)] at h7
          exact h7)
        go_enter Tryd.func32, Tryd.ntmps32
        go_wp2_with fail
        refine HC.out.mono ?_
        rintro e w1 ⟨rfl, hb⟩
        have lk := HM.out _ hb
        have B1 := Lib.hid hb
        clear hb
        go_wp2
        refine bodyPost_ret (v := .tuple #[.int .i64 (q : Int), .bool true]) (by simp [results, Tryd.results32]) rfl ⟨rfl, B1.out⟩
  · rw [if_neg h8, fiV_no]
    have t2 : (s.size : Int) < 8 := by omega
    clear hM hm0 hlen hlaid
    by_cases t1 : m = 0
    · subst t1
      go_enter Tryd.func32, Tryd.ntmps32
      go_wp2
      refine bodyPost_ret (v := .tuple #[.int .i64 0, .bool false]) (by simp [results, Tryd.results32]) rfl ⟨rfl, HB.out⟩
    · go_enter Tryd.func32, Tryd.ntmps32
      go_wp2
      refine bodyPost_ret (v := .tuple #[.int .i64 0, .bool false]) (by simp [results, Tryd.results32]) rfl ⟨rfl, HB.out⟩
end Go.Proofs.YtnencoainacpoaaDoor

end
section
/-
  What the program's own Make of pieces answers. Nothing that was there is written.
-/
namespace Go.Proofs.YtnencoainacpoaaDoor
open Go.RowKit WM
set_option linter.unusedVariables false
set_option maxRecDepth 100000
theorem arr_fun11 (T : Array Value) {n : Nat} (h : T.size = n) : T = ((List.range n).map (fun i => T.getD i undef)).toArray := by
  apply Array.ext
  · simp [h]
  · intro i h1 h2
    simp [Array.getD, h1]
theorem lit43 (T : Array Value) (h : T.size = 43) : ∃ u : Nat → Value, T = #[u 0, u 1, u 2, u 3, u 4, u 5, u 6, u 7, u 8, u 9, u 10, u 11, u 12, u 13, u 14, u 15, u 16, u 17, u 18, u 19, u 20, u 21, u 22, u 23, u 24, u 25, u 26, u 27, u 28, u 29, u 30, u 31, u 32, u 33, u 34, u 35, u 36, u 37, u 38, u 39, u 40, u 41, u 42] := ⟨fun i => T.getD i undef, arr_fun11 T h⟩
theorem ext_ext11 (s : ByteArray) {a i j : Nat} (hij : a + j ≤ s.size) : (s.extract a s.size).extract i j = s.extract (a + i) (a + j) := by
  apply ba_eq
  rw [nums_extract, nums_extract, nums_extract, List.drop_take, List.drop_drop, List.take_take]
  congr 1
  omega
theorem pfind_neg11 {sig : List Sg} {s : ByteArray} {a : Nat} (hfd : ¬ 0 ≤ pfind sig s a) : pfind sig s a = -1 := by
  have h := hfd
  unfold pfind at h ⊢
  split
  · rename_i h9
    rw [if_pos h9] at h
    unfold sgFind at h ⊢
    split
    · rename_i h10
      rw [if_pos h10] at h
      rcases sgFrom_cases (sgOne (nums (s.extract a (a + 8)))) sig 0 with ⟨h2, _⟩ | ⟨i, h2, h3, _⟩
      · exact h2
      · rw [h3] at h; exact absurd (by omega) h
    · rfl
  · rfl
/-- What find is asked for, from place a on. -/
theorem fi_pfind {sig : List Sg} {s : ByteArray} {a : Nat} (ha : a ≤ s.size) : (if 8 ≤ (s.extract a s.size).size then sgFrom (sgOne (nums ((s.extract a s.size).extract 0 8))) 0 sig else -1) = pfind sig s a := by
  rw [extract_size _ _ _ (Nat.le_refl _)]
  unfold pfind
  by_cases h : a + 8 ≤ s.size
  · rw [if_pos (by omega), if_pos h, ext_ext11 s h, Nat.add_zero]
    unfold sgFind
    rw [if_pos (by rw [nums_len, extract_size _ _ _ h]; omega)]
  · rw [if_neg (by omega), if_neg h]
theorem build_c11 (f : Int) (w : World) : (Instr.build 44 #[(0, .bool true), (1, .int .i64 f), (2, .int .i64 8)]).run Tryd.prog w = .ok (.agg #[.bool true, .int .i64 f, .int .i64 8, .string ⟨#[]⟩]) w := run_build w _ _ _ (by kernel_rfl)
theorem build_t11 (f : Int) (w : World) : (Instr.build 44 #[(1, .int .i64 f), (2, .int .i64 1)]).run Tryd.prog w = .ok (.agg #[.bool false, .int .i64 f, .int .i64 1, .string ⟨#[]⟩]) w := run_build w _ _ _ (by kernel_rfl)
/-- What holds at a label. -/
structure MkSt (w : World) (gB base mb : Nat) (sig : List Sg) (M : Nat) (s : ByteArray) (V : List Pc) (a : Nat) (G : List Pc) (X : World) : Prop where
  gat : GatAt X gB base G
  gi : GI M a G
  map : ∃ n, GMs mkSig X mb n (sgBk sig 0) (.int .i64 0)
  below : Below w.heap.size w X
  base : base ≤ X.heap.size
  val : V = pmk sig s a (tl s G)
section
variable {w X Y : World} {gB base mb M a : Nat} {sig : List Sg} {s : ByteArray} {V G : List Pc}
theorem MkSt.go (h : MkSt w gB base mb sig M s V a G X) (hb : Below X.heap.size X Y) : MkSt w gB base mb sig M s V a G Y := by
  obtain ⟨lv, h1, h2⟩ := h.gat
  obtain ⟨n, h3⟩ := h.map
  exact ⟨⟨lv, (hb.block _ (Array.getElem?_eq_some_iff.1 h1).1).trans h1, own_below h2 hb⟩, h.gi, ⟨n, h3.below hb h3.lt⟩, h.below.trans (hb.mono h.below.size), Nat.le_trans h.base hb.size, h.val⟩
theorem MkSt.add (h : MkSt w gB base mb sig M s V a G X) {b : Nat} {G' : List Pc} (hk : KeepG gB base X Y) (hg : GatAt Y gB base G') (hi : GI M b G') (hv : V = pmk sig s b (tl s G')) (hgb : w.heap.size ≤ gB) (hm : mb < base) (hmg : mb ≠ gB) : MkSt w gB base mb sig M s V b G' Y := by
  obtain ⟨n, h3⟩ := h.map
  exact ⟨hg, hi, ⟨n, h3.same (hk.2 mb hm hmg)⟩, h.below.trans (hk.1.mono hgb), Nat.le_trans h.base hk.1.size, hv⟩
end
theorem wf64_11 {n : Int} (h0 : 0 ≤ n) (h1 : n ≤ 100000000) : (Lit.int .i64 n).wf = true := by
  simp [Lit.wf, IntKind.min, IntKind.max, IntKind.bits, IntKind.signed]
  omega
theorem own_low11 {w : World} {base base' size n : Nat} {e : TypeId} {v : Value} {xs : List Value} (h : w.ownsRow base' e size v n xs) (hb : base ≤ base') : w.ownsRow base e size v n xs := by
  refine ⟨h.1, ?_⟩
  rcases h.2 with h2 | ⟨g, cap, cur, h2, h3, h4⟩
  · exact .inl h2
  · exact .inr ⟨g, cap, cur, h2, Nat.le_trans hb h3, h4⟩
set_option maxHeartbeats 16000000 in
theorem make11_any (A : Option Addr) (c : Nat) (sig : List Sg) (s : ByteArray) (w : World) (hlaid : Laid w) (h1 : KSig.row w A c sig) (hl : sig.length ≤ 1000000) (hs : s.size ≤ 50000) : Calls Tryd.prog 16 #[.slice A sig.length c, .string s] w (KPost KPc w (pmake sig s)) := by
  obtain ⟨gB, hgB⟩ : ∃ gB, gB = w.heap.size := ⟨_, rfl⟩
  obtain ⟨N, hN⟩ : ∃ N, N = s.size := ⟨_, rfl⟩
  have HSZ := Lib.hid hN.symm
  obtain ⟨M, hM⟩ : ∃ M, M = sig.length := ⟨_, rfl⟩
  have HM := Lib.hid hM
  have hM6 : M ≤ 1000000 := by omega
  obtain ⟨w1, hw1⟩ : ∃ w1, w1 = w.alloc (.cells #[.slice none 0 0, .pointer none] 57) := ⟨_, rfl⟩
  have hb1 : Below w.heap.size w w1 := by rw [hw1]; exact (Below.refl _ _).alloc (Nat.le_refl _) _
  have B1 := Lib.hid hb1
  have G1 := Lib.hid (show w1.heap[gB]? = some (.cells #[.slice none 0 0, lastP (.slice none 0 0)] 57) by rw [hw1, hgB]; exact heap_alloc_new w _)
  have HLA := Lib.hid (fun X (hX : Below w.heap.size w X) => hlaid.below hX (Nat.le_refl _))
  have HPL := Lib.hid (placesOf_any A c sig w1 (Kind.row_below h1 hb1 (Nat.le_refl _)) hl)
  have HFI := Lib.hid (fun (a : Nat) (ha : a ≤ N) (X : World) (b n : Nat) (hX : Laid X) (hm : GMs mkSig X b n (sgBk sig 0) (.int .i64 0)) => by
    have h := find11_any b n sig (s.extract a s.size) X hX hm (by rw [extract_size _ _ _ (Nat.le_refl _)]; omega)
    rw [fi_pfind (by omega)] at h
    exact h)
  have HCF := Lib.hid (fun (a : Nat) (ha : a ≤ N) => cut_from s a (by omega) (a : Int) rfl)
  have HRG := Lib.hid (fun a h => pfind_range (sig := sig) (s := s) (a := a) (M := M) (by omega) h)
  have HVE := Lib.hid (show ∀ out, pmake sig s = out → ∀ v w', w'.ownsRow w.heap.size 44 KPc.n v out.length (out.flatMap KPc.cs) → (∀ p ∈ out, p.Ok) → Below w.heap.size w w' → KPost KPc w (pmake sig s) (.returned v) w' from fun out ho v w' h2 h3 h4 => by rw [ho]; exact kpost_own (K := KPc) h2 h3 h4)
  have HV0 := Lib.hid (show pmake sig s = pmk sig s 0 [] from rfl)
  generalize KPost KPc w (pmake sig s) = RR at *
  generalize pmake sig s = V at *
  have hzg : ∀ w, (zeroValue 57).run Tryd.prog w = .ok (.agg #[.slice none 0 0, .pointer none]) w := Tryd.zeroValue57
  have hs1 : w1.heap.size = gB + 1 := by rw [hw1, World.size_alloc, hgB]
  have HS1 := Lib.hid hs1
  have HGB := Lib.hid hgB
  generalize hm : sig.length = m at *
  clear h1 hlaid hb1 hs1
  go_enter Tryd.func16, Tryd.ntmps16
  have HW1 := Lib.hid hw1
  clear hw1 hgB hM
  have hN5 : N ≤ 50000 := by omega
  go_wp2
  refine wp_scope_2 0 1 (fun l a' w' => a'.defers = [] ∧ a'.tmps.size = 43 ∧ ∃ (a : Nat) (G : List Pc) (mb base : Nat), (mb < base ∧ mb ≠ gB ∧ gB < base) ∧ a ≤ N ∧ a'.tmps.getD 0 undef = .slice A m c ∧ a'.tmps.getD 1 undef = .string s ∧ a'.tmps.getD 5 undef = .pointer (some ⟨gB, 0, none⟩) ∧ a'.tmps.getD 6 undef = .func (.func 29) #[.pointer (some ⟨gB, 0, none⟩)] #[] ∧ a'.tmps.getD 7 undef = .map (some mb) ∧ a'.tmps.getD 8 undef = .int .i64 (a : Int) ∧ MkSt w gB base mb sig M s V a G w' ∧ (l = 1 → a < N ∧ pfind sig s a < 0)) (fun l a' _ => 2 * (N - (intOf (a'.tmps.getD 8 undef)).toNat) + (if l = 0 then 1 else 0)) rfl rfl (by decide) ?_ ?_ ?_
  · rintro ⟨T, D⟩ WW ⟨hD, hsz, a, G, mb, base, hmbb, ha, h0, h1, h5, h6, h7, h8, hst, hl1⟩
    obtain ⟨u, rfl⟩ := lit43 T hsz
    obtain rfl : D = [] := hD
    replace h0 : u 0 = .slice A m c := h0
    replace h1 : u 1 = .string s := h1
    replace h5 : u 5 = .pointer (some ⟨gB, 0, none⟩) := h5
    replace h6 : u 6 = .func (.func 29) #[.pointer (some ⟨gB, 0, none⟩)] #[] := h6
    replace h7 : u 7 = .map (some mb) := h7
    replace h8 : u 8 = .int .i64 (a : Int) := h8
    rw [h0, h1, h5, h6, h7, h8]
    clear h0 h1 h5 h6 h7 h8 hsz
    have ST := Lib.hid hst
    have HMB := Lib.hid hmbb
    clear hmbb
    clear hl1
    have hgl := hst.gi.len
    have hge := hst.gi.each
    by_cases hlt : a = N
    · have hto := told_any gB base G s WW hst.gat HMB.out.2.2 hst.base (by omega) (by omega) (fun p hp hc => by
        obtain ⟨_, e1, _, e3, _, e5⟩ := hge p hp
        have := e5 hc
        have := HSZ.out
        exact ⟨e1, e3, by omega⟩)
      unfold ToldPost at hto
      have HTO := Lib.hid hto
      clear hto
      have HVV := Lib.hid (show V = tl s G by rw [hst.val, hlt, pmk_end (by rw [HSZ.out]; exact Nat.le_refl _)])
      have HOK : Hid (∀ p ∈ tl s G, p.Ok) := Lib.hid (fun p hp => by
        obtain ⟨x, hx, rfl⟩ := List.mem_map.1 hp
        obtain ⟨e0, e1, e2, e3, e4, _⟩ := hge x hx
        cases hc : x.cp
        · rw [tlp_text hc]
          refine ⟨show (Lit.int .i64 0).wf = true by decide, show (Lit.int .i64 0).wf = true by decide, ?_⟩
          show (s.extract x.fr.toNat (x.fr + x.ln).toNat).size ≤ maxLen
          have hq : (s.extract x.fr.toNat (x.fr + x.ln).toNat).size ≤ s.size := by rw [ByteArray.size_extract]; omega
          simp only [maxLen]; omega
        · rw [tlp_copy hc]
          exact ⟨wf64_11 e1 (by omega), wf64_11 e3 (by omega), by rw [e0]; decide⟩)
      clear hst hgl hge hN
      subst hlt
      have hsz9 := HSZ.out
      go_wp2_with fail
      refine HTO.out.mono ?_
      rintro e w3 ⟨v, rfl, ho, hk⟩
      have FIN := Lib.hid (HVE.out _ HVV.out v w3 (own_low11 ho (by have := HMB.out.2.2; have := HGB.out; omega)) HOK.out (ST.out.below.trans (hk.1.mono (by have := HGB.out; omega))))
      clear ho hk
      go_wp2
      first | exact FIN.out | (go_ret; exact FIN.out) | (refine bodyPost_ret (v := v) (by simp [results, Tryd.results16]) rfl FIN.out)
    · have t1 : ¬ (a : Int) = (N : Int) := by omega
      have hsz9 := HSZ.out
      obtain ⟨n3, hm3⟩ := hst.map
      have HF := Lib.hid (HFI.out a ha WW mb n3 (HLA.out WW hst.below) hm3)
      have hcf := HCF.out a ha
      by_cases hfd : 0 ≤ pfind sig s a
      · obtain ⟨ha8, q, hq, hqm, hqM⟩ := HRG.out a hfd
        have HVV := Lib.hid (show V = pmk sig s (a + 8) (tl s (padd G (aCopy (q : Int)))) by rw [hst.val, pmk_copy (by omega) hfd, hq, tl_copy])
        have HGI := Lib.hid (hst.gi.copy (q := (q : Int)) (by omega) (by omega))
        rw [hq, fiV_yes] at HF
        have f8 : IntKind.i64.wrap (8 * (q : Int)) = 8 * (q : Int) := IntWalk.i64_in _ (by omega)
        have f9 : IntKind.i64.wrap ((a : Int) + 8) = (a : Int) + 8 := IntWalk.i64_in _ (by omega)
        have HAD := Lib.hid (fun X (hX : MkSt w gB base mb sig M s V a G X) => add_any gB base G (aCopy (q : Int)) X hX.gat HMB.out.2.2 hX.base (by omega) (fun p hp => by
          obtain ⟨_, e1, e2, e3, e4, _⟩ := hge p hp
          exact ⟨e1, by omega, e3, by omega⟩) (by simp only [aCopy]; omega))
        unfold AddPost at HAD
        simp only [pc_v] at HAD
        have HBD := Lib.hid (build_c11 (8 * (q : Int)))
        change Hid (∀ X, MkSt w gB base mb sig M s V a G X → Calls Tryd.prog 29 #[.pointer (some ⟨gB, 0, none⟩), .agg #[.bool true, .int .i64 (8 * (q : Int)), .int .i64 8, .string ⟨#[]⟩]] X _) at HAD
        have ha8' : a + 8 ≤ N := by omega
        clear hst hgl hge hm3 hfd hq hN
        generalize s.extract a s.size = sx at *
        go_wp2_with fail
        refine HF.out.mono ?_
        rintro e w3 ⟨rfl, hb3⟩
        have S3 := Lib.hid (ST.out.go hb3)
        clear hb3
        go_wp2_with ((with_reducible refine wpList_build_at (o := ⟨some 33, .build 44 #[(0, .const (.bool true)), (1, .tmp 32), (2, .const (.int .i64 8))], _, _, _, _⟩) ?e1 44 #[(0, .const (.bool true)), (1, .tmp 32), (2, .const (.int .i64 8))] ?e2 #[(0, .bool true), (1, .int .i64 (8 * (q : Int))), (2, .int .i64 8)] ?e3 _ (HBD.out _) ?_); (case e1 => rfl); (case e2 => rfl); (case e3 => (simp only [List.map_toArray, List.map_cons, List.map_nil]; rfl)))
        refine (HAD.out _ S3.out).mono ?_
        rintro e w4 ⟨rfl, hg4, hk4⟩
        have S4 := Lib.hid (S3.out.add hk4 hg4 HGI.out HVV.out (by have := HGB.out; omega) HMB.out.1 HMB.out.2.1)
        clear hg4 hk4
        go_wp2
        go_step3
        refine ⟨by simp, ⟨rfl, rfl, (a + 8), (padd G (aCopy (q : Int))), mb, base, HMB.out, by omega, rfl, rfl, rfl, rfl, rfl, by go_num, S4.out, fun h => absurd h (by decide)⟩, ?_⟩
        simp [intOf]
        try omega
      · have hq := pfind_neg11 hfd
        rw [hq, fiV_no] at HF
        have hlt2 : a < N := by omega
        have HFD := Lib.hid hfd
        clear hst hgl hge hm3 hfd hq hN
        generalize s.extract a s.size = sx at *
        go_wp2_with fail
        refine HF.out.mono ?_
        rintro e w3 ⟨rfl, hb3⟩
        have S3 := Lib.hid (ST.out.go hb3)
        clear hb3
        go_wp2
        go_step3
        refine ⟨by simp, ⟨rfl, rfl, a, G, mb, base, HMB.out, by omega, rfl, rfl, rfl, rfl, rfl, rfl, S3.out, fun _ => ⟨hlt2, by have := HFD.out; omega⟩⟩, ?_⟩
        simp [intOf]
        try omega
  · rintro ⟨T, D⟩ WW ⟨hD, hsz, a, G, mb, base, hmbb, ha, h0, h1, h5, h6, h7, h8, hst, hl1⟩
    obtain ⟨u, rfl⟩ := lit43 T hsz
    obtain rfl : D = [] := hD
    replace h0 : u 0 = .slice A m c := h0
    replace h1 : u 1 = .string s := h1
    replace h5 : u 5 = .pointer (some ⟨gB, 0, none⟩) := h5
    replace h6 : u 6 = .func (.func 29) #[.pointer (some ⟨gB, 0, none⟩)] #[] := h6
    replace h7 : u 7 = .map (some mb) := h7
    replace h8 : u 8 = .int .i64 (a : Int) := h8
    rw [h0, h1, h5, h6, h7, h8]
    clear h0 h1 h5 h6 h7 h8 hsz
    have ST := Lib.hid hst
    have HMB := Lib.hid hmbb
    clear hmbb
    obtain ⟨hlt, hfd0⟩ := hl1 rfl
    have hfd : ¬ 0 ≤ pfind sig s a := by omega
    have hge := hst.gi.each
    have hgl := hst.gi.len
    have HVV := Lib.hid (show V = pmk sig s (a + 1) (tl s (padd G (aText a))) by rw [hst.val, pmk_text (by rw [HSZ.out]; exact hlt) hfd, tl_text hst.gi (by rw [HSZ.out]; omega)])
    have HGI := Lib.hid hst.gi.text
    have f9 : IntKind.i64.wrap ((a : Int) + 1) = (a : Int) + 1 := IntWalk.i64_in _ (by omega)
    have HAD := Lib.hid (add_any gB base G (aText a) WW hst.gat HMB.out.2.2 hst.base (by omega) (fun p hp => by
      obtain ⟨_, e1, e2, e3, e4, _⟩ := hge p hp
      exact ⟨e1, by omega, e3, by omega⟩) (by simp only [aText]; omega))
    unfold AddPost at HAD
    simp only [pc_v] at HAD
    have HBD := Lib.hid (build_t11 (a : Int))
    change Hid (Calls Tryd.prog 29 #[.pointer (some ⟨gB, 0, none⟩), .agg #[.bool false, .int .i64 (a : Int), .int .i64 1, .string ⟨#[]⟩]] WW _) at HAD
    clear hst hgl hge hfd hfd0 hl1 hN
    go_wp2_with ((with_reducible refine wpList_build_at (o := ⟨some 39, .build 44 #[(1, .tmp 38), (2, .const (.int .i64 1))], _, _, _, _⟩) ?e1 44 #[(1, .tmp 38), (2, .const (.int .i64 1))] ?e2 #[(1, .int .i64 (a : Int)), (2, .int .i64 1)] ?e3 _ (HBD.out _) ?_); (case e1 => rfl); (case e2 => rfl); (case e3 => (simp only [List.map_toArray, List.map_cons, List.map_nil]; rfl)))
    refine HAD.out.mono ?_
    rintro e w4 ⟨rfl, hg4, hk4⟩
    have S4 := Lib.hid (ST.out.add hk4 hg4 HGI.out HVV.out (by have := HGB.out; omega) HMB.out.1 HMB.out.2.1)
    clear hg4 hk4
    go_wp2
    go_step3
    refine ⟨by simp, ⟨rfl, rfl, (a + 1), (padd G (aText a)), mb, base, HMB.out, by omega, rfl, rfl, rfl, rfl, rfl, by go_num, S4.out, fun h => absurd h (by decide)⟩, ?_⟩
    simp [intOf]
    try omega
  · intro k0 k1
    have hw1 := HW1.out
    clear hN
    go_wp2_with fail
    rw [← hw1, ← HGB.out]
    clear hw1
    refine HPL.out.mono ?_
    rintro e w2 ⟨mb, n2, rfl, hm2, hb2, hmb⟩
    obtain ⟨base, hbase⟩ : ∃ base, base = w2.heap.size := ⟨_, rfl⟩
    have hmlt := hm2.lt
    have hmg := HS1.out
    have HMB := Lib.hid (show mb < base ∧ mb ≠ gB ∧ gB < base from ⟨by omega, by omega, by omega⟩)
    have ST0 : Hid (MkSt w gB base mb sig M s V 0 [] w2) := Lib.hid ⟨⟨.slice none 0 0, (hb2.block _ (by omega)).trans G1.out, World.ownsRow_nil _ _ _ _⟩, GI.nil M, ⟨n2, hm2⟩, B1.out.trans (hb2.mono B1.out.size), by rw [hbase]; exact Nat.le_refl _, HV0.out⟩
    clear hm2 hb2 hmb hbase hmlt hmg
    go_wp2
    go_step3
    rename_i K9 hK9
    refine hK9 _ _ ?_
    refine k0 _ _ ?_
    exact ⟨rfl, rfl, 0, [], mb, base, HMB.out, Nat.zero_le _, rfl, rfl, rfl, rfl, rfl, rfl, ST0.out, fun h => absurd h (by decide)⟩
end Go.Proofs.YtnencoainacpoaaDoor

end
