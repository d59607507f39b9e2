import Derived.Test.YtkjimhlpbgeagaaGreatDoorF0
import Derived.Test.YtkjimhlpbgeagaaGreatDoorF26
import Derived.RangeFuncNested
import Derived.RangeFuncBound
import Derived.RangeFuncCalls
import Derived.RangeFuncLeaves
import Derived.RangeFuncBox
import Derived.Shelf.Abstract
import Derived.Shelf.RegionOpen
import Derived.WalkKit
import Derived.OwnWalkIn
import Derived.TacticsInMore
import Derived.LoopNIn
import Derived.LoopIn
/-
  What the functions that a law of this layer reaches answer, part 27. Nothing that was there is written.
-/
namespace Go.Proofs.YtkjimhlpbgeagaaGreatDoor
set_option linter.unusedVariables false
set_option linter.unusedSimpArgs false
section
open Go.RowKit Go.Shelf WM
set_option maxRecDepth 100000
attribute [local go_sem] Oper.semAt_some
theorem wpListIn_build_atM {F : Fence} {n : Nat} {P : Program} {ops : Array Oper} {rest : List Oper} {o : Oper} {a : Act} {w : World} {Q : Exit → Act → World → Prop} (hgd : o.guard = none) (t : TypeId) (parts : Array (Nat × Operand)) (hop : o.op = .build t parts) (ps : Array (Nat × Value)) (hp : parts.map (fun x => (x.1, a.eval x.2)) = ps) (v : Value) (hv : (Instr.build t ps).run P w = .ok v w)
  (hK : wpListIn F n P ops Q rest (a.put o.dst v) w) : wpListIn F n P ops Q (o :: rest) a w := by
 refine wpListIn_plain hgd fun K' hK' => ?_
 unfold Oper.wpIn
 refine ⟨by simp [Oper.about, hop], ?_⟩
 rw [Oper.semAt_plain F _ _ (by rw [hop]; intro c hc'; cases hc')]
 rw [exec_build_at t parts hop ps hp hv]
 exact hK' _ _ hK
theorem wpListIn_lookup_G {F : Fence} {nF : Nat} {P : Program} {α : Type} {K : MKey P α} {w : World} {b n : Nat} {f : α → Option Value} {z : Value} {ops : Array Oper} {rest : List Oper} {o : Oper} {a : Act} {Q : Exit → Act → World → Prop} (hgd : o.guard = none) (t : TypeId) (m x : Operand) (hop : o.op = Op.lookup t m x true)
  {e : TypeId} (ht : P.underlying t = some (.map K.t e)) (hz : ∀ w, (zeroValue e).run P w = .ok z w) (k : α) (hm : a.eval m = .map (some b)) (hx : a.eval x = K.v k) (h : GMs K w b n f z) (hk : K.ok k) {d : Value} {i : Bool} (hd : (f k).getD z = d) (hi : (f k).isSome = i)
  (hK : wpListIn F nF P ops Q rest (a.put o.dst (.tuple #[d, .bool i])) w) : wpListIn F nF P ops Q (o :: rest) a w := by
 subst hd hi
 refine wpListIn_plain hgd fun K' hK' => ?_
 have hrun := h.look ht hz hk
 unfold Oper.wpIn
 refine ⟨by simp [Oper.about, hop], ?_⟩
 rw [Oper.semAt_plain F _ _ (by rw [hop]; intro c hc'; cases hc')]
 simp [execOp, hop, hm, hx, hrun, Result.andThen]
 exact hK' _ _ hK
theorem KeepsFrom.ofBelowM {W W' : World} {B : Nat} (h : Below W.heap.size W W') : KeepsFrom B W W' := ⟨h.size, fun k o _ hk _ => (h.block k (Array.getElem?_eq_some_iff.1 hk).1).trans hk⟩
def PlcP (w : World) (L : List (List Int × EnA)) (e : Ending) (w' : World) : Prop := ∃ b n, e = .returned (.map (some b)) ∧ GMs mkDk w' b n (fE L) plZ ∧ Below w.heap.size w w'
def PJ12 (w : World) (n0 mb g Bx : Nat) (m : MnA) (pre : List IE) (W : World) : Prop :=
 GMs mkDk W mb pre.length (fE (pre.map IE.p)) plZ ∧ W.heap[g]? = some (.cells #[.map (some mb)] 78) ∧ MnAt W Bx m ∧ Below w.heap.size w W ∧ n0 ≤ W.heap.size
theorem cells_turnedM {W W' : World} {b : Nat} {cs : Array Value} {t : TypeId} {row : Option Nat} (h : W.heap[b]? = some (.cells cs t)) (hg : W.grownBy W' row) (hr : ∀ r, row = some r → ∃ o : Obj, W.heap[r]? = some o ∧ o.isCells = false) : W'.heap[b]? = some (.cells cs t) :=
 (hg.block b (Array.getElem?_eq_some_iff.1 h).1 (fun e => by
  obtain ⟨o, ho, hc⟩ := hr b e.symm
  rw [h] at ho
  cases ho
  cases hc)).trans h
theorem PJ12_own {w : World} {n0 mb g Bx B : Nat} {m : MnA} (hB : w.heap.size ≤ B) (hm : mb < B) : OwnFrom B (PJ12 w n0 mb g Bx m) := by
 rintro s X Y row ⟨h1, h2, h3, h4, h5⟩ hg hr
 have hr' : ∀ r, row = some r → ∃ o : Obj, X.heap[r]? = some o ∧ o.isCells = false := fun r e => (hr r e).2
 exact ⟨h1.same (hg.block mb h1.lt (fun e => by have := (hr mb e.symm).1; omega)), cells_turnedM h2 hg hr', cells_turnedM h3 hg hr', ownFrom_below (β := Unit) (Nat.le_refl _) hB () X Y row h4 hg hr, Nat.le_trans h5 hg.size⟩
theorem PJ12.below {w W W' : World} {n0 mb g Bx : Nat} {m : MnA} {pre : List IE} (h : PJ12 w n0 mb g Bx m pre W) (hb : Below W.heap.size W W') : PJ12 w n0 mb g Bx m pre W' := by
 obtain ⟨h1, h2, h3, h4, h5⟩ := h
 exact ⟨h1.below hb h1.lt, (hb.block _ (Array.getElem?_eq_some_iff.1 h2).1).trans h2, h3.below hb h3.lt, h4.trans (hb.mono h4.size), Nat.le_trans h5 hb.size⟩
theorem GMs.not_cells {P : Program} {α : Type} {K : MKey P α} {w : World} {b n : Nat} {f : α → Option Value} {z : Value} (h : GMs K w b n f z) : ∀ c t fr, w.heap[b]? ≠ some (.cells c t fr) := by
 obtain ⟨D, ⟨es, clock, hh, r⟩, h2⟩ := h
 intro c t fr e
 rw [hh] at e
 cases e
theorem PJ12.put {w W W' : World} {n0 mb g Bx : Nat} {m : MnA} {pre : List IE} (x : IE) (h : PJ12 w n0 mb g Bx m pre W) (hm : w.heap.size ≤ mb) (hgm : g ≠ mb) (hbm : Bx ≠ mb) (hf : fE (pre.map IE.p) (ieK x.p) = none)
  (h1 : GMs mkDk W' mb (pre.length + 1) (fput (fE (pre.map IE.p)) (ieK x.p) (plV (iePl x.p))) plZ) (hg : W.grownBy W' (some mb)) : PJ12 w n0 mb g Bx m (pre ++ [x]) W' := by
 obtain ⟨_, h2, h3, h4, h5⟩ := h
 refine ⟨?_, (hg.block _ (Array.getElem?_eq_some_iff.1 h2).1 (fun e => hgm (Option.some.inj e))).trans h2, (hg.block _ h3.lt (fun e => hbm (Option.some.inj e))).trans h3, h4.grown hg h4.size (fun k e => by rw [← Option.some.inj e]; exact hm), Nat.le_trans h5 hg.size⟩
 rw [List.length_append, List.map_append, List.map_singleton, fE_snoc, if_neg (by rw [hf]; simp)]
 exact h1
theorem PJ12.keep {w W : World} {n0 mb g Bx : Nat} {m : MnA} {pre : List IE} (x : IE) (h : PJ12 w n0 mb g Bx m pre W) (hf : (fE (pre.map IE.p) (ieK x.p)).isSome = true) : PJ12 w n0 mb g Bx m (pre ++ [x]) W := by
 obtain ⟨h1, h2, h3, h4, h5⟩ := h
 refine ⟨?_, h2, h3, h4, h5⟩
 rw [List.length_append, List.map_append, List.map_singleton, fE_snoc, if_pos hf]
 exact h1.more (Nat.le_add_right _ _)
theorem built_dk {d : List Int} (h : d.length = 32) (n : Int) : Tryz.prog.built 81 [(0, .agg (bvals d)), (1, .int .i64 n)] = some (Dk.cs (d, n)).toArray := by
 obtain ⟨a0, a1, a2, a3, a4, a5, a6, a7, a8, a9, a10, a11, a12, a13, a14, a15, a16, a17, a18, a19, a20, a21, a22, a23, a24, a25, a26, a27, a28, a29, a30, a31, rfl⟩ := list32 h
 kernel_rfl
theorem build_dk {k : Dk} (h : k.1.length = 32) (w : World) : (Instr.build 81 #[(0, .agg (bvals k.1)), (1, .int .i64 k.2)]).run Tryz.prog w = .ok (.agg (Dk.cs k).toArray) w := run_build w _ _ _ (built_dk h k.2)
theorem built_pl {z : List Int} (h : z.length = 16) (n : Int) : Tryz.prog.built 76 [(0, .agg (bvals z)), (1, .int .i64 n)] = some (plC z n).toArray := by
 obtain ⟨a, b, c, d, e, f, g, i, j, k, l, m, n', o, p, q, rfl⟩ := list16 h
 kernel_rfl
theorem build_pl {z : List Int} (h : z.length = 16) (n : Int) (w : World) : (Instr.build 76 #[(0, .agg (bvals z)), (1, .int .i64 n)]).run Tryz.prog w = .ok (.agg (plC z n).toArray) w := run_build w _ _ _ (built_pl h n)
theorem fE_val (pre : List IE) (k : Dk) : ∃ q : List Int × Int, (fE (pre.map IE.p) k).getD plZ = .agg (plC q.1 q.2).toArray ∧ q.1.length = 16 := by
 unfold fE
 cases h : (pre.map IE.p).find? fun x => decide (ieK x = k) with
 | none => exact ⟨(z16m, 0), rfl, rfl⟩
 | some y =>
  obtain ⟨x, _, rfl⟩ := List.mem_map.1 (List.mem_of_find?_eq_some h)
  exact ⟨(x.z, x.e.e.no), rfl, x.hz.1⟩
def dk0 : Dk := (z32m, 0)
theorem zeroDkM (w : World) : (zeroValue 81).run Tryz.prog w = .ok (.agg (Dk.cs dk0).toArray) w := (zero_of_info (show (Tryz.prog.info? 81).map (fun i => (i.zero, i.size)) = some (some (.agg (Dk.cs dk0).toArray), 33) by kernel_rfl)).1 w
theorem dk_size {k : Dk} (h : k.1.length = 32) : (Tryz.prog.info? 81).map (·.size) = some (Dk.cs k).toArray.size := by
 rw [List.size_toArray, show (Dk.cs k).length = 33 by simp [Dk.cs, h]]
 kernel_rfl
theorem dk_ones (k : Dk) : (Dk.cs k).toArray.all (·.oneCell') = true := by
 rw [Array.all_eq_true_iff_forall_mem]
 intro u hu
 simp only [Dk.cs, List.mem_toArray, List.mem_append, List.mem_cons, List.not_mem_nil, or_false] at hu
 rcases hu with hu | rfl
 ·exact byte_ones _ u hu
 ·rfl
theorem pl_size {z : List Int} (h : z.length = 16) (n : Int) : (Tryz.prog.info? 76).map (·.size) = some (plC z n).toArray.size := by
 rw [List.size_toArray, show (plC z n).length = 17 by simp [plC, h]]
 kernel_rfl
theorem pl_ones (z : List Int) (n : Int) : (plC z n).toArray.all (·.oneCell') = true := by
 rw [Array.all_eq_true_iff_forall_mem]
 intro u hu
 simp only [plC, List.mem_toArray, List.mem_append, List.mem_cons, List.not_mem_nil, or_false] at hu
 rcases hu with hu | rfl
 ·exact byte_ones _ u hu
 ·rfl
theorem Dk.one (k : Dk) (u : Value) (hu : u ∈ Dk.cs k) : u.oneCell' = true := by
 simp only [Dk.cs, List.mem_append, List.mem_cons, List.not_mem_nil, or_false] at hu
 rcases hu with hu | rfl
 ·exact byte_ones _ u hu
 ·rfl
def KDk : Kind Dk := { n := 33, pos := by decide, cs := Dk.cs, d := dk0, ok := fun _ k => k.1.length = 32, len := fun h => by simp [Dk.cs, h], one := Dk.one, below := fun h _ => h }
theorem load_dk {w : World} {b o : Nat} {k : Dk} (h : KDk.at w b o k) (hl : k.1.length = 32) : (loadVar 81 ⟨b, o, none⟩).run Tryz.prog w = .ok (.agg (Dk.cs k).toArray) w :=
 Kind.at_load (K := KDk) h (by show (Dk.cs k).length = 33; simp [Dk.cs, hl]) Tryz.underlying81 rfl (by kernel_rfl)
theorem id_size {z : List Int} (h : z.length = 16) : (Tryz.prog.info? 30).map (·.size) = some (bvals z).size := by
 rw [show (bvals z).size = 16 by simp [bvals, h]]
 exact infoIdM
theorem id_ones (z : List Int) : (bvals z).all (·.oneCell') = true := by
 rw [Array.all_eq_true_iff_forall_mem]
 intro u hu
 exact byte_ones z u (by simpa [bvals] using hu)
set_option maxHeartbeats 16000000 in
theorem mplaces_any (m : MnA) (w : World) (h1 : m.Ok w) (hl : (allE m.ls).length ≤ 1000000) : Calls Tryz.prog 25 #[m.v] w (PlcP w (allE m.ls)) := by
 obtain ⟨N, hN⟩ : ∃ N, N = (allE m.ls).length := ⟨_, rfl⟩
 have hmm := fun (w : World) => run_makeMap (P := Tryz.prog) 78 w
 have HFIN : Hid (∀ b n w', GMs mkDk w' b n (fE (allE m.ls)) plZ → Below w.heap.size w w' → PlcP w (allE m.ls) (.returned (.map (some b))) w') := Lib.hid (fun b n w' g1 g2 => ⟨b, n, rfl, g1, g2⟩)
 generalize PlcP w (allE m.ls) = RR at *
 -- the box of the manifest, the map, its variable
 have MA := MnAt.new w m
 obtain ⟨w0, hw0⟩ : ∃ w0, w0 = w.alloc (.cells m.cs.toArray 26) := ⟨_, rfl⟩
 have hs0 : w0.heap.size = w.heap.size + 1 := by rw [hw0, World.size_alloc]
 have B0 := Lib.hid (show Below w.heap.size w w0 by rw [hw0]; exact (Below.refl _ _).alloc (Nat.le_refl _) _)
 rw [← hw0] at MA
 obtain ⟨mb, hmb⟩ : ∃ mb, mb = w0.heap.size := ⟨_, rfl⟩
 have M0 := GMs.made mkDk w0 plZ
 obtain ⟨w1, hw1⟩ : ∃ w1, w1 = (w0.alloc (.map #[] 0)).alloc (.cells #[.map (some w0.heap.size)] 78) := ⟨_, rfl⟩
 have B01 := (show Below w0.heap.size w0 w1 by rw [hw1]; exact ((Below.refl w0.heap.size w0).alloc (Nat.le_refl _) (.map #[] 0)).alloc (by rw [World.size_alloc]; omega) _)
 have B1 := Lib.hid (B0.out.trans (B01.mono B0.out.size))
 have hs1 : w1.heap.size = mb + 2 := by rw [hw1, World.size_alloc, World.size_alloc, hmb]
 have G1 := Lib.hid (show w1.heap[mb + 1]? = some (.cells #[.map (some mb)] 78) by
  have := heap_alloc_new (w0.alloc (.map #[] 0)) (.cells #[.map (some w0.heap.size)] 78)
  rw [World.size_alloc, ← hw1, ← hmb] at this; exact this)
 have M1 := Lib.hid (show GMs mkDk w1 mb 0 (fun _ => none) plZ by
  rw [hw1, hmb]; exact M0.below ((Below.refl _ _).alloc (Nat.le_refl _) _) (by rw [World.size_alloc]; omega))
 have A1 := Lib.hid (MA.below B01 MA.lt)
 have h1' := MnA.below h1 (B1.out.mono (Nat.le_refl _))
 have LM := Lib.hid (load_mn A1.out h1')
 have HEN := Lib.hid (entries_any m w1)
 obtain ⟨w2, hw2⟩ : ∃ w2, w2 = w1.alloc (.cells m.cs.toArray 26) := ⟨_, rfl⟩
 have B12 : Below w1.heap.size w1 w2 := by rw [hw2]; exact (Below.refl _ _).alloc (Nat.le_refl _) _
 have B2 := Lib.hid (B1.out.trans (B12.mono B1.out.size))
 have hs2 : w2.heap.size = mb + 3 := by rw [hw2, World.size_alloc, hs1]
 have X2 := Lib.hid (show MnAt w2 (mb + 2) m by
  have := MnAt.new w1 m
  rw [hs1, ← hw2] at this; exact this)
 have G2 := Lib.hid ((B12.block _ (Array.getElem?_eq_some_iff.1 G1.out).1).trans G1.out)
 have M2 := Lib.hid (M1.out.below B12 M1.out.lt)
 rw [hs1, ← hw2] at HEN
 have HS2 := Lib.hid hs2
 have HMB := Lib.hid (show w.heap.size < mb by omega)
 have HST := Lib.hid (ent_stops 11 (by omega) (mb + 2) N m w w2 h1 hN.symm (KpC.below B2.out) X2.out)
 have J0 := Lib.hid (show PJ12 w (mb + 3) mb (mb + 1) (mb + 2) m [] w2 from ⟨M2.out, G2.out, X2.out, B2.out, by rw [hs2]; exact Nat.le_refl _⟩)
 have hze := zeroEn
 rw [show KEn.v enA0 = .agg (KEn.cs enA0).toArray from rfl] at hze
 have hzi := zeroIdM
 have hzd := zeroDkM
 have hzp := zeroPlace
 unfold plZ plV at hzp
 dsimp only at hzp
 have hzne1 : ¬ (KEn.cs enA0).toArray = #[] := by decide
 have hzne2 : ¬ (bvals z16m) = #[] := by decide
 have hzne3 : ¬ (Dk.cs dk0).toArray = #[] := by decide
 have hzne4 : ¬ (plC z16m 0).toArray = #[] := by decide
 have HN100 := Lib.hid (show N ≤ 1000000 by omega)
 have hv : m.v = .agg m.cs.toArray := rfl
 rw [hv] at LM HEN ⊢
 generalize hEM : m.cs.toArray = EM at *
 have hm1 : w.heap.size + 1 = mb := by omega
 have LMX := Lib.hid (show (loadVar 26 ⟨w.heap.size, 0, none⟩).run Tryz.prog (((w.alloc (.cells EM 26)).alloc (.map #[] 0)).alloc (.cells #[.map (some (w.heap.size + 1))] 78)) = .ok (.agg EM) (((w.alloc (.cells EM 26)).alloc (.map #[] 0)).alloc (.cells #[.map (some (w.heap.size + 1))] 78)) by
  have h := LM.out
  rw [hw1, hs0, hw0] at h
  exact h)
 have hlit : ((w.alloc (.cells EM 26)).alloc (.map #[] 0)).alloc (.cells #[.map (some mb)] 78) = w1 := by rw [hw1, ← hmb, hw0]
 have HM1 := Lib.hid hm1
 have HLIT := Lib.hid hlit
 have HW2 := Lib.hid hw2
 clear h1 h1' M0 hN hs2 hl B01 B12 MA hs0 hv hm1 hlit hw1 hw0 hmb hs1 hw2
 refine (callsIn_wide (n := 12)).1 ?_
 refine callsIn_of_wp_marks Tryz.func25 rfl trivial ?_ rfl
 simp only [Tryz.ntmps25, List.size_toArray, List.length_cons, List.length_nil, Nat.reduceAdd, Nat.reduceSub, Array.replicate_succ, Array.replicate_zero, List.push_toArray, List.append_toArray, List.nil_append, List.cons_append]
 refine wpIn_wide.2 ?_
 go_wp2_with (first | ((with_reducible refine wpList_load_at (o := ⟨some 10, .load 26 (.tmp 1), _, _, _, _⟩) ?e1 26 (.tmp 1) ?e2 ⟨w.heap.size, 0, none⟩ ?e3 _ LMX.out ?_); (case e1 => rfl); (case e2 => rfl); (case e3 => rfl)))
 rw [HM1.out, HLIT.out]
 refine HEN.out.mono ?_
 rintro e w3 ⟨rfl, hw3⟩
 subst hw3
 go_wp2_with fail
 refine (wpIn_wide (n := 12)).1 ?_
 refine wpIn_rangeFunc_ownH (F := Fence.wide) (n := 12) rfl (by omega) (gf := 57) (lb := #[.pointer (some ⟨mb + 2, 0, none⟩)]) rfl trivial (enters_of Tryz.func57 (by kernel_rfl) rfl)
  (HST.out)
  (fun h k => h.trans k)
  (fun W l o o' hl h hc _ => KpC.put h hc)
  (Below.refl _ _) (fun _ => rfl)
  (PJ12 w (mb + 3) mb (mb + 1) (mb + 2) m)
  (fun _ _ _ => False)
  (PJ12_own (by have := HS2.out; have := HMB.out; omega) (by have := HS2.out; omega))
  (fun _ _ _ _ _ hs _ _ => hs)
  J0.out
  (fun x a' W => ∃ Bi Be, mb + 3 ≤ Bi ∧ mb + 3 ≤ Be ∧ W.heap[Bi]? = some (.cells (bvals x.z) 30) ∧ W.heap[Be]? = some (.cells (KEn.cs x.e).toArray 46) ∧ a' = { tmps := #[Value.agg EM, .pointer (some ⟨w.heap.size, 0, none⟩), .map none, .pointer (some ⟨mb + 1, 0, none⟩), .pointer (some ⟨Bi, 0, none⟩), .pointer (some ⟨Be, 0, none⟩), undef, undef, undef, .map (some mb), .agg EM, .func (.func 57) #[] #[.pointer (some ⟨mb + 2, 0, none⟩)], .agg (bvals x.z), .agg (KEn.cs x.e).toArray, undef, undef, undef, undef, undef, undef, undef, undef, undef, undef, undef, undef, undef, undef, undef, undef, undef, undef, undef, undef], defers := [] })
  (fun x a' _ X Y row hs hg hr => by
   obtain ⟨Bi, Be, h1, h2, h3, h4, h5⟩ := hs
   exact ⟨Bi, Be, h1, h2, cells_turnedM h3 hg (fun r e => (hr r e).2), cells_turnedM h4 hg (fun r e => (hr r e).2), h5⟩)
  ?assign ?body ?done ?stop
 case assign =>
  rintro l pre x W K hI hK
  have hnW := hI.2.2.2.2
  have hxl : (KEn.cs x.e).length = 37 := by simp [KEn, EnA.cs, x.hk.1]
  have hba : Below W.heap.size W (W.alloc (.cells (bvals x.z) 30)) := (Below.refl _ _).alloc (Nat.le_refl _) _
  have hbb : Below W.heap.size W ((W.alloc (.cells (bvals x.z) 30)).alloc (.cells (KEn.cs x.e).toArray 46)) := hba.alloc hba.size _
  have hbi := (Below.heap_alloc (W.alloc (.cells (bvals x.z) 30)) (.cells (KEn.cs x.e).toArray 46) W.heap.size (by rw [World.size_alloc]; omega)).trans (heap_alloc_new W (.cells (bvals x.z) 30))
  have hbe := heap_alloc_new (W.alloc (.cells (bvals x.z) 30)) (.cells (KEn.cs x.e).toArray 46)
  rw [World.size_alloc] at hbe
  have hK2 := hK _ _ (KeepsFrom.ofBelowM hbb) (KpC.below hbb) (hI.below hbb) ⟨_, _, hnW, (by omega), hbi, hbe, rfl⟩
  have SZI := Lib.hid (id_size x.hz.1)
  have SQI := Lib.hid (show (bvals z16m).size = (bvals x.z).size by simp [bvals, x.hz.1, z16m])
  have SOI := Lib.hid (id_ones x.z)
  have SZE := Lib.hid (show (Tryz.prog.info? 46).map (·.size) = some (KEn.cs x.e).toArray.size by
   rw [List.size_toArray, hxl]
   obtain ⟨i, hi, _, hs, _⟩ := info_parts infoEn
   rw [hi]
   exact congrArg some hs)
  have SQE := Lib.hid (show (KEn.cs enA0).toArray.size = (KEn.cs x.e).toArray.size by rw [enA0_size, List.size_toArray, hxl])
  have SOE := Lib.hid (en_ones x.e)
  clear hK hI hba hbb hbi hbe hxl
  unfold encE
  generalize (KEn.cs x.e).toArray = E at *
  generalize bvals x.z = EI at *
  gi_wp2_with (first | ((with_reducible refine wpListIn_store_newM ?e1 30 (.tmp 4) (.tmp 12) ?e2 ?e3 (bvals z16m) EI ?e4 SZI.out SQI.out SOI.out ?_); (case e1 => rfl); (case e2 => rfl); (case e3 => rfl); (case e4 => rfl)) | ((with_reducible refine wpListIn_store_newM ?e1 46 (.tmp 5) (.tmp 13) ?e2 ?e3 (KEn.cs enA0).toArray E ?e4 SZE.out SQE.out SOE.out ?_); (case e1 => rfl); (case e2 => rfl); (case e3 => (first | rfl | exact congrArg (fun q => Value.pointer (some ⟨q, 0, none⟩)) (World.size_alloc _ _).symm)); (case e4 => rfl)))
  exact hK2
 case body =>
  rintro l pre x a' W hl hr hI ⟨Bi, Be, hBi, hBe, hXi, hXe, rfl⟩ hlt2
  have hpl : pre.length < 1000000000 := by have := HN100.out; omega
  obtain ⟨q, hq, hq16⟩ := fE_val pre (ieK x.p)
  have hba : Below W.heap.size W (W.alloc (.cells (Dk.cs (ieK x.p)).toArray 81)) := (Below.refl _ _).alloc (Nat.le_refl _) _
  have hbb : Below W.heap.size W ((W.alloc (.cells (Dk.cs (ieK x.p)).toArray 81)).alloc (.cells (plC q.1 q.2).toArray 76)) := hba.alloc hba.size _
  have I1 := hI.below hba
  have I2 := hI.below hbb
  have II2 := Lib.hid I2
  have LD15 := Lib.hid (load_dig (en_dig (Kind.at_blk (K := KEn) (x := x.e) hXe) x.hk.1) x.hk.1)
  rw [Nat.zero_add] at LD15
  have c3 := en_c3 (Kind.at_blk (K := KEn) (x := x.e) hXe)
  rw [Nat.zero_add] at c3
  have c0 := (hbb.cell (p := ⟨Be, 0, none⟩) (Array.getElem?_eq_some_iff.1 hXe).1).trans (en_c0 (Kind.at_blk (K := KEn) (x := x.e) hXe))
  have g1 : (W.alloc (.cells (Dk.cs (ieK x.p)).toArray 81)).cell? ⟨mb + 1, 0, none⟩ = some (.map (some mb)) := by rw [cell_of_row _ _ _ _ _ _ I1.2.1]; rfl
  have g2 : ((W.alloc (.cells (Dk.cs (ieK x.p)).toArray 81)).alloc (.cells (plC q.1 q.2).toArray 76)).cell? ⟨mb + 1, 0, none⟩ = some (.map (some mb)) := by rw [cell_of_row _ _ _ _ _ _ I2.2.1]; rfl
  have HBK := Lib.hid (show ∀ w, (Instr.build 81 #[(0, .agg (bvals x.e.e.ds)), (1, .int .i64 x.e.e.len)]).run Tryz.prog w = .ok (.agg (Dk.cs (ieK x.p)).toArray) w from build_dk (k := ieK x.p) x.hk.1)
  have SZK := Lib.hid (dk_size (k := ieK x.p) x.hk.1)
  have SQK := Lib.hid (show (Dk.cs dk0).toArray.size = (Dk.cs (ieK x.p)).toArray.size by rw [List.size_toArray, List.size_toArray, show (Dk.cs (ieK x.p)).length = 33 from Dk.len x.hk]; rfl)
  have SOK := Lib.hid (dk_ones (ieK x.p))
  have LK1 := Lib.hid (load_dk (Kind.at_blk (K := KDk) (t := 81) (x := ieK x.p) (show (W.alloc (.cells (Dk.cs (ieK x.p)).toArray 81)).heap[W.heap.size]? = _ from heap_alloc_new W _)) x.hk.1)
  have LK2 := Lib.hid (load_dk (Kind.at_blk (K := KDk) (t := 81) (x := ieK x.p) ((Below.heap_alloc (W.alloc (.cells (Dk.cs (ieK x.p)).toArray 81)) (.cells (plC q.1 q.2).toArray 76) W.heap.size (by rw [World.size_alloc]; omega)).trans (heap_alloc_new W _))) x.hk.1)
  have LI2 := Lib.hid (load_idM (Kind.at_blk (K := KId) (x := x.z) ((hbb.block Bi (Array.getElem?_eq_some_iff.1 hXi).1).trans hXi)) x.hz.1)
  have SZP := Lib.hid (pl_size hq16 q.2)
  have SQP := Lib.hid (show (plC z16m 0).toArray.size = (plC q.1 q.2).toArray.size by rw [List.size_toArray, List.size_toArray]; simp [plC, hq16, z16m])
  have SOP := Lib.hid (pl_ones q.1 q.2)
  have HBP := Lib.hid (build_pl x.hz.1 x.e.e.no)
  have HG1 := Lib.hid I1.1
  have HKK := Lib.hid x.hk
  have KF2 := Lib.hid (KeepsFrom.ofBelowM (B := w3.heap.size) hbb)
  have KC2 := Lib.hid (KpC.below hbb)
  cases hs : (fE (pre.map IE.p) (ieK x.p)).isSome
  ·have hnone : fE (pre.map IE.p) (ieK x.p) = none := by simpa using hs
   obtain ⟨w4, hrun, hm4, hg4⟩ := I2.1.store (x := ieK x.p) hpl (t := 78) Tryz.underlying78 x.hk (plV (iePl x.p))
   rw [show mkDk.v (ieK x.p) = .agg (Dk.cs (ieK x.p)).toArray from rfl, show plV (iePl x.p) = .agg (plC x.z x.e.e.no).toArray from rfl] at hrun
   have FIN := Lib.hid (I2.put x (by have := HMB.out; omega) (by omega) (by omega) hnone hm4 hg4)
   have HKF := Lib.hid (KF2.out.trans (KeepsFrom.of_grownBy hg4 (fun j e => by have := Option.some.inj e; have := HS2.out; omega)))
   have HKC := Lib.hid (KC2.out.trans (KpC.grown hg4 I2.1.not_cells))
   have HD := Lib.hid hq
   have HI1 := Lib.hid hs
   clear hm4 hg4 hI I1 I2 hXi hXe hba hbb hq hs hnone hze hzi
   have HEK := Lib.hid (show mkDk.v (ieK x.p) = .agg (Dk.cs (ieK x.p)).toArray from rfl)
   generalize (Dk.cs (ieK x.p)).toArray = EK at *
   generalize (plC q.1 q.2).toArray = EP at *
   generalize (plC x.z x.e.e.no).toArray = EV at *
   generalize (KEn.cs x.e).toArray = E at *
   gi_wp2_with (first | ((with_reducible refine wpListIn_load_atM ?e0 23 (.tmp 14) ?e1 ⟨Be, 4, none⟩ ?e2 _ LD15.out ?_); (case e0 => rfl); (case e1 => rfl); (case e2 => rfl)) | ((with_reducible refine wpListIn_build_atM ?e0 81 #[(0, .tmp 15), (1, .tmp 17)] ?e1 #[(0, .agg (bvals x.e.e.ds)), (1, .int .i64 x.e.e.len)] ?e2 _ (HBK.out _) ?_); (case e0 => rfl); (case e1 => rfl); (case e2 => (simp only [List.map_toArray, List.map_cons, List.map_nil]; rfl))) | ((with_reducible refine wpListIn_store_newM ?e1 81 (.tmp 6) (.tmp 18) ?e2 ?e3 (Dk.cs dk0).toArray EK ?e4 SZK.out SQK.out SOK.out ?_); (case e1 => rfl); (case e2 => rfl); (case e3 => rfl); (case e4 => rfl)) | ((with_reducible refine wpListIn_load_atM ?e0 81 (.tmp 6) ?e1 ⟨W.heap.size, 0, none⟩ ?e2 _ LK1.out ?_); (case e0 => rfl); (case e1 => rfl); (case e2 => rfl)) | (refine wpListIn_lookup_G (K := mkDk) rfl 78 (.tmp 20) (.tmp 21) rfl Tryz.underlying78 (fun w => zeroPlace w) (ieK x.p) rfl HEK.out.symm HG1.out HKK.out HD.out HI1.out ?_) | ((with_reducible refine wpListIn_store_newM ?e1 76 (.tmp 7) (.tmp 23) ?e2 ?e3 (plC z16m 0).toArray EP ?e4 SZP.out SQP.out SOP.out ?_); (case e1 => rfl); (case e2 => rfl); (case e3 => (first | rfl | exact congrArg (fun q => Value.pointer (some ⟨q, 0, none⟩)) (World.size_alloc _ _).symm)); (case e4 => rfl)) | ((with_reducible refine wpListIn_load_atM ?e0 81 (.tmp 6) ?e1 ⟨W.heap.size, 0, none⟩ ?e2 _ LK2.out ?_); (case e0 => rfl); (case e1 => rfl); (case e2 => rfl)) | ((with_reducible refine wpListIn_load_atM ?e0 30 (.tmp 4) ?e1 ⟨Bi, 0, none⟩ ?e2 _ LI2.out ?_); (case e0 => rfl); (case e1 => rfl); (case e2 => rfl)) | ((with_reducible refine wpListIn_build_atM ?e0 76 #[(0, .tmp 29), (1, .tmp 31)] ?e1 #[(0, .agg (bvals x.z)), (1, .int .i64 x.e.e.no)] ?e2 _ (HBP.out _) ?_); (case e0 => rfl); (case e1 => rfl); (case e2 => (simp only [List.map_toArray, List.map_cons, List.map_nil]; rfl))))
   exact ⟨HKF.out, HKC.out, FIN.out⟩
  ·have FIN := Lib.hid (I2.keep x hs)
   have HD := Lib.hid hq
   have HI1 := Lib.hid hs
   clear hI I1 I2 hXi hXe hba hbb hq hs hze hzi
   have HEK := Lib.hid (show mkDk.v (ieK x.p) = .agg (Dk.cs (ieK x.p)).toArray from rfl)
   generalize (Dk.cs (ieK x.p)).toArray = EK at *
   generalize (plC q.1 q.2).toArray = EP at *
   generalize (plC x.z x.e.e.no).toArray = EV at *
   generalize (KEn.cs x.e).toArray = E at *
   gi_wp2_with (first | ((with_reducible refine wpListIn_load_atM ?e0 23 (.tmp 14) ?e1 ⟨Be, 4, none⟩ ?e2 _ LD15.out ?_); (case e0 => rfl); (case e1 => rfl); (case e2 => rfl)) | ((with_reducible refine wpListIn_build_atM ?e0 81 #[(0, .tmp 15), (1, .tmp 17)] ?e1 #[(0, .agg (bvals x.e.e.ds)), (1, .int .i64 x.e.e.len)] ?e2 _ (HBK.out _) ?_); (case e0 => rfl); (case e1 => rfl); (case e2 => (simp only [List.map_toArray, List.map_cons, List.map_nil]; rfl))) | ((with_reducible refine wpListIn_store_newM ?e1 81 (.tmp 6) (.tmp 18) ?e2 ?e3 (Dk.cs dk0).toArray EK ?e4 SZK.out SQK.out SOK.out ?_); (case e1 => rfl); (case e2 => rfl); (case e3 => rfl); (case e4 => rfl)) | ((with_reducible refine wpListIn_load_atM ?e0 81 (.tmp 6) ?e1 ⟨W.heap.size, 0, none⟩ ?e2 _ LK1.out ?_); (case e0 => rfl); (case e1 => rfl); (case e2 => rfl)) | (refine wpListIn_lookup_G (K := mkDk) rfl 78 (.tmp 20) (.tmp 21) rfl Tryz.underlying78 (fun w => zeroPlace w) (ieK x.p) rfl HEK.out.symm HG1.out HKK.out HD.out HI1.out ?_) | ((with_reducible refine wpListIn_store_newM ?e1 76 (.tmp 7) (.tmp 23) ?e2 ?e3 (plC z16m 0).toArray EP ?e4 SZP.out SQP.out SOP.out ?_); (case e1 => rfl); (case e2 => rfl); (case e3 => (first | rfl | exact congrArg (fun q => Value.pointer (some ⟨q, 0, none⟩)) (World.size_alloc _ _).symm)); (case e4 => rfl)) | ((with_reducible refine wpListIn_load_atM ?e0 81 (.tmp 6) ?e1 ⟨W.heap.size, 0, none⟩ ?e2 _ LK2.out ?_); (case e0 => rfl); (case e1 => rfl); (case e2 => rfl)) | ((with_reducible refine wpListIn_load_atM ?e0 30 (.tmp 4) ?e1 ⟨Bi, 0, none⟩ ?e2 _ LI2.out ?_); (case e0 => rfl); (case e1 => rfl); (case e2 => rfl)) | ((with_reducible refine wpListIn_build_atM ?e0 76 #[(0, .tmp 29), (1, .tmp 31)] ?e1 #[(0, .agg (bvals x.z)), (1, .int .i64 x.e.e.no)] ?e2 _ (HBP.out _) ?_); (case e0 => rfl); (case e1 => rfl); (case e2 => (simp only [List.map_toArray, List.map_cons, List.map_nil]; rfl))))
   exact ⟨KF2.out, KC2.out, FIN.out⟩
 case done =>
  rintro D ys W hD hp hI hK
  have g0 : W.cell? ⟨mb + 1, 0, none⟩ = some (.map (some mb)) := by rw [cell_of_row _ _ _ _ _ _ hI.2.1]; rfl
  have hMD : mb ≠ D := by have := HS2.out; omega
  have HP := Lib.hid (HFIN.out mb ys.length (W.putObj D (.deferred none)) (by rw [← hp]; exact hI.1.same (World.putObj_heap_other hMD)) (hI.2.2.2.1.trans (belowK_b (w := w) (Nat.le_refl _) _ D _ _ (by have := HS2.out; have := HMB.out; omega) hK rfl rfl)))
  have HK := Lib.hid hK
  clear hI hK
  go_wp2
  refine ⟨by simp, .inl ⟨_, _, rfl, run_takeDeferred HK.out, ?_⟩⟩
  exact ⟨_, by simp [results, Tryz.results25], HP.out⟩
 case stop =>
  rintro D c pre W _ _ h _
  exact h.elim
end
end Go.Proofs.YtkjimhlpbgeagaaGreatDoor
