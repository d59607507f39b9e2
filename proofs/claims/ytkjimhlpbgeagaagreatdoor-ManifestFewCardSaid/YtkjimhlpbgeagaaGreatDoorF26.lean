import Derived.Test.YtkjimhlpbgeagaaGreatDoorF0
import Derived.Test.YtkjimhlpbgeagaaGreatDoorF16
import Derived.Test.YtkjimhlpbgeagaaGreatDoorF15
import Derived.RangeFuncNested
import Derived.RangeFuncBound
import Derived.RangeFuncCalls
import Derived.RangeFuncLeaves
import Derived.RangeFuncBox
import Derived.Shelf.Abstract
import Derived.Shelf.RegionOpen
import Derived.WalkKit
import Derived.OwnWalkIn
import Derived.TacticsInMore
import Derived.LoopNIn
import Derived.LoopIn
/-
  What the functions that a law of this layer reaches answer, part 26. Nothing that was there is written.
-/
namespace Go.Proofs.YtkjimhlpbgeagaaGreatDoor
set_option linter.unusedVariables false
set_option linter.unusedSimpArgs false
section
open Go.RowKit Go.Shelf WM
set_option maxRecDepth 100000
attribute [local go_sem] Oper.semAt_some
theorem abides_belowM {α : Type} {B : Nat} {J : α → World → Prop} (hJ : AbidesFrom B J) {s : α} {W W' : World} (h : J s W) (hb : Below W.heap.size W W') : J s W' :=
 hJ _ _ _ none h ⟨hb.os, hb.tape, hb.output, hb.size, fun k hk _ => hb.block k hk⟩ (fun r e => by cases e)
theorem wpListIn_load_atM {F : Fence} {n : Nat} {P : Program} {ops : Array Oper} {rest : List Oper} {o : Oper} {a : Act} {w : World} {Q : Exit → Act → World → Prop} (hgd : o.guard = none) (ty : TypeId) (x : Operand) (hop : o.op = .load ty x) (ad : Addr) (hx : a.eval x = .pointer (some ad)) (v : Value) (hv : (loadVar ty ad).run P w = .ok v w)
  (hK : wpListIn F n P ops Q rest (a.put o.dst v) w) : wpListIn F n P ops Q (o :: rest) a w := by
 refine wpListIn_plain hgd fun K' hK' => ?_
 unfold Oper.wpIn
 refine ⟨by simp [Oper.about, hop], ?_⟩
 rw [Oper.semAt_plain F _ _ (by rw [hop]; intro c hc'; cases hc')]
 unfold execOp
 simp only [hop, hx, Instr.loadAt, Instr.sureAddr, Sem.run_bind, Sem.run_pure, Result.andThen_ok, hv]
 exact hK' _ _ hK
theorem wpListIn_store_newM {F : Fence} {n : Nat} {P : Program} {ops : Array Oper} {rest : List Oper} {o : Oper} {a : Act} {w : World} {Q : Exit → Act → World → Prop} (hgd : o.guard = none) (t : TypeId) (p y : Operand) (hop : o.op = .store t p y) (hp : a.eval p = .pointer (some ⟨w.heap.size, 0, none⟩))
  (Z X : Array Value) (hy : a.eval y = .agg X) (hi : (P.info? t).map (·.size) = some X.size) (hold : Z.size = X.size) (h1 : X.all (·.oneCell') = true) (hK : wpListIn F n P ops Q rest (a.put o.dst undef) (w.alloc (.cells X t))) : wpListIn F n P ops Q (o :: rest) a (w.alloc (.cells Z t)) := by
 refine wpListIn_plain hgd fun K' hK' => ?_
 unfold Oper.wpIn
 refine ⟨by simp [Oper.about, hop], ?_⟩
 rw [Oper.semAt_plain F _ _ (by rw [hop]; intro c hc'; cases hc')]
 have hr := run_storeVar_row (P := P) (w.alloc (.cells Z t)) w.heap.size t t Z X (heap_alloc_new w _) hi hold h1
 unfold execOp
 simp only [hop, hp, hy, Instr.storeAt, Instr.sureAddr, Sem.run_bind, Sem.run_pure, Result.andThen_ok, hr]
 rw [World.setRow_alloc_new w _ _ _]
 exact hK' _ _ hK
def KpC (X Y : World) : Prop := ∀ (k : Nat) (c : Array Value) (t : TypeId) (f : Nat × Nat), X.heap[k]? = some (.cells c t f) → Y.heap[k]? = some (.cells c t f)
theorem KpC.trans {X Y Z : World} (h : KpC X Y) (k : KpC Y Z) : KpC X Z := fun i c t f e => k i c t f (h i c t f e)
theorem KpC.below {X Y : World} (h : Below X.heap.size X Y) : KpC X Y := fun i c t f e => (h.block i (Array.getElem?_eq_some_iff.1 e).1).trans e
theorem KpC.grown {X Y : World} {mb : Nat} (h : X.grownBy Y (some mb)) (hm : ∀ c t f, X.heap[mb]? ≠ some (.cells c t f)) : KpC X Y := fun i c t f e => (h.block i (Array.getElem?_eq_some_iff.1 e).1 (fun e2 => by
 obtain rfl := Option.some.inj e2
 exact hm _ _ _ e)).trans e
theorem KpC.put {W : World} {l : Nat} {o o' : Obj} (h : W.heap[l]? = some o) (hc : o.isCells = false) : KpC W (W.putObj l o') := fun i c t f e => by
 have hne : i ≠ l := fun e2 => by
  subst e2
  rw [h] at e
  cases e
  cases hc
 exact (World.putObj_heap_other hne).trans e
theorem cells_of_cell {w : World} {b o : Nat} {u : Value} (h : w.cell? ⟨b, o, none⟩ = some u) : ∃ c t f, w.heap[b]? = some (.cells c t f) := by
 unfold World.cell? at h
 dsimp only at h
 split at h
 ·exact ⟨_, _, _, by assumption⟩
 ·cases h
theorem KpC.at {α : Type} {K : Kind α} {X Y : World} {b o : Nat} {x : α} (h : KpC X Y) (ha : K.at X b o x) (hl : (K.cs x).length = K.n) : K.at Y b o x := by
 have h0 := ha 0 K.pos
 have h1 := (List.getElem?_eq_getElem (l := K.cs x) (i := 0) (by rw [hl]; exact K.pos))
 rw [h1, Nat.add_zero] at h0
 obtain ⟨c, t, f, hc⟩ := cells_of_cell h0
 exact Kind.at_same ha ((h _ _ _ _ hc).trans hc.symm)
theorem KpC.mn {X Y : World} {b : Nat} {m : MnA} (h : KpC X Y) (hm : MnAt X b m) : MnAt Y b m := h _ _ _ _ hm
theorem KpC.blk {α : Type} {K : Kind α} {X Y : World} {b : Nat} {t : TypeId} {x : α} (h : KpC X Y) (hm : K.blk t X b x) : K.blk t Y b x := h _ _ _ _ hm
theorem load_enL {w : World} {b o : Nat} {x : EnA} (h : KEn.at w b o x) (hl : (KEn.cs x).length = 37) : (loadVar 46 ⟨b, o, none⟩).run Tryz.prog w = .ok (.agg (KEn.cs x).toArray) w :=
 Kind.at_load h hl Tryz.underlying46 rfl (by obtain ⟨i, hi, _, hs, _⟩ := info_parts infoEn; rw [hi]; exact congrArg some hs)
theorem load_lnL {w : World} {b o : Nat} {x : LnA} (h : KLn.at w b o x) (hl : (KLn.cs x).length = 19) : (loadVar 35 ⟨b, o, none⟩).run Tryz.prog w = .ok (.agg (KLn.cs x).toArray) w :=
 Kind.at_load h hl Tryz.underlying35 rfl (by obtain ⟨i, hi, _, hs, _⟩ := info_parts infoLn; rw [hi]; exact congrArg some hs)
structure IE where
 z : List Int
 e : EnA
 hz : z.length = 16 ∧ AllBytes z
 hk : Dk.ok (e.e.ds, e.e.len)
def IE.p (x : IE) : List Int × EnA := (x.z, x.e)
def encE (x : IE) : Array Value := #[.agg (bvals x.z), .agg (KEn.cs x.e).toArray]
theorem allE_lt {ls : List LnA} {k j : Nat} (hk : k < ls.length) (hj : j < (ls.getD k lnA0).es.length) : (allE (ls.take k)).length + j < (allE ls).length := by
 have h := allE_take hk
 have h2 : (allE (ls.take (k + 1))).length ≤ (allE ls).length := by
  have : allE ls = allE (ls.take (k + 1)) ++ allE (ls.drop (k + 1)) := by
   unfold allE
   rw [← List.flatMap_append, List.take_append_drop]
  rw [this, List.length_append]
  exact Nat.le_add_right _ _
 rw [h, List.length_append, List.length_map] at h2
 omega
set_option maxHeartbeats 8000000 in
theorem ent1_in (n : Nat) (hn : 1 ≤ n) (l Bx N : Nat) (m : MnA) (w : World) (h1 : m.Ok w) (hN : (allE m.ls).length = N) (J Jx : List IE → World → Prop) (W : World) (hJ : AbidesFrom W.heap.size J)
  (hY : ∀ pre x W, J pre W → pre.length < N + 1 → YieldAt Fence.wide (n - 1) Tryz.prog l (encE x) W fun e W' =>
   (e = .returned (.bool true) ∧ J (pre ++ [x]) W' ∧ KpC W W') ∨ (e = .returned (.bool false) ∧ Jx (pre ++ [x]) W'))
  (hBx : MnAt W Bx m) (hW : KpC w W) (h0 : J [] W) :
  CallsIn Fence.wide n Tryz.prog 57 #[.func (.yield l) #[] #[], .pointer (some ⟨Bx, 0, none⟩)] W fun e W' => (∃ v, e = .returned v) ∧
   ((∃ ys : List IE, ys.map IE.p = allE m.ls ∧ J ys W') ∨ (∃ pre, True ∧ Jx pre W')) := by
 have HR := Lib.hid (fun h => ln_row h1.2.2 h)
 have HOK := Lib.hid (fun k (hk : k < m.ls.length) => show LnA.Ok w (m.ls.getD k lnA0) from Kind.row_ok h1.2.2 hk)
 have HJ := Lib.hid (fun pre X Y (h : J pre X) (hb : Below X.heap.size X Y) => abides_belowM hJ h hb)
 have HW := Lib.hid hW
 have H0 := Lib.hid h0
 have cb := hBx.c32 h1.1
 have hnb : m.ls.length ≤ 9223372036854775807 := by
  have a1 := h1.2.2.1
  have a2 := h1.2.2.2.1
  simp only [maxLen] at a2
  omega
 obtain ⟨base, A, c, ls⟩ := m
 dsimp only at *
 have HLT := Lib.hid (fun k j (hk : k < ls.length) (hj : j < (ls.getD k lnA0).es.length) => by have h := allE_lt hk hj; rw [hN] at h; exact h)
 have HAT := Lib.hid (fun k (hk : k < ls.length) => allE_take hk)
 generalize hn2 : ls.length = M at *
 have HM := Lib.hid hn2
 have hz := zeroLn
 rw [show KLn.v lnA0 = .agg (KLn.cs lnA0).toArray from rfl] at hz
 have hze := zeroEn
 rw [show KEn.v enA0 = .agg (KEn.cs enA0).toArray from rfl] at hze
 have hzne : ¬ (KLn.cs lnA0).toArray = #[] := by decide
 have hzne2 : ¬ (KEn.cs enA0).toArray = #[] := by decide
 have HEND := Lib.hid (show ls.take M = ls from List.take_of_length_le (by rw [hn2]; exact Nat.le_refl _))
 clear h1 hBx hW h0 hJ hN hn2
 refine callsIn_of_wp Tryz.func57 rfl trivial ?_ rfl
 simp only [Tryz.ntmps57, List.size_toArray, List.length_cons, List.length_nil, Nat.reduceAdd, Nat.reduceSub, Array.replicate_succ, Array.replicate_zero, List.push_toArray, List.append_toArray, List.nil_append, List.cons_append]
 refine wpIn_wide.2 ?_
 go_wp2
 clear cb
 go_loopw [10] (fun i wr => ∃ (k : Nat) (pre : List IE), k ≤ M ∧ i = .int .i64 k ∧ pre.map IE.p = allE (ls.take k) ∧ J pre wr ∧ KpC w wr) (fun i _ => M - (intOf i).toNat)
 case atStart => exact ⟨0, [], Nat.zero_le _, rfl, rfl, H0.out, HW.out⟩
 case round =>
  obtain ⟨k, pre, hk, rfl, hp, hJs, hww⟩ := hrel
  have HP := Lib.hid hp
  have HJS := Lib.hid hJs
  have HKP := Lib.hid hww
  have HKM := Lib.hid hk
  clear hp hJs hww
  by_cases hlt : k < M
  ·have t1 : (k : Int) < (M : Int) := by omega
   obtain ⟨b1, off1, hA1, hb1w, hx1, hi1⟩ := HR.out (by omega)
   have ix1 := hi1 k hlt k rfl
   rw [← hA1] at ix1
   have hok := HOK.out k hlt
   have LL := Lib.hid (load_lnL (HKP.out.at (hx1 k hlt) (LnA.len hok)) (LnA.len hok))
   have HLX := Lib.hid (HLT.out k)
   have HAX := Lib.hid (HAT.out k hlt)
   generalize ls.getD k lnA0 = x at *
   have HXO := Lib.hid hok
   have SZX := Lib.hid (ln_size hok)
   have SQX := Lib.hid (show (KLn.cs lnA0).toArray.size = (KLn.cs x).toArray.size by rw [lnA0_size, List.size_toArray]; exact (LnA.len hok).symm)
   have SOX := Lib.hid (ln_ones x)
   have hba : Below wr.heap.size wr (wr.alloc (.cells (KLn.cs x).toArray 35)) := (Below.refl _ _).alloc (Nat.le_refl _) _
   have J2 := Lib.hid (HJ.out _ _ _ HJS.out hba)
   have K2 := Lib.hid (HKP.out.trans (KpC.below hba))
   have X2 := Lib.hid (Kind.blk_new (K := KLn) wr x 35)
   have k18 := ln_c18 (Kind.at_blk X2.out) hok.1
   rw [Nat.zero_add] at k18
   have HE := Lib.hid (fun h0 => en_row hok.2.2.2.2 h0)
   have HEO := Lib.hid (fun j (hj : j < x.es.length) => show EnA.Ok w (x.es.getD j enA0) from Kind.row_ok hok.2.2.2.2 hj)
   have hMb : x.es.length ≤ 9223372036854775807 := by
    have a1 := hok.2.2.2.2.1
    have a2 := hok.2.2.2.2.2.1
    simp only [maxLen] at a2
    omega
   clear hx1 hi1 hA1 hok hb1w hba
   go_wp2_with (first | ((with_reducible refine wpList_load_at (o := ⟨some 13, .load 35 (.tmp 12), _, _, _, _⟩) ?e1 35 (.tmp 12) ?e2 ⟨b1, off1 + k * 19, none⟩ ?e3 _ LL.out ?_); (case e1 => rfl); (case e2 => rfl); (case e3 => rfl)) | ((with_reducible refine wpList_store_new (o := ⟨none, .store 35 (.tmp 4) (.tmp 13), _, _, _, _⟩) ?e1 35 (.tmp 4) (.tmp 13) ?e2 ?e3 (KLn.cs lnA0).toArray (KLn.cs x).toArray ?e4 SZX.out SQX.out SOX.out ?_); (case e1 => rfl); (case e2 => rfl); (case e3 => rfl); (case e4 => rfl)))
   generalize wr.alloc (.cells (KLn.cs x).toArray 35) = w2 at *
   generalize wr.heap.size = p4 at *
   clear k18 ix1
   go_loopw [17] (fun i wr => ∃ (j : Nat) (pre2 : List IE), j ≤ x.es.length ∧ i = .int .i64 j ∧ pre2.map IE.p = allE (ls.take k) ++ (x.es.take j).map (fun e => (x.z, e)) ∧ J pre2 wr ∧ KpC w wr ∧ KLn.blk 35 wr p4 x) (fun i _ => x.es.length - (intOf i).toNat)
   case atStart => exact ⟨0, pre, Nat.zero_le _, rfl, by rw [HP.out]; simp, J2.out, K2.out, X2.out⟩
   case round =>
    obtain ⟨j, pre2, hj, rfl, hp2, hJs2, hww2, hx4⟩ := hrel
    have HP2 := Lib.hid hp2
    have HJS2 := Lib.hid hJs2
    have HKP2 := Lib.hid hww2
    have HX4 := Lib.hid hx4
    clear hp2 hJs2 hww2 hx4
    by_cases hjt : j < x.es.length
    ·have t2 : (j : Int) < (x.es.length : Int) := by omega
     obtain ⟨b2, off2, hA2, hb2w, hx2, hi2⟩ := HE.out (by omega)
     have ix2 := hi2 j hjt j rfl
     rw [← hA2] at ix2
     have hok := HEO.out j hjt
     have LE := Lib.hid (load_enL (HKP2.out.at (hx2 j hjt) (EnA.len hok)) (EnA.len hok))
     have HTK := Lib.hid (mapE_take x.z hjt)
     have HLJ := Lib.hid (HLX.out j hlt hjt)
     generalize x.es.getD j enA0 = y at *
     have SZY := Lib.hid (en_size hok)
     have SQY := Lib.hid (show (KEn.cs enA0).toArray.size = (KEn.cs y).toArray.size by rw [enA0_size, List.size_toArray]; exact (EnA.len hok).symm)
     have SOY := Lib.hid (en_ones y)
     have hba : Below wr.heap.size wr (wr.alloc (.cells (KEn.cs y).toArray 46)) := (Below.refl _ _).alloc (Nat.le_refl _) _
     have hJ5 := HJ.out _ _ _ HJS2.out hba
     have hkk : Dk.ok (y.e.ds, y.e.len) := ⟨hok.2.2.2.2.1, hok.2.2.2.2.2.1, hok.2.2.2.1⟩
     have hl2 : pre2.length < N + 1 := by
      have h := congrArg List.length HP2.out
      rw [List.length_map, List.length_append, List.length_map, List.length_take] at h
      have := HLJ.out
      omega
     obtain ⟨fn, tmps, assign, body, hy, hR⟩ := hY pre2 ⟨x.z, y, ⟨HXO.out.1, HXO.out.2.1⟩, hkk⟩ _ hJ5 hl2
     unfold encE at hy
     dsimp only at hy
     have HRR := Lib.hid hR
     have HPX := Lib.hid (show (pre2 ++ [(⟨x.z, y, ⟨HXO.out.1, HXO.out.2.1⟩, hkk⟩ : IE)]).map IE.p = allE (ls.take k) ++ (x.es.take (j + 1)).map (fun e => (x.z, e)) by rw [HTK.out, List.map_append, HP2.out, List.append_assoc]; rfl)
     have K5 := Lib.hid (KpC.below hba)
     have LID := Lib.hid (load_idM (ln_id (Kind.at_blk (Kind.blk_below HX4.out hba (Kind.blk_lt HX4.out))) HXO.out.1) HXO.out.1)
     have L24 := Lib.hid (load_enL (Kind.at_blk (Kind.blk_new (K := KEn) wr y 46)) (EnA.len hok))
     generalize hE : (KEn.cs y).toArray = E at *
     clear hx2 hi2 hA2 hok hb2w hba hJ5 hR hE hl2
     refine (wpIn_wide (n := n)).1 ?_
     gi_wp2_with (first | ((with_reducible refine wpListIn_load_atM ?e0 46 (.tmp 19) ?e1 ⟨b2, off2 + j * 37, none⟩ ?e2 _ LE.out ?_); (case e0 => rfl); (case e1 => rfl); (case e2 => rfl)) | ((with_reducible refine wpListIn_store_newM ?e1 46 (.tmp 6) (.tmp 20) ?e2 ?e3 (KEn.cs enA0).toArray E ?e4 SZY.out SQY.out SOY.out ?_); (case e1 => rfl); (case e2 => rfl); (case e3 => rfl); (case e4 => rfl)) | ((with_reducible refine wpListIn_load_atM ?e0 30 (.tmp 22) ?e1 ⟨p4, 0, none⟩ ?e2 _ LID.out ?_); (case e0 => rfl); (case e1 => rfl); (case e2 => rfl)) | ((with_reducible refine wpListIn_load_atM ?e0 46 (.tmp 6) ?e1 ⟨wr.heap.size, 0, none⟩ ?e2 _ L24.out ?_); (case e0 => rfl); (case e1 => rfl); (case e2 => rfl)))
     refine HRR.out.mono ?_
     rintro e2 W3 (⟨rfl, hJ3, hk3⟩ | ⟨rfl, hJx3⟩)
     ·have FIN := Lib.hid (And.intro hJ3 (And.intro ((HKP2.out.trans K5.out).trans hk3) ((K5.out.trans hk3).blk HX4.out)))
      clear hJ3 hk3 ix2
      gi_wp2
      go_roundw
      case rel => exact ⟨j + 1, _, by omega, by go_num, HPX.out, FIN.out.1, FIN.out.2.1, FIN.out.2.2⟩
      case measure => simp [intOf]; omega
     ·have HX3 := Lib.hid hJx3
      clear hJx3 ix2
      gi_wp2
      exact ⟨rfl, .tuple #[], by simp [results, Tryz.results57], ⟨_, rfl⟩, .inr ⟨_, trivial, HX3.out⟩⟩
    ·obtain rfl : j = x.es.length := by omega
     have t2 : ¬ (x.es.length : Int) < (x.es.length : Int) := by omega
     have HP3 := Lib.hid (show pre2.map IE.p = allE (ls.take (k + 1)) by rw [HAX.out, HP2.out, List.take_length])
     have h8 := HKM.out
     go_wp2
     go_roundw
     case rel => exact ⟨k + 1, pre2, by omega, by go_num, HP3.out, HJS2.out, HKP2.out⟩
     case measure => simp [intOf]; omega
  ·obtain rfl : k = M := by omega
   have t1 : ¬ (k : Int) < (k : Int) := by omega
   have HF := Lib.hid (show pre.map IE.p = allE ls by rw [HP.out, HEND.out])
   go_wp2
   exact ⟨rfl, .tuple #[], by simp [results, Tryz.results57], ⟨_, rfl⟩, .inl ⟨_, HF.out, HJS.out⟩⟩
theorem ent_stops (n : Nat) (hn : 1 ≤ n) (Bx N : Nat) (m : MnA) (w wS : World) (h1 : m.Ok w) (hN : (allE m.ls).length = N) (hb : KpC w wS) (hBx : MnAt wS Bx m) :
  SeqStopsK Fence.wide n Tryz.prog 57 #[.pointer (some ⟨Bx, 0, none⟩)] encE KpC (fun ys : List IE => ys.map IE.p = allE m.ls) (fun _ => True) (N + 1) wS := fun l J Jx W hW hJ _ hY h0 =>
 ent1_in n hn l Bx N m w h1 hN J Jx W hJ hY ((KpC.below hW).mn hBx) (hb.trans (KpC.below hW)) h0
theorem entries_any (m : MnA) (w : World) : Calls Tryz.prog 43 #[m.v] w fun e w' =>
  e = .returned (.func (.func 57) #[] #[.pointer (some ⟨w.heap.size, 0, none⟩)]) ∧ w' = w.alloc (.cells m.cs.toArray 26) := by
 have hv : m.v = .agg m.cs.toArray := rfl
 rw [hv]
 generalize m.cs.toArray = E at *
 go_enter Tryz.func43, Tryz.ntmps43
 go_wp2
 go_ret
 exact ⟨rfl, rfl⟩
end
end Go.Proofs.YtkjimhlpbgeagaaGreatDoor
