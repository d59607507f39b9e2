import Derived.Test.YtkjimhlpbgeagaaGreatDoorF0
import Derived.Test.YtkjimhlpbgeagaaGreatDoorF7
import Derived.Maps.OwnSet
import Derived.Maps.Views
import Derived.RangeFuncNested
import Derived.RangeFuncBound
import Derived.RangeFuncCalls
import Derived.RangeFuncLeaves
import Derived.Shelf.Abstract
import Derived.Shelf.RegionOpen
import Derived.WalkKit
import Derived.OwnWalkIn
import Derived.TacticsInMore
import Derived.LoopNIn
import Derived.LoopIn
import Derived.Maps.OwnIn
/-
  What the functions that a law of this layer reaches answer, part 9. Nothing that was there is written.
-/
namespace Go.Proofs.YtkjimhlpbgeagaaGreatDoor
set_option linter.unusedVariables false
set_option linter.unusedSimpArgs false
section
section
open Go.RowKit WM
theorem cel_inj {a b : Cel} (h : a.v = b.v) : a = b := by
 obtain ⟨n, r, s⟩ := a
 obtain ⟨m, q, t⟩ := b
 simp only [Cel.v, Value.agg.injEq] at h
 cases h
 rfl
def celD (c : Cel) : DataW Unit := .agg [.lit (.int .i64 c.n), .lit (.int .i64 c.r), .lit (.string c.s.data.toList)]
theorem celD_inj {a b : Cel} (h : celD a = celD b) : a = b := by
 obtain ⟨n, r, ⟨s⟩⟩ := a
 obtain ⟨m, q, ⟨t⟩⟩ := b
 simp only [celD, DataW.agg.injEq, List.cons.injEq, DataW.lit.injEq, Lit.int.injEq, Lit.string.injEq, true_and, and_true, Array.toList_inj] at h
 obtain ⟨rfl, rfl, rfl⟩ := h
 rfl
open Classical in
noncomputable def celR (v : Value) : Option (DataW Unit × List MemPlace) := if h : ∃ c : Cel, v = c.v then some (celD h.choose, []) else none
theorem celR_mk (c : Cel) : celR c.v = some (celD c, []) := by
 have h : ∃ d : Cel, c.v = d.v := ⟨c, rfl⟩
 rw [celR, dif_pos h, ← cel_inj h.choose_spec]
theorem celR_inv {v : Value} {c : Cel} {ps : List MemPlace} (h : celR v = some (celD c, ps)) : v = c.v := by
 unfold celR at h
 split at h
 ·rename_i hh
  simp only [Option.some.injEq, Prod.mk.injEq] at h
  rw [hh.choose_spec, celD_inj h.1]
 ·cases h
def MIs (w : World) (b n : Nat) (f : Int → Option Cel) : Prop :=
 ∃ D : DataW Unit, w.ownsMap Tryz.prog 3 celR b n D ∧ ∀ k : Int, Maps.has D (.int .i64 k) = (f k).isSome ∧ D.atKey (.int .i64 k) (celD cel00) = celD ((f k).getD cel00)
theorem keyI : Maps.Keyed Tryz.prog 3 := Maps.int_keyed Tryz.underlying3
theorem zeroCel (w : World) : (zeroValue 68).run Tryz.prog w = .ok cel00.v w := (zero_of_info (show (Tryz.prog.info? 68).map (fun i => (i.zero, i.size)) = some (some cel00.v, 3) by kernel_rfl)).1 w
theorem MIs.lt {w : World} {b n : Nat} {f : Int → Option Cel} (h : MIs w b n f) : b < w.heap.size := by obtain ⟨D, h, _⟩ := h; exact h.lt
theorem MIs.same {w w' : World} {b n : Nat} {f : Int → Option Cel} (h : MIs w b n f) (hb : w'.heap[b]? = w.heap[b]?) : MIs w' b n f := by
 obtain ⟨D, ⟨es, clock, hh, r⟩, h2⟩ := h
 exact ⟨D, ⟨es, clock, hb.trans hh, r⟩, h2⟩
theorem MIs.below {w w' : World} {b n B : Nat} {f : Int → Option Cel} (h : MIs w b n f) (hb : Below B w w') (hB : b < B) : MIs w' b n f := h.same (hb.block b hB)
theorem MIs.made (w : World) : MIs (w.alloc (.map #[] 0)) w.heap.size 0 (fun _ => none) :=
 ⟨.map [], World.ownsMap_made w _ _ _, fun k => ⟨rfl, Maps.atKey_of_not_has rfl _⟩⟩
theorem wf_i64 {k : Int} (h0 : -9223372036854775808 ≤ k) (h1 : k ≤ 9223372036854775807) : (Lit.int .i64 k).wf = true := by
 simp [Lit.wf, IntKind.min, IntKind.max, IntKind.bits, IntKind.signed]
 omega
theorem MIs.look {w : World} {b n : Nat} {f : Int → Option Cel} (h : MIs w b n f) {k : Int} (hk : (Lit.int .i64 k).wf = true) :
  (Instr.lookup 147 (.map (some b)) (.int .i64 k) true).run Tryz.prog w = .ok (.tuple #[((f k).getD cel00).v, .bool (f k).isSome]) w := by
 obtain ⟨D, h1, h2⟩ := h
 obtain ⟨v, ps, hr, hv⟩ := h1.look_ok keyI Tryz.underlying147 (zeroCel w) (celR_mk cel00) (Maps.keyOf_int_mk Tryz.underlying3 hk)
 rw [(h2 k).2] at hv
 rw [hr, (h2 k).1, celR_inv hv]
theorem MIs.store {w : World} {b n : Nat} {f : Int → Option Cel} (h : MIs w b n f) (hn : n < 1000) {k : Int} (hk : (Lit.int .i64 k).wf = true) (c : Cel) :
  ∃ w', (Instr.mapUpdate 147 (.map (some b)) (.int .i64 k) c.v).run Tryz.prog w = .ok () w' ∧ MIs w' b (n + 1) (fun j => if j = k then some c else f j) ∧ w.grownBy w' (some b) := by
 obtain ⟨D, h1, h2⟩ := h
 obtain ⟨w', hr, ho, hg⟩ := h1.update keyI Tryz.underlying147 (by simp only [maxLen]; omega) (Maps.keyOf_int_mk Tryz.underlying3 hk) (celR_mk c)
 refine ⟨w', hr, ⟨_, ho, fun j => ?_⟩, hg⟩
 dsimp only
 by_cases hj : j = k
 ·subst hj
  rw [if_pos rfl]
  exact ⟨Maps.has_put_same h1.isMap (by simp [WideAt.IsKeyLit]) _, Maps.atKey_put_same h1.isMap (by simp [WideAt.IsKeyLit]) _ _⟩
 ·rw [if_neg hj]
  have hne : (Lit.int .i64 j) ≠ (.int .i64 k) := fun e => hj (by simpa using e)
  rw [Maps.has_put_other hne, Maps.atKey_put_other hne]
  exact h2 j
theorem wpList_mapUpdate_cel {w : World} {ops : Array Oper} {rest : List Oper} {o : Oper} {a : Act} {Q : Exit → Act → World → Prop} (hgd : o.guard = none) (m x v : Operand) (hop : o.op = Op.mapUpdate 147 m x v)
  (b n : Nat) (f : Int → Option Cel) (k : Int) (c : Cel) (hm : a.eval m = .map (some b)) (hx : a.eval x = .int .i64 k) (hv : a.eval v = c.v) (h : MIs w b n f) (hn : n < 1000) (hk : (Lit.int .i64 k).wf = true)
  (hK : ∀ w', MIs w' b (n + 1) (fun j => if j = k then some c else f j) → w.grownBy w' (some b) → wpList Tryz.prog ops Q rest (a.put o.dst undef) w') : wpList Tryz.prog ops Q (o :: rest) a w := by
 refine wpList_plain hgd fun K' hK' => ?_
 obtain ⟨w', hrun, r1, r2⟩ := h.store hn hk c
 unfold Oper.wp
 simp [execOp, hop, hm, hx, hv, hrun, Result.andThen]
 exact hK' _ _ (hK w' r1 r2)
end
section
open Go.RowKit WM
def gone (o : Option Cel) (c : Cel) : Cel := match o with | some d => cjoin d c | none => c
def gstep (f : Int → Option Cel) (x : Fld) : Int → Option Cel := fun j => if j = x.no then some (gone (f x.no) x.c) else f j
def gath (fs : List Fld) : Int → Option Cel := fs.foldl gstep (fun _ => none)
theorem gath_snoc {fs : List Fld} {k : Nat} (hk : k < fs.length) : gath (fs.take (k + 1)) = gstep (gath (fs.take k)) (fs.getD k fld0) := by
 rw [List.take_succ_eq_append_getElem hk, gath, List.foldl_append]
 simp only [List.foldl_cons, List.foldl_nil, List.getD, List.getElem?_eq_getElem hk, Option.getD_some]
 rfl
def Small (f : Int → Option Cel) : Prop := ∀ j c, f j = some c → c.s.size ≤ 300
theorem gone_small {o : Option Cel} {c : Cel} (ho : ∀ d, o = some d → d.s.size ≤ 300) (hc : c.s.size ≤ 300) : (gone o c).s.size ≤ 300 := by
 cases o with
 | none => exact hc
 | some d => exact cjoin_size (ho d rfl) hc
theorem gstep_small {f : Int → Option Cel} {x : Fld} (hf : Small f) (hx : x.c.s.size ≤ 300) : Small (gstep f x) := by
 intro j c h
 unfold gstep at h
 split at h
 ·cases h
  exact gone_small (fun d hd => hf _ d hd) hx
 ·exact hf j c h
theorem FlAt.put3 {w : World} {b : Nat} {f : Fld} (h : FlAt w b f) (c : Cel) : FlAt (((w.setCell ⟨b, 1, none⟩ (.int .i64 c.n)).setCell ⟨b, 2, none⟩ (.int .i64 c.r)).setCell ⟨b, 3, none⟩ (.string c.s)) b ⟨f.no, c⟩ := by
 unfold FlAt
 rw [heap_setCell_same _ _ _ _ _ _ (heap_setCell_same _ _ _ _ _ _ (heap_setCell_same _ _ _ _ _ _ h))]
 rfl
theorem below_put3' {B : Nat} {a w : World} (h : Below B a w) {b : Nat} (hb : B ≤ b) (u v x : Value) : Below B a (((w.setCell ⟨b, 1, none⟩ u).setCell ⟨b, 2, none⟩ v).setCell ⟨b, 3, none⟩ x) := ((h.setCell hb u).setCell hb v).setCell hb x
def GatherPost (w : World) (fs : List Fld) (e : Ending) (w' : World) : Prop := ∃ b n, e = .returned (.map (some b)) ∧ w.heap.size ≤ b ∧ MIs w' b n (gath fs) ∧ Below w.heap.size w w'
set_option maxHeartbeats 4000000 in
theorem gather_any (A : Option Addr) (len c : Nat) (fs : List Fld) (w : World) (hlaid : Laid w) (hl : fs.length = len) (hlen : len ≤ 900) (h : FsAt w A c fs)
  (hfs : ∀ i, i < len → (Lit.int .i64 (fs.getD i fld0).no).wf = true ∧ (fs.getD i fld0).c.s.size ≤ 300) :
  Calls Tryz.prog 78 #[.slice A len c] w (GatherPost w fs) := by
 obtain ⟨hc1, hc2, hc3, hcell⟩ := h
 simp only [maxLen] at hc2
 have hmm := @run_makeMap Tryz.prog
 have HL := Lib.hid hl
 have HC := Lib.hid hcell
 have HW := Lib.hid hfs
 have HLA := Lib.hid (fun (X : World) (hX : Below w.heap.size w X) => hlaid.below hX (Nat.le_refl _))
 have hlc : len ≤ c := by omega
 have H0 := Lib.hid (And.intro (MIs.made w) ((Below.refl w.heap.size w).alloc (Nat.le_refl _) (.map #[] 0)))
 clear hcell hc1 hl hfs hlaid
 go_enter Tryz.func78, Tryz.ntmps78
 go_wp2
 go_loopw [11] (fun i wr => ∃ k : Nat, k ≤ len ∧ i = .int .i64 k ∧ MIs wr w.heap.size k (gath (fs.take k)) ∧ Small (gath (fs.take k)) ∧ Below w.heap.size w wr) (fun i _ => len - (intOf i).toNat)
 case atStart => exact ⟨0, Nat.zero_le _, rfl, H0.out.1, fun j c h => by simp [gath] at h, H0.out.2⟩
 case round =>
  obtain ⟨k, hk, rfl, hM, hS, hb⟩ := hrel
  by_cases hlt : k < len
  ·obtain ⟨b, off, rfl, hbB, hcc⟩ := HC.out (by rw [HL.out]; omega)
   obtain ⟨c0, c1, c2, c3⟩ := hcc k (by rw [HL.out]; exact hlt)
   have c0 := (hb.cell (p := ⟨b, off + k * 4, none⟩) hbB).trans c0
   have c1 := (hb.cell (p := ⟨b, off + k * 4 + 1, none⟩) hbB).trans c1
   have c2 := (hb.cell (p := ⟨b, off + k * 4 + 2, none⟩) hbB).trans c2
   have c3 := (hb.cell (p := ⟨b, off + k * 4 + 3, none⟩) hbB).trans c3
   have IX := ix_fld b off len c k hlt k rfl
   have hgs := gath_snoc (fs := fs) (k := k) (by rw [HL.out]; exact hlt)
   have hww := HW.out k hlt
   generalize fs.getD k fld0 = f at c0 c1 c2 c3 hgs hww
   obtain ⟨no, x⟩ := f
   dsimp only at c0 c1 c2 c3 hww
   generalize off + k * 4 = o at c0 c1 c2 c3 IX
   have hlt2 := hM.lt
   have hMF := hM.below ((Below.refl wr.heap.size wr).alloc (Nat.le_refl _) (.cells #[.int .i64 no, .int .i64 x.n, .int .i64 x.r, .string x.s] 71)) hlt2
   have LK := hMF.look hww.1
   have HGS := Lib.hid hgs
   have HWF := Lib.hid hww
   have HSM := Lib.hid (gstep_small (x := ⟨no, x⟩) hS hww.2)
   generalize gath (fs.take k) = g at hM hS hMF LK HGS HSM
   have HB := Lib.hid hb
   have HM := Lib.hid hM
   have HS := Lib.hid hS
   clear hcc hgs hww hM hMF hS hb
   cases hg : g no with
   | none =>
    rw [hg] at LK
    dsimp only [Option.getD_none, Option.isSome_none, Cel.v, cel00] at LK
    have HGV := Lib.hid (show gstep g ⟨no, x⟩ = fun j => if j = no then some x else g j by unfold gstep; simp only [hg]; rfl)
    have BN := Lib.hid (((Below.refl wr.heap.size wr).alloc (Nat.le_refl _) (.cells #[.int .i64 no, .int .i64 x.n, .int .i64 x.r, .string x.s] 71)).alloc (by simp) (.cells #[.int .i64 0, .int .i64 0, .string ⟨#[]⟩] 68))
    have MN := Lib.hid (HM.out.below BN.out hlt2)
    clear hg
    go_wp2_with (at_mapUpdate; refine wpList_mapUpdate_cel rfl _ _ _ rfl w.heap.size k g no x rfl rfl rfl MN.out (by omega) HWF.out.1 ?_; intro w5 hM5 hg5)
    have HM5 := Lib.hid hM5
    have HBN := Lib.hid (HB.out.trans (BN.out.mono HB.out.size))
    have HB5 := Lib.hid (HBN.out.grown hg5 HBN.out.size (fun k e => by cases e; exact Nat.le_refl _))
    clear hg5 hM5
    go_roundw
    case rel => exact ⟨k + 1, by omega, by go_num, by rw [HGS.out, HGV.out]; exact HM5.out, by rw [HGS.out]; exact HSM.out, HB5.out⟩
    case measure => simp [intOf]; omega
   | some d =>
    rw [hg] at LK
    dsimp only [Option.getD_some, Option.isSome_some, Cel.v] at LK
    have HGV := Lib.hid (show gstep g ⟨no, x⟩ = fun j => if j = no then some (cjoin d x) else g j by unfold gstep; simp only [hg]; rfl)
    have bN := (((Below.refl wr.heap.size wr).alloc (Nat.le_refl _) (.cells #[.int .i64 no, .int .i64 x.n, .int .i64 x.r, .string x.s] 71)).alloc (by simp) (.cells #[.int .i64 d.n, .int .i64 d.r, .string d.s] 68))
    have BN := Lib.hid bN
    have HBN := Lib.hid (HB.out.trans (bN.mono HB.out.size))
    have HJ := Lib.hid (cjoin_any d x _ (HLA.out _ HBN.out) (HS.out _ _ hg) HWF.out.2)
    have FN := Lib.hid ((FlAt.new wr ⟨no, x⟩).old (.cells #[.int .i64 d.n, .int .i64 d.r, .string d.s] 68))
    dsimp only [Cel.v] at FN HJ
    generalize cjoin d x = y at HGV HJ
    clear hg bN
    go_wp2_with fail
    refine HJ.out.mono ?_
    rintro e w4 ⟨rfl, hb4⟩
    have F4 := FN.out.below hb4 FN.out.lt
    have e1 := F4.c1
    have e2 := F4.c2
    have e3 := F4.c3
    have f1 := F4.fz 1
    have f2 := F4.fz 2
    have f3 := F4.fz 3
    have F5 := F4.put3 y
    have g0 := F5.c0
    have g1 := F5.c1
    have g2 := F5.c2
    have g3 := F5.c3
    have B4 := BN.out.trans (hb4.mono BN.out.size)
    have BP := Lib.hid (below_put3' B4 (Nat.le_refl wr.heap.size) (.int .i64 y.n) (.int .i64 y.r) (.string y.s))
    have MN := Lib.hid (HM.out.below BP.out hlt2)
    dsimp only at g0 g1 g2 g3
    clear hb4 F4 F5 B4 c0 c1 c2 c3
    go_wp2_with (at_mapUpdate; refine wpList_mapUpdate_cel rfl _ _ _ rfl w.heap.size k g no y rfl rfl rfl MN.out (by omega) HWF.out.1 ?_; intro w5 hM5 hg5)
    have HM5 := Lib.hid hM5
    have HBP := Lib.hid (HB.out.trans (BP.out.mono HB.out.size))
    have HB5 := Lib.hid (HBP.out.grown hg5 HBP.out.size (fun k e => by cases e; exact Nat.le_refl _))
    clear hg5 hM5
    go_roundw
    case rel => exact ⟨k + 1, by omega, by go_num, by rw [HGS.out, HGV.out]; exact HM5.out, by rw [HGS.out]; exact HSM.out, HB5.out⟩
    case measure => simp [intOf]; omega
  ·obtain rfl : k = len := by omega
   rw [List.take_of_length_le (by rw [HL.out]; exact Nat.le_refl _)] at hM
   have HM := Lib.hid hM
   have HB := Lib.hid hb
   clear hM hb hS
   go_wp2
   go_ret
   exact ⟨_, _, rfl, Nat.le_refl _, HM.out, HB.out⟩
end
section
open Go.RowKit Go.Shelf WM
attribute [local go_sem] Oper.semAt_some
def riseL (f : Int → Option Cel) : Nat → List (Int × Cel)
 | 0 => []
 | k + 1 => riseL f k ++ (match f k with | some c => [((k : Int), c)] | none => [])
theorem riseL_len (f : Int → Option Cel) : ∀ k, (riseL f k).length ≤ k
 | 0 => Nat.le_refl _
 | k + 1 => by
  have := riseL_len f k
  rw [riseL, List.length_append]
  cases f k <;> simp <;> omega
theorem riseL_none {f : Int → Option Cel} {k : Nat} (h : f k = none) : riseL f (k + 1) = riseL f k := by simp [riseL, h]
theorem riseL_some {f : Int → Option Cel} {k : Nat} {c : Cel} (h : f k = some c) : riseL f (k + 1) = riseL f k ++ [((k : Int), c)] := by simp [riseL, h]
def encC (x : Int × Cel) : Array Value := #[.int .i64 x.1, x.2.v]
def Kp2 (Bx bm : Nat) (A B : World) : Prop := B.heap[Bx]? = A.heap[Bx]? ∧ B.heap[bm]? = A.heap[bm]?
def BoxM (w : World) (Bx bm : Nat) : Prop := w.heap[Bx]? = some (.cells #[.map (some bm)] 147)
theorem BoxM.lt {w : World} {Bx bm : Nat} (h : BoxM w Bx bm) : Bx < w.heap.size := (Array.getElem?_eq_some_iff.1 h).1
set_option maxRecDepth 100000 in
set_option maxHeartbeats 4000000 in
theorem rise1_in (n : Nat) (hn : 1 ≤ n) (l Bx bm N : Nat) (f : Int → Option Cel) (J Jx : List (Int × Cel) → World → Prop) (W : World) (hJ : AbidesFrom W.heap.size J)
  (hY : ∀ pre x W, J pre W → pre.length < 8 → YieldAt Fence.wide (n - 1) Tryz.prog l (encC x) W fun e W' =>
   (e = .returned (.bool true) ∧ J (pre ++ [x]) W' ∧ Kp2 Bx bm W W') ∨ (e = .returned (.bool false) ∧ Jx (pre ++ [x]) W'))
  (hBx : BoxM W Bx bm) (hM : MIs W bm N f) (h0 : J [] W) :
  CallsIn Fence.wide n Tryz.prog 83 #[.func (.yield l) #[] #[], .pointer (some ⟨Bx, 0, none⟩)] W fun e W' => (∃ v, e = .returned v) ∧
   ((∃ ys, ys = riseL f 8 ∧ J ys W') ∨ (∃ pre, True ∧ Jx pre W')) := by
 refine callsIn_of_wp Tryz.func83 rfl trivial ?_ rfl
 simp only [Tryz.ntmps83, List.size_toArray, List.length_cons, List.length_nil, Nat.reduceAdd, Nat.reduceSub, Array.replicate_succ, Array.replicate_zero, List.push_toArray, List.append_toArray, List.nil_append, List.cons_append]
 gi_wp2
 gi_loopw [6] (fun i wr => ∃ k : Nat, k ≤ 8 ∧ i = .int .i64 k ∧ J (riseL f k) wr ∧ MIs wr bm N f ∧ BoxM wr Bx bm) (fun i _ => 8 - (intOf i).toNat)
 case atStart => exact ⟨0, Nat.zero_le _, rfl, h0, hM, hBx⟩
 case round =>
  obtain ⟨k, hk, rfl, hJs, hMs, hBs⟩ := hrel
  have cB : wr.cell? ⟨Bx, 0, none⟩ = some (.map (some bm)) := by rw [cell_of_row _ _ _ _ _ _ hBs]; rfl
  by_cases hlt : k < 8
  ·have LK := hMs.look (k := (k : Int)) (wf_i64 (by omega) (by omega))
   cases hf : f k with
   | none =>
    rw [hf] at LK
    dsimp only [Option.getD_none, Option.isSome_none, Cel.v, cel00] at LK
    have hJ1 := hJ _ _ _ none hJs (World.grownBy_alloc wr (.cells #[.int .i64 0, .int .i64 0, .string ⟨#[]⟩] 68) none) (fun r e => by cases e)
    have hb := (Below.refl wr.heap.size wr).alloc (Nat.le_refl _) (.cells #[.int .i64 0, .int .i64 0, .string ⟨#[]⟩] 68)
    have HJ1 := Lib.hid hJ1
    have HM1 := Lib.hid (hMs.below hb hMs.lt)
    have HB1 : Hid (BoxM (wr.alloc (.cells #[.int .i64 0, .int .i64 0, .string ⟨#[]⟩] 68)) Bx bm) := Lib.hid ((hb.block _ hBs.lt).trans hBs)
    have HR := Lib.hid (riseL_none hf)
    clear hJ1 hb hf hJs hMs hBs
    gi_wp2
    refine ⟨fun _ h => (by cases h), ?_⟩
    gi_wp2
    go_roundw
    case rel => exact ⟨k + 1, by omega, by simp, by rw [HR.out]; exact HJ1.out, HM1.out, HB1.out⟩
    case measure => simp [intOf]; omega
   | some c =>
    rw [hf] at LK
    dsimp only [Option.getD_some, Option.isSome_some, Cel.v] at LK
    have hJ1 := hJ _ _ _ none hJs (World.grownBy_alloc wr (.cells #[.int .i64 c.n, .int .i64 c.r, .string c.s] 68) none) (fun r e => by cases e)
    have hb := (Below.refl wr.heap.size wr).alloc (Nat.le_refl _) (.cells #[.int .i64 c.n, .int .i64 c.r, .string c.s] 68)
    obtain ⟨fn, tmps, assign, body, hy, hR⟩ := hY _ ((k : Int), c) _ hJ1 (Nat.lt_of_le_of_lt (riseL_len f k) hlt)
    dsimp only [encC, Cel.v] at hy
    have HM1 := Lib.hid (hMs.below hb hMs.lt)
    have HB1 : Hid (BoxM (wr.alloc (.cells #[.int .i64 c.n, .int .i64 c.r, .string c.s] 68)) Bx bm) := Lib.hid ((hb.block _ hBs.lt).trans hBs)
    have HRL := Lib.hid (riseL_some hf)
    have HRR := Lib.hid hR
    clear hJ1 hb hf hJs hMs hBs hR
    gi_wp2
    refine HRR.out.mono ?_
    rintro e W3 (⟨rfl, hJ3, hk3⟩ | ⟨rfl, hJx3⟩)
    ·have HJ3 := Lib.hid hJ3
     have HM3 := Lib.hid (HM1.out.same hk3.2)
     have HB3 : Hid (BoxM W3 Bx bm) := Lib.hid (hk3.1.trans HB1.out)
     clear hJ3 hk3
     gi_wp2
     go_roundw
     case rel => exact ⟨k + 1, by omega, by simp, by rw [HRL.out]; exact HJ3.out, HM3.out, HB3.out⟩
     case measure => simp [intOf]; omega
    ·have HX := Lib.hid hJx3
     clear hJx3
     gi_wp2
     refine bodyPost_ret (results_none rfl _ _ _) rfl ?_
     exact ⟨⟨_, rfl⟩, .inr ⟨_, trivial, HX.out⟩⟩
  ·obtain rfl : k = 8 := by omega
   have HJ8 := Lib.hid hJs
   clear hJs hMs hBs
   gi_wp2
   go_end0
   exact ⟨⟨_, rfl⟩, .inl ⟨_, rfl, HJ8.out⟩⟩
theorem rise_stops (n : Nat) (hn : 1 ≤ n) (Bx bm N : Nat) (f : Int → Option Cel) (w : World) (hBx : BoxM w Bx bm) (hM : MIs w bm N f) :
  SeqStopsK Fence.wide n Tryz.prog 83 #[.pointer (some ⟨Bx, 0, none⟩)] encC (Kp2 Bx bm) (fun ys => ys = riseL f 8) (fun _ => True) 8 w := fun l J Jx W hW hJ _ hY h0 =>
 rise1_in n hn l Bx bm N f J Jx W hJ hY ((hW.block _ hBx.lt).trans hBx) (hM.below hW hM.lt) h0
theorem rising_any (bm : Nat) (w : World) : Calls Tryz.prog 77 #[.map (some bm)] w fun e w' =>
  e = .returned (.func (.func 83) #[] #[.pointer (some ⟨w.heap.size, 0, none⟩)]) ∧ w' = w.alloc (.cells #[.map (some bm)] 147) := by
 go_enter Tryz.func77, Tryz.ntmps77
 go_wp2
 go_ret
 exact ⟨rfl, rfl⟩
end
end
end Go.Proofs.YtkjimhlpbgeagaaGreatDoor
