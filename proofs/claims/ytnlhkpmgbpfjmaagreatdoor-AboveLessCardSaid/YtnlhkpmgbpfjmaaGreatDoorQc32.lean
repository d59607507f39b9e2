import Derived.Test.YtnlhkpmgbpfjmaaGreatDoorQc0
import Derived.Test.YtnlhkpmgbpfjmaaGreatDoorQc24
import Derived.Test.YtnlhkpmgbpfjmaaGreatDoorQc25
import Derived.Test.YtnlhkpmgbpfjmaaGreatDoorQc31
import Derived.Test.YtnlhkpmgbpfjmaaGreatDoorQc18
import Derived.Test.YtnlhkpmgbpfjmaaGreatDoorQc14
import Derived.Test.YtnlhkpmgbpfjmaaGreatDoorQc28
/-
  What the functions that a law of this layer reaches answer, part 32. Nothing that was there is written.
-/
namespace Go.Proofs.YtnlhkpmgbpfjmaaGreatDoor
set_option linter.unusedVariables false
set_option linter.unusedSimpArgs false
section
open Go.RowKit Go.Shelf WM
set_option maxRecDepth 100000
attribute [local go_sem] Oper.semAt_some
theorem abides_belowP {α : Type} {B : Nat} {J : α → World → Prop} (hJ : AbidesFrom B J) {s : α} {W W' : World} (h : J s W) (hb : Below W.heap.size W W') : J s W' :=
 hJ _ _ _ none h ⟨hb.os, hb.tape, hb.output, hb.size, fun k hk _ => hb.block k hk⟩ (fun r e => by cases e)
theorem wpListIn_load_want {F : Fence} {n : Nat} {P : Program} {ops : Array Oper} {rest : List Oper} {o : Oper} {a : Act} {w : World} {Q : Exit → Act → World → Prop} (hw : Region.wanted o (yielded ops a.tmps) = true) (ty : TypeId) (x : Operand) (hop : o.op = .load ty x) (ad : Addr) (hx : a.eval x = .pointer (some ad)) (v : Value) (hv : (loadVar ty ad).run P w = .ok v w)
  (hK : wpListIn F n P ops Q rest (a.put o.dst v) w) : wpListIn F n P ops Q (o :: rest) a w := by
 refine BigFrame.wpListIn_want hw fun K' hK' => ?_
 unfold Oper.wpIn
 refine ⟨by simp [Oper.about, hop], ?_⟩
 rw [Oper.semAt_plain F _ _ (by rw [hop]; intro c hc'; cases hc')]
 unfold execOp
 simp only [hop, hx, Instr.loadAt, Instr.sureAddr, Sem.run_bind, Sem.run_pure, Result.andThen_ok, hv]
 exact hK' _ _ hK
def KpP (n0 Bx Bm : Nat) (X Y : World) : Prop := Below n0 X Y ∧ Y.heap[Bx]? = X.heap[Bx]? ∧ Y.heap[Bm]? = X.heap[Bm]?
theorem KpP.trans {n0 Bx Bm : Nat} {X Y Z : World} (h : KpP n0 Bx Bm X Y) (k : KpP n0 Bx Bm Y Z) : KpP n0 Bx Bm X Z := ⟨h.1.trans k.1, k.2.1.trans h.2.1, k.2.2.trans h.2.2⟩
def encP (x : RcA) : Array Value := #[.agg x.cells]
def GP (x : RcA) (X : World) : Prop := RvAt X x ∧ FTag X x.A
set_option maxHeartbeats 16000000 in
theorem parts1_in (n : Nat) (hn : 1 ≤ n) (l Bx Bm : Nat) (d : Bk) (m : MnA) (w V : World) (hlaid : Laid w) (hd : BkAt w d) (hm : m.Ok w) (hmm : mmay m.m = true) (hfl : ∀ k, k < d.xs.length → (d.xs.getD k rcA0).R.fs.length ≤ 1000) (hsz : ∀ k, k < d.xs.length → ∀ j, j < (d.xs.getD k rcA0).R.fs.length → ((d.xs.getD k rcA0).R.fs.getD j fld0).c.s.size ≤ 100000000) (hbl : d.xs.length ≤ 1000)
  (J : List RcA → World → Prop) (hJ : AbidesFrom V.heap.size J)
  (hY : ∀ pre x X, J pre X → GP x X → pre.length < 1001 → YieldAt Fence.wide (n - 1) Tryz.prog l (encP x) X fun e Y => e = .returned (.bool true) ∧ J (pre ++ [x]) Y ∧ KpP w.heap.size Bx Bm X Y)
  (hBx : BoAt V Bx (.slice d.A d.xs.length d.c)) (hBm : MnAt V Bm m) (hV : Below w.heap.size w V) (h0 : J [] V) :
  CallsIn Fence.wide n Tryz.prog 75 #[.func (.yield l) #[] #[], .pointer (some ⟨Bx, 0, none⟩), .pointer (some ⟨Bm, 0, none⟩)] V fun e Y => (∃ v, e = .returned v) ∧ ∃ ys : List RcA, ys.map (·.R) = d.rs.filterMap (apart m.m) ∧ J ys Y := by
 have HLA := Lib.hid (fun (X : World) (hX : Below w.heap.size w X) => hlaid.below hX (Nat.le_refl _))
 have HM := Lib.hid hm
 have HBD := Lib.hid (mmay_bd hmm)
 have HJ := Lib.hid (fun pre X Y (h : J pre X) (hb : Below X.heap.size X Y) => abides_belowP hJ h hb)
 have HY := Lib.hid hY
 have HV := Lib.hid hV
 have H0 := Lib.hid h0
 have HRV := Lib.hid (fun i (hi : i < d.xs.length) => RsAt.rv hd hi)
 have HCELL := Lib.hid hd.2.2.2.1
 have HFL := Lib.hid hfl
 have HSZ := Lib.hid hsz
 have HBL := Lib.hid hbl
 have hc2 := hd.2.1
 simp only [maxLen] at hc2
 have hc1 := hd.1
 have c0 := hBx.c0
 have HBX := Lib.hid hBx
 have HBM := Lib.hid hBm
 have HMV : Hid (m.v = .agg m.cs.toArray) := Lib.hid rfl
 have HPT := Lib.hid (fun k (hk : k < d.xs.length) => parts_take hmm hk)
 have HPF := Lib.hid (fun k => parts_few (m := m.m) (xs := d.xs) k)
 have HP0 := Lib.hid (show ((d.xs.take 0).map (·.R)).filterMap (apart m.m) = [] by simp)
 have HPE := Lib.hid (show ((d.xs.take d.xs.length).map (·.R)).filterMap (apart m.m) = d.rs.filterMap (apart m.m) by rw [List.take_length]; rfl)
 generalize hFF : (fun k => ((d.xs.take k).map (·.R)).filterMap (apart m.m)) = FF at *
 have HPT := Lib.hid (fun k (hk : k < d.xs.length) => show FF (k + 1) = FF k ++ (if hasP (ppart m.m (d.xs.getD k rcA0).R) = true then [ppart m.m (d.xs.getD k rcA0).R] else []) from by rw [← hFF]; exact HPT.out k hk)
 have HPF := Lib.hid (fun k => show (FF k).length ≤ k from by rw [← hFF]; exact HPF.out k)
 have HP0 := Lib.hid (show FF 0 = [] from by rw [← hFF]; exact HP0.out)
 have HPE := Lib.hid (show FF d.xs.length = d.rs.filterMap (apart m.m) from by rw [← hFF]; exact HPE.out)
 have hzr : ∀ w : World, (zeroValue 36).run Tryz.prog w = .ok (.agg rcA0.cells) w := zeroRec
 clear hFF hlaid hd hm hmm hfl hsz hbl hJ hY hBx hBm hV h0
 generalize hnl : d.xs.length = N at *
 have HNL := Lib.hid hnl
 clear hnl
 refine callsIn_of_wp Tryz.func75 rfl trivial ?_ rfl
 simp only [Tryz.ntmps75, List.size_toArray, List.length_cons, List.length_nil, Nat.reduceAdd, Nat.reduceSub, Array.replicate_succ, Array.replicate_zero, List.push_toArray, List.append_toArray, List.nil_append, List.cons_append]
 refine wpIn_wide.2 ?_
 go_wp2
 clear c0
 go_loopw [10] (fun i wr => ∃ (k : Nat) (pre : List RcA), k ≤ N ∧ i = .int .i64 k ∧ pre.map (·.R) = FF k ∧ J pre wr ∧ Below w.heap.size w wr ∧ BoAt wr Bx (.slice d.A N d.c) ∧ MnAt wr Bm m) (fun i _ => N - (intOf i).toNat)
 case atStart => exact ⟨0, [], Nat.zero_le _, rfl, by rw [HP0.out]; rfl, H0.out, HV.out, HBX.out, HBM.out⟩
 case round =>
  obtain ⟨k, pre, hk, rfl, hp, hJs, hww, hbx, hbm⟩ := hrel
  have HP := Lib.hid hp
  have HJS := Lib.hid hJs
  have BW := Lib.hid hww
  have HKN := Lib.hid hk
  have QX := Lib.hid hbx
  have QM := Lib.hid hbm
  clear hp hJs hww hbx hbm
  by_cases hlt : k < N
  ·have t1 : (k : Int) < (N : Int) := by omega
   obtain ⟨b1, off1, hA1, hb1w, hx1⟩ := HCELL.out (by omega)
   have ix1 := ix_rec b1 off1 N d.c k hlt k rfl
   rw [← hA1] at ix1
   have L13 := Lib.hid (show (loadVar 36 ⟨b1, off1 + k * 19, none⟩).run Tryz.prog wr = .ok (.agg (d.xs.getD k rcA0).cells) wr from ((hx1 k hlt).same (BW.out.block b1 hb1w)).load)
   have HXV := Lib.hid ((HRV.out k hlt).below BW.out (Nat.le_refl _))
   have HFX := Lib.hid (HFL.out k hlt)
   have HSX := Lib.hid (HSZ.out k hlt)
   have HPK := Lib.hid (HPT.out k hlt)
   have HPL := Lib.hid (HPF.out k)
   generalize d.xs.getD k rcA0 = x at *
   have ZX := Lib.hid HXV.out.len
   have hba : Below wr.heap.size wr (wr.alloc (.cells x.cells 36)) := (Below.refl _ _).alloc (Nat.le_refl _) _
   have J1 := Lib.hid (HJ.out _ _ _ HJS.out hba)
   have BW1 := Lib.hid (BW.out.trans (hba.mono BW.out.size))
   have QX1 := Lib.hid (QX.out.below hba QX.out.lt)
   have QM1 := Lib.hid (MnAt.below QM.out hba (MnAt.lt QM.out))
   have X5 := Lib.hid (XAt.new wr ZX.out)
   have L14 := Lib.hid X5.out.load
   have L15 := Lib.hid (load_mn QM1.out (MnA.below HM.out (BW1.out.mono (Nat.le_refl _))))
   rw [HMV.out] at L15
   have CP := Lib.hid (partOf_any x m _ (HLA.out _ BW1.out) (HXV.out.below hba (Nat.le_refl _)) (MnA.below HM.out (BW1.out.mono (Nat.le_refl _))) HBD.out HSX.out HFX.out)
   unfold PartPost at CP
   rw [HMV.out] at CP
   clear hx1 hA1 hb1w hba
   refine (wpIn_wide (n := n)).1 ?_
   gi_wp2_with (first | ((with_reducible refine wpListIn_load_by ?e0 36 (.tmp 12) ?e1 ⟨b1, off1 + k * 19, none⟩ ?e2 _ L13.out ?_); (case e0 => rfl); (case e1 => rfl); (case e2 => rfl)) | ((with_reducible refine wpListIn_store_newx (w := wr) ?e0 (.tmp 5) (.tmp 13) ?e1 wr.heap.size ?e2 ?e3 x ?e4 ZX.out ?_); (case e0 => rfl); (case e1 => rfl); (case e2 => rfl); (case e3 => rfl); (case e4 => rfl)) | ((with_reducible refine wpListIn_load_by ?e0 36 (.tmp 5) ?e1 ⟨wr.heap.size, 0, none⟩ ?e2 _ L14.out ?_); (case e0 => rfl); (case e1 => rfl); (case e2 => rfl)) | ((with_reducible refine wpListIn_load_by ?e0 29 (.tmp 2) ?e1 ⟨Bm, 0, none⟩ ?e2 _ L15.out ?_); (case e0 => rfl); (case e1 => rfl); (case e2 => rfl)))
   refine ⟨trivial, (callsIn_wide.2 CP.out).mono ?_⟩
   rintro e w3 ⟨y, rfl, hy1, hy2, hy3, hb⟩
   have hbb : Below w3.heap.size w3 (w3.alloc (.cells y.cells 36)) := (Below.refl _ _).alloc (Nat.le_refl _) _
   have hb3 := hb.trans (hbb.mono hb.size)
   have J3 := Lib.hid (HJ.out _ _ _ J1.out hb3)
   have BW3 := Lib.hid (BW1.out.trans (hb3.mono BW1.out.size))
   have QX3 := Lib.hid (QX1.out.below hb3 QX1.out.lt)
   have QM3 := Lib.hid (MnAt.below QM1.out hb3 (MnAt.lt QM1.out))
   have X6 := Lib.hid (XAt.new (x := y) w3 hy2.len)
   have ZY := Lib.hid hy2.len
   have YV := Lib.hid (hy2.below hbb (Nat.le_refl _))
   have YT := Lib.hid (hy3.belowA hbb)
   have L17 := Lib.hid X6.out.load
   have HYR := Lib.hid hy1
   have CH := Lib.hid (hasAny_any y (w3.alloc (.cells y.cells 36)) ZY.out)
   clear hy1 hy2 hy3 hb hbb hb3 ix1
   cases hh : hasP y.R
   all_goals
    rw [hh] at CH
    gi_wp2_with (first | ((with_reducible refine wpListIn_store_newx (w := w3) ?e0 (.tmp 6) (.tmp 16) ?e1 w3.heap.size ?e2 ?e3 y ?e4 ZY.out ?_); (case e0 => rfl); (case e1 => rfl); (case e2 => rfl); (case e3 => rfl); (case e4 => rfl)) | ((with_reducible refine wpListIn_load_by ?e0 36 (.tmp 6) ?e1 ⟨w3.heap.size, 0, none⟩ ?e2 _ L17.out ?_); (case e0 => rfl); (case e1 => rfl); (case e2 => rfl)))
    refine ⟨trivial, (callsIn_wide.2 CH.out).mono ?_⟩
    rintro e w4 ⟨rfl, hb⟩
    have J4 := Lib.hid (HJ.out _ _ _ J3.out hb)
    have BW4 := Lib.hid (BW3.out.trans (hb.mono BW3.out.size))
    have QX4 := Lib.hid (QX3.out.below hb QX3.out.lt)
    have QM4 := Lib.hid (MnAt.below QM3.out hb (MnAt.lt QM3.out))
    have X7 := Lib.hid (X6.out.below hb X6.out.lt)
    have YV4 := Lib.hid (YV.out.below hb (Nat.le_refl _))
    have YT4 := Lib.hid (YT.out.belowA hb)
    clear hb
   ·have HP2 := Lib.hid (show pre.map (·.R) = FF (k + 1) by rw [HPK.out, HP.out, ← HYR.out, hh]; simp)
    clear hh
    gi_wp2
    refine ⟨(fun f hf => by cases hf), ?_⟩
    gi_wp2
    go_roundw
    case rel => exact ⟨k + 1, pre, by omega, by go_num, HP2.out, J4.out, BW4.out, QX4.out, QM4.out⟩
    case measure => simp [intOf]; omega
   ·have HP2 := Lib.hid (show (pre ++ [y]).map (·.R) = FF (k + 1) by rw [HPK.out, List.map_append, HP.out, ← HYR.out, hh]; simp)
    have hl2 : pre.length < 1001 := by
     have h := congrArg List.length HP.out
     rw [List.length_map] at h
     have := HPL.out
     have := HBL.out
     have := HKN.out
     omega
    obtain ⟨fn, tmps, assign, body, hy, hR⟩ := HY.out pre y w4 J4.out ⟨YV4.out, YT4.out⟩ hl2
    unfold encP at hy
    have HRR := Lib.hid hR
    have L21 := Lib.hid X7.out.load
    clear hh hR hl2
    gi_wp2_with (first | ((with_reducible refine wpListIn_load_want ?e0 36 (.tmp 6) ?e1 ⟨w3.heap.size, 0, none⟩ ?e2 _ L21.out ?_); (case e0 => rfl); (case e1 => rfl); (case e2 => rfl)))
    refine HRR.out.mono ?_
    rintro e2 W5 ⟨rfl, hJ5, hk5⟩
    have FIN := Lib.hid (And.intro hJ5 (And.intro (BW4.out.trans hk5.1) (And.intro (QX4.out.same hk5.2.1) (show MnAt W5 Bm m from hk5.2.2.trans QM4.out))))
    clear hJ5 hk5
    gi_wp2
    go_roundw
    case rel => exact ⟨k + 1, _, by omega, by go_num, HP2.out, FIN.out.1, FIN.out.2.1, FIN.out.2.2.1, FIN.out.2.2.2⟩
    case measure => simp [intOf]; omega
  ·obtain rfl : k = N := by omega
   have t1 : ¬ (k : Int) < (k : Int) := by omega
   have HF := Lib.hid (show pre.map (·.R) = d.rs.filterMap (apart m.m) by rw [HP.out, HPE.out])
   go_wp2
   exact ⟨rfl, .tuple #[], by simp [results, Tryz.results75], ⟨_, rfl⟩, _, HF.out, HJS.out⟩
theorem RJ.turned {α : Type} {T : TKind α} {te tc : TypeId} {bl base : Nat} {pre : List Value} {v : Value} {xs : List α} {X Y : World} {row : Option Nat} (h : RJ T te tc bl base pre v xs X) (hg : X.grownBy Y row) (hr : ∀ r, row = some r → ∃ o : Obj, X.heap[r]? = some o ∧ o.isCells = false) : RJ T te tc bl base pre v xs Y := by
 have hne : ∀ {b : Nat} {c : Array Value} {t : TypeId}, X.heap[b]? = some (.cells c t) → some b ≠ row := fun h e => by
  obtain ⟨o, ho, hc⟩ := hr _ e.symm
  rw [h] at ho
  cases ho
  cases hc
 exact ⟨(hg.block _ (Array.getElem?_eq_some_iff.1 h.blk).1 (hne h.blk)).trans h.blk, own_turned h.own hg hr, fun x hx => T.kept (h.ok x hx).1 (h.ok x hx).2 hg (fun g e t _ c hc => hne hc e.symm), h.lt, Nat.le_trans h.le hg.size⟩
def JP (w : World) (n0 g Bx Bm : Nat) (d : Bk) (m : MnA) (pre : List RcA) (X : World) : Prop := ∃ v, RJ TRc 36 22 g n0 [] v pre X ∧ BoAt X Bx (.slice d.A d.xs.length d.c) ∧ MnAt X Bm m ∧ Below w.heap.size w X
section
variable {w X Y : World} {n0 g Bx Bm B : Nat} {d : Bk} {m : MnA} {pre : List RcA} {x : RcA} {v v' : Value}
theorem JP_own (hB : w.heap.size ≤ B) : OwnFrom B (JP w n0 g Bx Bm d m) := by
 rintro s X Y row ⟨v, h1, h2, h3, h4⟩ hg hr
 have hr' : ∀ r, row = some r → ∃ o : Obj, X.heap[r]? = some o ∧ o.isCells = false := fun r e => (hr r e).2
 have hne : ∀ {b : Nat} {c : Array Value} {t : TypeId}, X.heap[b]? = some (.cells c t) → some b ≠ row := fun h e => by
  obtain ⟨o, ho, hc⟩ := hr' _ e.symm
  rw [h] at ho
  cases ho
  cases hc
 exact ⟨v, h1.turned hg hr', h2.same (hg.block _ h2.lt (hne h2)), (hg.block _ (MnAt.lt h3) (hne h3)).trans h3, ownFrom_below (β := Unit) (Nat.le_refl _) hB () X Y row h4 hg hr⟩
theorem JP_step (h : RJ TRc 36 22 g n0 [] v pre X) (hx : BoAt X Bx (.slice d.A d.xs.length d.c)) (hm : MnAt X Bm m) (hb : Below w.heap.size w X) (hwg : w.heap.size ≤ g) (hgx : g < Bx) (hgm : g < Bm) (hxn : Bx < n0) (hmn : Bm < n0) (hy : RvAt X x) (ht : FTag X x.A)
  (hO : Y.ownsRow n0 36 KRc.n v' (pre.length + 1) ((pre ++ [x]).flatMap KRc.cs)) (hG : (X.alloc (.cells x.cells 36)).grownBy Y v.ownBlock) :
  RM TRc 36 22 g n0 [] v v' (pre ++ [x]) Y ∧ KeepsFrom n0 X (Y.setCell ⟨g, 0, none⟩ v') ∧ KpP w.heap.size Bx Bm X (Y.setCell ⟨g, 0, none⟩ v') ∧ JP w n0 g Bx Bm d m (pre ++ [x]) (Y.setCell ⟨g, 0, none⟩ v') := by
 have ha : Below X.heap.size X (X.alloc (.cells x.cells 36)) := (Below.refl _ _).alloc (Nat.le_refl _) _
 have h1 := h.below ha
 have hM := h1.grown (y := x) ⟨hy.below ha (Nat.le_refl _), ht.belowA ha⟩ hO hG (by decide)
 have hown : ∀ j, v.ownBlock = some j → n0 ≤ j := fun j hj => own_base h1.own hj
 have hblk : ∀ q, q < n0 → q ≠ g → (Y.setCell ⟨g, 0, none⟩ v').heap[q]? = X.heap[q]? := fun q hq hne => by
  rw [Below.heap_setCell _ _ _ q hne]
  have hqX : q < X.heap.size := Nat.lt_of_lt_of_le hq h.le
  exact (hG.block q (Nat.lt_of_lt_of_le hqX ha.size) (fun e => by have := hown q e.symm; omega)).trans (ha.block q hqX)
 have hB2 : Below w.heap.size X (Y.setCell ⟨g, 0, none⟩ v') := ((ha.mono hb.size).grown hG (Nat.le_trans hb.size ha.size) (fun j e => by have := hown j e; have := h.lt; omega)).setCell (p := ⟨g, 0, none⟩) hwg v'
 have hKx := hblk Bx hxn (by omega)
 have hKm := hblk Bm hmn (by omega)
 refine ⟨hM, ?_, ⟨hB2, hKx, hKm⟩, v', hM.store (by decide) rfl, hx.same hKx, hKm.trans hm, hb.trans hB2⟩
 refine ((KeepsOthers.alloc X (.cells x.cells 36)).from n0).trans (((KeepsOthers.of_grownBy hG fun j o ej hj => ?_).from n0).trans ((KeepsOthers.setCell _ _ _).from n0))
 rcases h1.own.2 with ⟨rfl, _⟩ | ⟨g', cap, cur, rfl, _, hgb, _⟩
 ·simp [Value.ownBlock] at ej
 ·obtain rfl : g' = j := by simpa [Value.ownBlock] using ej
  rw [hgb] at hj; cases hj; rfl
end
theorem bmay_bd {d : Bk} (h : bmay d.rs = true) : d.xs.length ≤ 10 ∧ (∀ k, k < d.xs.length → (d.xs.getD k rcA0).R.fs.length ≤ 1000) ∧ ∀ k, k < d.xs.length → ∀ j, j < (d.xs.getD k rcA0).R.fs.length → ((d.xs.getD k rcA0).R.fs.getD j fld0).c.s.size ≤ 100000000 := by
 obtain ⟨h1, h2, h3⟩ := bmay_iff.1 h
 have hk : ∀ k, k < d.xs.length → (d.xs.getD k rcA0).R.may = true := fun k hk => h2 _ (List.mem_map.2 ⟨_, by rw [List.getD_eq_getElem?_getD, List.getElem?_eq_getElem hk]; exact List.getElem_mem _, rfl⟩)
 refine ⟨by unfold Bk.rs at h1; rwa [List.length_map] at h1, fun k h => by have := rmay_len (hk k h); omega, fun k h j hj => ?_⟩
 have h4 := (cmay_iff.1 (rmay_all (hk k h) _ (show (d.xs.getD k rcA0).R.fs.getD j fld0 ∈ (d.xs.getD k rcA0).R.fs by rw [List.getD_eq_getElem?_getD (l := (d.xs.getD k rcA0).R.fs), List.getElem?_eq_getElem hj]; exact List.getElem_mem _)).2.2.1).2.2
 omega
def PartsPost (w : World) (V : List Rc) (e : Ending) (w' : World) : Prop := ∃ b : Bk, e = .returned (.slice b.A b.xs.length b.c) ∧ b.rs = V ∧ BkAt w' b ∧ (∀ x ∈ b.xs, FTag w' x.A) ∧ Below w.heap.size w w'
theorem parts_none {w w' : World} (hb : Below w.heap.size w w') : PartsPost w [] (.returned (.slice none 0 0)) w' := ⟨bk0, rfl, rfl, BkAt.zero _, (fun x hx => by cases hx), hb⟩
theorem parts_end {w X Y : World} {n0 g : Nat} {v : Value} {ys : List RcA} {V : List Rc} (h : RJ TRc 36 22 g n0 [] v ys Y) (hV : ys.map (·.R) = V) (hb : Below w.heap.size w Y) : PartsPost w V (.returned v) Y := by
 obtain ⟨A, c, rfl⟩ := own_slice h.own
 exact ⟨⟨ys, A, c⟩, rfl, hV, RsAt.own (base := n0) h.own (fun x hx => (h.ok x hx).1), (fun x hx => (h.ok x hx).2), hb⟩
set_option maxHeartbeats 16000000 in
theorem parts14_any (d : Bk) (m : MnA) (w : World) (hlaid : Laid w) (hd : BkAt w d) (hm : m.Ok w) : Calls Tryz.prog 16 #[.agg #[.slice d.A d.xs.length d.c], m.v] w (PartsPost w (aparts d.rs m.m)) := by
 have HMV : Hid (m.v = .agg m.cs.toArray) := Lib.hid rfl
 have HLA := Lib.hid (fun (X : World) (hX : Below w.heap.size w X) => hlaid.below hX (Nat.le_refl _))
 have T0 := Lib.hid ((BoAt.new w (.slice d.A d.xs.length d.c)).old (.cells m.cs.toArray 29))
 have M0 := Lib.hid (show MnAt ((w.alloc (.cells #[.slice d.A d.xs.length d.c] 24)).alloc (.cells m.cs.toArray 29)) (w.heap.size + 1) m from by have := MnAt.new (w.alloc (.cells #[.slice d.A d.xs.length d.c] 24)) m; rw [World.size_alloc] at this; exact this)
 have B0 := Lib.hid (((Below.refl w.heap.size w).alloc (Nat.le_refl _) (.cells #[.slice d.A d.xs.length d.c] 24)).alloc (by rw [World.size_alloc]; omega) (.cells m.cs.toArray 29))
 have L7 := Lib.hid T0.out.load
 have CB := Lib.hid (bmay_any d _ (hd.below B0.out (Nat.le_refl _)))
 have HD := Lib.hid hd
 have HM := Lib.hid hm
 have HV := Lib.hid (show aparts d.rs m.m = if bmay d.rs && mmay m.m then d.rs.filterMap (apart m.m) else [] from rfl)
 generalize aparts d.rs m.m = V at *
 clear hd hm hlaid
 rw [HMV.out]
 cases hb : bmay d.rs
 ·rw [hb] at CB HV
  have HF := Lib.hid (show V = [] by rw [HV.out]; rfl)
  have HZ := Lib.hid (fun (X : World) (hX : Below w.heap.size w X) => parts_none hX)
  clear HV hb
  rw [HF.out]
  generalize PartsPost w [] = RR at *
  go_enter Tryz.func16, Tryz.ntmps16
  go_wp2_with (first | ((with_reducible refine wpList_load_by (o := ⟨some 7, .load 24 (.tmp 2), _, _, _, _⟩) ?e1 24 (.tmp 2) ?e2 ⟨w.heap.size, 0, none⟩ ?e3 _ L7.out ?_); (case e1 => rfl); (case e2 => rfl); (case e3 => rfl)))
  refine CB.out.mono ?_
  rintro e w1 ⟨rfl, hb⟩
  have B1 := Lib.hid (B0.out.trans (hb.mono B0.out.size))
  clear hb
  go_wp2
  exact HZ.out _ B1.out
 ·rw [hb] at CB HV
  have HBB := Lib.hid hb
  clear hb
  cases hq : mmay m.m
  ·rw [hq] at HV
   have HQ := Lib.hid hq
   have HF := Lib.hid (show V = [] by rw [HV.out]; rfl)
   have HZ := Lib.hid (fun (X : World) (hX : Below w.heap.size w X) => parts_none hX)
   clear HV hq
   rw [HF.out]
   generalize PartsPost w [] = RR at *
   go_enter Tryz.func16, Tryz.ntmps16
   go_wp2_with (first | ((with_reducible refine wpList_load_by (o := ⟨some 7, .load 24 (.tmp 2), _, _, _, _⟩) ?e1 24 (.tmp 2) ?e2 ⟨w.heap.size, 0, none⟩ ?e3 _ L7.out ?_); (case e1 => rfl); (case e2 => rfl); (case e3 => rfl)))
   refine CB.out.mono ?_
   rintro e w1 ⟨rfl, hb⟩
   have B1 := Lib.hid (B0.out.trans (hb.mono B0.out.size))
   have M1 := Lib.hid (MnAt.below M0.out hb (MnAt.lt M0.out))
   have L11 := Lib.hid (load_mn M1.out (MnA.below HM.out (B1.out.mono (Nat.le_refl _))))
   have CM := Lib.hid (pmay12_any m w1 (MnA.below HM.out (B1.out.mono (Nat.le_refl _))))
   rw [HMV.out] at L11 CM
   rw [HQ.out] at CM
   clear hb
   go_wp2_with (first | ((with_reducible refine wpList_load_at (o := ⟨some 11, .load 29 (.tmp 3), _, _, _, _⟩) ?e1 29 (.tmp 3) ?e2 ⟨(w.heap.size + 1), 0, none⟩ ?e3 _ L11.out ?_); (case e1 => rfl); (case e2 => rfl); (case e3 => rfl)))
   refine CM.out.mono ?_
   rintro e w2 ⟨rfl, hb⟩
   have B2 := Lib.hid (B1.out.trans (hb.mono B1.out.size))
   clear hb
   go_wp2
   exact HZ.out _ B2.out
  ·rw [hq] at HV
   have HQ := Lib.hid hq
   have HF := Lib.hid (show V = d.rs.filterMap (apart m.m) by rw [HV.out]; rfl)
   clear HV hq
   obtain ⟨hbd1, hbd2, hbd3⟩ := bmay_bd HBB.out
   have HST := Lib.hid (fun (Bx Bm : Nat) (W : World) (hW : Below w.heap.size w W) (hx : BoAt W Bx (.slice d.A d.xs.length d.c)) (hm : MnAt W Bm m) =>
    show SeqG 11 Tryz.prog 75 #[.pointer (some ⟨Bx, 0, none⟩), .pointer (some ⟨Bm, 0, none⟩)] encP (KpP w.heap.size Bx Bm) GP (fun ys : List RcA => ys.map (·.R) = d.rs.filterMap (apart m.m)) 1001 W from
    fun l J V hV hJ hY h0 => parts1_in 11 (by omega) l Bx Bm d m w V (HLA.out _ (Below.refl _ _)) HD.out HM.out HQ.out hbd2 hbd3 (by omega) J hJ hY (hx.below hV hx.lt) (hm.below hV (MnAt.lt hm)) (hW.trans (hV.mono hW.size)) h0)
   have HEND := Lib.hid (fun (X : World) (n0 g : Nat) (v : Value) (ys : List RcA) (h : RJ TRc 36 22 g n0 [] v ys X) (hV : ys.map (·.R) = d.rs.filterMap (apart m.m)) (hb : Below w.heap.size w X) => show PartsPost w V (.returned v) X from by rw [HF.out]; exact parts_end (X := X) h hV hb)
   clear hbd1 hbd2 hbd3 HF
   generalize PartsPost w V = RR at *
   have hzr : ∀ w : World, (zeroValue 36).run Tryz.prog w = .ok (.agg rcA0.cells) w := zeroRec
   refine (callsIn_wide (n := 12)).1 ?_
   refine callsIn_of_wp_marks Tryz.func16 rfl trivial ?_ rfl
   simp only [Tryz.ntmps16, List.size_toArray, List.length_cons, List.length_nil, Nat.reduceAdd, Nat.reduceSub, Array.replicate_succ, Array.replicate_zero, List.push_toArray, List.append_toArray, List.nil_append, List.cons_append]
   refine wpIn_wide.2 ?_
   go_wp2_with (first | ((with_reducible refine wpList_load_by (o := ⟨some 7, .load 24 (.tmp 2), _, _, _, _⟩) ?e1 24 (.tmp 2) ?e2 ⟨w.heap.size, 0, none⟩ ?e3 _ L7.out ?_); (case e1 => rfl); (case e2 => rfl); (case e3 => rfl)))
   refine CB.out.mono ?_
   rintro e w1 ⟨rfl, hb⟩
   have B1 := Lib.hid (B0.out.trans (hb.mono B0.out.size))
   have T1 := Lib.hid (T0.out.below hb T0.out.lt)
   have M1 := Lib.hid (MnAt.below M0.out hb (MnAt.lt M0.out))
   have L11 := Lib.hid (load_mn M1.out (MnA.below HM.out (B1.out.mono (Nat.le_refl _))))
   have CM := Lib.hid (pmay12_any m w1 (MnA.below HM.out (B1.out.mono (Nat.le_refl _))))
   rw [HMV.out] at L11 CM
   rw [HQ.out] at CM
   clear hb
   go_wp2_with (first | ((with_reducible refine wpList_load_at (o := ⟨some 11, .load 29 (.tmp 3), _, _, _, _⟩) ?e1 29 (.tmp 3) ?e2 ⟨(w.heap.size + 1), 0, none⟩ ?e3 _ L11.out ?_); (case e1 => rfl); (case e2 => rfl); (case e3 => rfl)))
   refine CM.out.mono ?_
   rintro e w2 ⟨rfl, hb⟩
   have hba : Below w2.heap.size w2 (w2.alloc (.cells #[.slice none 0 0] 22)) := (Below.refl _ _).alloc (Nat.le_refl _) _
   have hb3 := hb.trans (hba.mono hb.size)
   have B3 := Lib.hid (B1.out.trans (hb3.mono B1.out.size))
   have T3 := Lib.hid (T1.out.below hb3 T1.out.lt)
   have M3 := Lib.hid (MnAt.below M1.out hb3 (MnAt.lt M1.out))
   have G3 := Lib.hid (heap_alloc_new w2 (.cells #[.slice none 0 0] 22))
   have HG := Lib.hid (show w.heap.size + 1 < w2.heap.size from Nat.lt_of_lt_of_le (MnAt.lt M1.out) hb.size)
   have L15 := Lib.hid T3.out.load
   have L16 := Lib.hid (load_mn M3.out (MnA.below HM.out (B3.out.mono (Nat.le_refl _))))
   have CP := Lib.hid (parts_any d m (w2.alloc (.cells #[.slice none 0 0] 22)))
   rw [HMV.out] at L16 CP
   have HS3 := Lib.hid (World.size_alloc w2 (.cells #[.slice none 0 0] 22))
   clear hb hba hb3
   go_wp2_with (first | ((with_reducible refine wpList_load_by (o := ⟨some 15, .load 24 (.tmp 2), _, _, _, _⟩) ?e1 24 (.tmp 2) ?e2 ⟨w.heap.size, 0, none⟩ ?e3 _ L15.out ?_); (case e1 => rfl); (case e2 => rfl); (case e3 => rfl)) | ((with_reducible refine wpList_load_at (o := ⟨some 16, .load 29 (.tmp 3), _, _, _, _⟩) ?e1 29 (.tmp 3) ?e2 ⟨(w.heap.size + 1), 0, none⟩ ?e3 _ L16.out ?_); (case e1 => rfl); (case e2 => rfl); (case e3 => rfl)))
   refine CP.out.mono ?_
   rintro e w5 ⟨rfl, hw5⟩
   obtain ⟨g, hg⟩ : ∃ g, g = w2.heap.size := ⟨_, rfl⟩
   have hs5 : w5.heap.size = g + 3 := by rw [hw5, World.size_alloc, World.size_alloc, HS3.out, hg]
   have hb5 : Below (w2.alloc (.cells #[.slice none 0 0] 22)).heap.size (w2.alloc (.cells #[.slice none 0 0] 22)) w5 := by rw [hw5]; exact ((Below.refl _ _).alloc (Nat.le_refl _) _).alloc (by rw [World.size_alloc (w2.alloc (.cells #[.slice none 0 0] 22))]; omega) _
   have B5 := Lib.hid (B3.out.trans (hb5.mono B3.out.size))
   have Q5 := Lib.hid (show BoAt w5 (g + 1) (.slice d.A d.xs.length d.c) from by
    have h := (BoAt.new (w2.alloc (.cells #[.slice none 0 0] 22)) (.slice d.A d.xs.length d.c)).old (.cells m.cs.toArray 29)
    rw [HS3.out, ← hg, ← hw5] at h; exact h)
   have N5 := Lib.hid (show MnAt w5 (g + 2) m from by
    have h := MnAt.new ((w2.alloc (.cells #[.slice none 0 0] 22)).alloc (.cells #[.slice d.A d.xs.length d.c] 24)) m
    rw [World.size_alloc (w2.alloc (.cells #[.slice none 0 0] 22)), HS3.out, ← hg, ← hw5] at h; exact h)
   have R5 := Lib.hid (show RJ TRc 36 22 g w5.heap.size [] (.slice none 0 0) [] w5 from ⟨by
    have h := (hb5.block w2.heap.size (by rw [HS3.out]; omega)).trans G3.out
    rw [← hg] at h; exact h, World.ownsRow_nil _ _ _ _, (fun e he => by cases he), by omega, Nat.le_refl _⟩)
   have HGG := Lib.hid (show w.heap.size + 1 < g by have := HG.out; omega)
   have HS5 := Lib.hid hs5
   rw [HS3.out, ← hg]
   have SEQ := Lib.hid (HST.out (g + 1) (g + 2) w5 B5.out Q5.out N5.out)
   clear hw5 hs5 hb5 hg
   go_wp2_with fail
   refine (wpIn_wide (n := 12)).1 ?_
   refine wpIn_range_G (n := 12) (by omega) (f := 75) (lb := #[.pointer (some ⟨g + 1, 0, none⟩), .pointer (some ⟨g + 1 + 1, 0, none⟩)]) rfl (enters_of Tryz.func75 (by kernel_rfl) rfl)
    (SEQ.out) (fun _ => rfl) (fun h k => h.trans k)
    (fun X l o o' hl h hc _ => ⟨belowK_b (w := w5) (by have := B5.out.size; omega) X l o o' hl h hc ‹_›, World.putObj_heap_other (by have := HS5.out; omega), World.putObj_heap_other (by have := HS5.out; omega)⟩)
    (JP w w5.heap.size g (g + 1) (g + 1 + 1) d m) (JP_own B5.out.size) ⟨_, R5.out, Q5.out, N5.out, B5.out⟩
    (fun x a' X => ∃ Be, XAt X Be x ∧ RvAt X x ∧ FTag X x.A ∧ a' = { tmps := #[Value.agg #[.slice d.A d.xs.length d.c], .agg m.cs.toArray, .pointer (some ⟨w.heap.size, 0, none⟩), .pointer (some ⟨w.heap.size + 1, 0, none⟩), .slice none 0 0, .pointer (some ⟨g, 0, none⟩), .pointer (some ⟨Be, 0, none⟩), .agg #[.slice d.A d.xs.length d.c], .bool true, .bool false, .bool false, .agg m.cs.toArray, .bool true, .bool false, .bool false, .agg #[.slice d.A d.xs.length d.c], .agg m.cs.toArray, .func (.func 75) #[] #[.pointer (some ⟨g + 1, 0, none⟩), .pointer (some ⟨g + 1 + 1, 0, none⟩)], .agg x.cells, undef, undef, undef, undef, undef], defers := [] })
    (fun x a' _ X Y row hs hg hr => by
     obtain ⟨Be, h1, h2, h3, h4⟩ := hs
     have hr' : ∀ r, row = some r → ∃ o : Obj, X.heap[r]? = some o ∧ o.isCells = false := fun r e => (hr r e).2
     have hne : ∀ {b : Nat} {c : Array Value} {t : TypeId}, X.heap[b]? = some (.cells c t) → some b ≠ row := fun h e => by
      obtain ⟨o, ho, hc⟩ := hr' _ e.symm
      rw [h] at ho
      cases ho
      cases hc
     obtain ⟨k1, k2⟩ := rc_kept h2 h3 hg (fun q e t _ c hc => hne hc e.symm)
     exact ⟨Be, h1.same (hg.block _ h1.lt (hne h1.2)), k1, k2, h4⟩)
    ?assign ?body ?done
   case assign =>
    rintro l pre x X hI ⟨hx1, hx2⟩
    have hba : Below X.heap.size X (X.alloc (.cells x.cells 36)) := (Below.refl _ _).alloc (Nat.le_refl _) _
    have FIN : Hid (KeepsFrom w5.heap.size X (X.alloc (.cells x.cells 36)) ∧ KpP w.heap.size (g + 1) (g + 1 + 1) X (X.alloc (.cells x.cells 36)) ∧ JP w w5.heap.size g (g + 1) (g + 1 + 1) d m pre (X.alloc (.cells x.cells 36))) := Lib.hid (by
     obtain ⟨v, h1, h2, h3, h4⟩ := hI
     exact ⟨(KeepsOthers.alloc X _).from _, ⟨hba.mono h4.size, hba.block _ h2.lt, hba.block _ (MnAt.lt h3)⟩, v, h1.below hba, h2.below hba h2.lt, MnAt.below h3 hba (MnAt.lt h3), h4.trans (hba.mono h4.size)⟩)
    have FX := Lib.hid (And.intro (XAt.new X hx1.len) (And.intro (hx1.below hba (Nat.le_refl _)) (hx2.belowA hba)))
    have ZX := Lib.hid hx1.len
    clear hI hx1 hx2 hba
    unfold encP
    gi_wp2_with (first | ((with_reducible refine wpListIn_store_newx (w := X) ?e0 (.tmp 6) (.tmp 18) ?e1 X.heap.size ?e2 ?e3 x ?e4 ZX.out ?_); (case e0 => rfl); (case e1 => rfl); (case e2 => rfl); (case e3 => rfl); (case e4 => rfl)))
    exact ⟨FIN.out.1, FIN.out.2.1, FIN.out.2.2, _, FX.out.1, FX.out.2.1, FX.out.2.2, rfl⟩
   case body =>
    rintro l pre x a' X hl ⟨v, h1, h2, h3, h4⟩ ⟨Be, hX, hx1, hx2, rfl⟩ hlt
    have g0 := h1.cell (p := 0) rfl
    have LX := Lib.hid hX.load
    have ZX := Lib.hid hx1.len
    have R1 := Lib.hid h1
    have R2 := Lib.hid h2
    have R3 := Lib.hid h3
    have R4 := Lib.hid h4
    have V1 := Lib.hid hx1
    have V2 := Lib.hid hx2
    have RA := Lib.hid (h1.alloc (.cells x.cells 36))
    have HCELL : Hid (∀ j u, x.cs[j]? = some u → (X.alloc (.cells x.cells 36)).cell? ((⟨X.heap.size, 0, none⟩ : Addr).add j) = some u) := Lib.hid fun j u hu => by
     have hj : j < 19 := by have := (List.getElem?_eq_some_iff.1 hu).1; rwa [cs_len hx1.len] at this
     rw [Addr.add_lit, (XAt.new X hx1.len).rec.2 j hj]
     exact hu
    have HONE := Lib.hid (cs_one x)
    have HL := Lib.hid (show x.cs.length = 1 * 19 by rw [cs_len hx1.len])
    have HPB := Lib.hid hlt
    obtain ⟨i0, hi, hz0, hz1', hz2'⟩ := info_parts infoRec
    clear h1 h2 h3 h4 hX hx1 hx2
    gi_wp2_with (first
     | ((with_reducible refine wpListIn_load_by ?e0 36 (.tmp 6) ?e1 ⟨Be, 0, none⟩ ?e2 _ LX.out ?_); (case e0 => rfl); (case e1 => rfl); (case e2 => rfl))
     | ((with_reducible refine wpListIn_bslice ?e0 (.tmp 20) ?e1 x ?e2 ZX.out ?_); (case e0 => rfl); (case e1 => rfl); (case e2 => rfl))
     | (gi_at_builtin; refine wpListIn_append_own _ rfl _ _ 22 rfl w5.heap.size 36 i0 zrc 19 56 Tryz.underlying22 hi hz0 hz1' hz2' zrc_size (by decide) _ pre.length _ rfl RA.out.own ⟨X.heap.size, 0, none⟩ 1 1 x.cs rfl HL.out HCELL.out HONE.out (by simp only [maxLen]; omega) (by omega) RA.out.le ?_; intro v' w9 hown' hgrow _; have hown9 : w9.ownsRow w5.heap.size 36 KRc.n v' (pre.length + 1) ((pre ++ [x]).flatMap KRc.cs) := (by rw [List.flatMap_append, List.flatMap_singleton]; exact hown'); obtain ⟨g', cap', rfl⟩ := ownsRow_succ hown'; obtain ⟨q1, q2, q3, q4⟩ := JP_step R1.out R2.out R3.out R4.out (by have := HGG.out; omega) (by omega) (by omega) (by have := HS5.out; omega) (by have := HS5.out; omega) V1.out V2.out hown9 hgrow; have r0 := q1.cell (p := 0) rfl; have f0 := q1.fz 0; have Q2X := Lib.hid q2; have Q3X := Lib.hid q3; have Q4X := Lib.hid q4; clear q1 q2 q3 q4 hown' hown9 hgrow))
    exact ⟨Q2X.out, Q3X.out, Q4X.out⟩
   case done =>
    rintro D ys X hD hp ⟨v, h1, h2, h3, h4⟩ hK
    have g0 := h1.cell (p := 0) rfl
    have HP : Hid (RR (.returned v) (X.putObj D (.deferred none))) := Lib.hid (HEND.out _ _ _ _ ys (h1.turned (grownBy_putObj' X D (.deferred none)) (fun r e => by cases e; exact ⟨_, hK, rfl⟩)) hp (h4.trans (belowK_b (w := w) (Nat.le_refl _) _ D _ _ (by have := B5.out.size; omega) hK rfl rfl)))
    have HK := Lib.hid hK
    clear h1 h2 h3 h4 hK
    go_wp2
    refine ⟨by simp, .inl ⟨_, _, rfl, run_takeDeferred HK.out, ?_⟩⟩
    exact ⟨v, results_tmp (t := 4) rfl _ _ _, HP.out⟩
end
end Go.Proofs.YtnlhkpmgbpfjmaaGreatDoor
