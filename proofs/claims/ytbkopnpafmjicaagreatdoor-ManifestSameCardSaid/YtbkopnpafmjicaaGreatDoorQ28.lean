import Derived.Test.YtbkopnpafmjicaaGreatDoorQ0
import Derived.Test.YtbkopnpafmjicaaGreatDoorQ26
import Derived.Test.YtbkopnpafmjicaaGreatDoorQ15
import Derived.Test.YtbkopnpafmjicaaGreatDoorQ27
import Derived.Test.YtbkopnpafmjicaaGreatDoorQ11
import Derived.Test.YtbkopnpafmjicaaGreatDoorQ20
import Derived.Test.YtbkopnpafmjicaaGreatDoorQ24
import Derived.Test.YtbkopnpafmjicaaGreatDoorQ12
import Derived.Test.YtbkopnpafmjicaaGreatDoorQ1
import Derived.Test.YtbkopnpafmjicaaGreatDoorQ25
import Derived.Lib.LazyBuf
/-
  What the functions that a law of this layer reaches answer, part 28. Nothing that was there is written.
-/
namespace Go.Proofs.YtbkopnpafmjicaaGreatDoor
set_option linter.unusedVariables false
set_option linter.unusedSimpArgs false
section
open Go.RowKit WM
set_option maxRecDepth 100000
def mn0 : Mn := ⟨z32m, []⟩
noncomputable def mofB (rs : List Rc) : Option Mn := if bmay rs = true then some (mof SH.sum (SH.sum (bbs rs)) rs) else none
def MofPost (w : World) (o : Option Mn) (e : Ending) (w' : World) : Prop := ∃ m : MnA, e = .returned (.tuple #[m.v, .bool o.isSome]) ∧ m.m = o.getD mn0 ∧ m.Ok w' ∧ Below w.heap.size w w'
theorem mnA0_ok (w : World) : mnA0.Ok w := ⟨rfl, by show AllBytes z32m; unfold AllBytes z32m; decide, Kind.row_nil w none 0 (by decide) (fun _ => rfl)⟩
theorem mn_size {m : MnA} {w : World} (h : m.Ok w) : (Tryz.prog.info? 29).map (·.size) = some m.cs.toArray.size := by
 rw [List.size_toArray, MnA.len h]
 obtain ⟨i, hi, _, hs, _⟩ := info_parts infoMn
 rw [hi]
 exact congrArg some hs
theorem mn_ones (m : MnA) : m.cs.toArray.all (·.oneCell') = true := mnP_one m.base rfl
theorem mnA0_size : mnA0.cs.toArray.size = 33 := by decide
theorem buildMn0 (w : World) : (Instr.build 29 #[]).run Tryz.prog w = .ok (.agg mnA0.cs.toArray) w := run_build w _ _ _ (by kernel_rfl)
theorem res_mn2 {fn : Func} {p q : Tmp} (h : fn.results = #[.cell p 29, .tmp q]) {tmps : Array Value} {w : World} {g : Nat} {m : MnA} (hp : tmps.getD p undef = .pointer (some ⟨g, 0, none⟩)) (hs : MnAt w g m) (hm : m.Ok w) :
  (results fn tmps).run Tryz.prog w = .ok (.tuple #[m.v, tmps.getD q undef]) w := by
 have hp' : tmps[p]?.getD undef = .pointer (some ⟨g, 0, none⟩) := by simpa using hp
 have hl := load_mn hs hm
 simp [results, h, hp', asAddr, hl]
theorem RJ.mn {bl base : Nat} {z : List Int} {A : Option Addr} {c : Nat} {ls : List LnA} {W : World} (h : RJ TLn 43 29 bl base (mnP z) (.slice A ls.length c) ls W) (hz : z.length = 32 ∧ AllBytes z) : MnA.Ok W ⟨z, A, c, ls⟩ ∧ MnAt W bl ⟨z, A, c, ls⟩ ∧ ∀ g cur, W.heap[g]? = some (.cells cur 29) → ∀ W', W.grownBy W' (some g) → MnA.Ok W' ⟨z, A, c, ls⟩ := by
 have hr := Kind.row_own (K := KLn) h.own fun e he => (h.ok e he).1
 refine ⟨⟨hz.1, hz.2, hr⟩, h.blk, fun g cur hg W' hG => ⟨hz.1, hz.2, Kind.row_kept hr (Tag.own h.own) hG (NoT.of hg (by decide)) fun e he => (LnA.kept (h.ok e he).1 (h.ok e he).2 hG (NoT.of hg (by decide))).1⟩⟩
set_option maxHeartbeats 16000000 in
theorem pof12_any (d : Bk) (w : World) (hlaid : Laid w) (h : BkAt w d) : Calls Tryz.prog 12 #[.agg #[.slice d.A d.xs.length d.c]] w (MofPost w (mofB d.rs)) := by
 have HLA := Lib.hid (fun (X : World) (hX : Below w.heap.size w X) => hlaid.below hX (Nat.le_refl _))
 have HBK := Lib.hid h
 have T1 := (BoAt.new w (.slice d.A d.xs.length d.c)).old (.cells mnA0.cs.toArray 29)
 have M1 : MnAt ((w.alloc (.cells #[.slice d.A d.xs.length d.c] 24)).alloc (.cells mnA0.cs.toArray 29)) (w.heap.size + 1) mnA0 := by
  have := MnAt.new (w.alloc (.cells #[.slice d.A d.xs.length d.c] 24)) mnA0
  rw [World.size_alloc] at this
  exact this
 have B1 := Lib.hid (((Below.refl w.heap.size w).alloc (Nat.le_refl _) (.cells #[.slice d.A d.xs.length d.c] 24)).alloc (by rw [World.size_alloc]; omega) (.cells mnA0.cs.toArray 29))
 have HCM := Lib.hid (bmay_any d _ (h.below B1.out (Nat.le_refl _)))
 have HCD := Lib.hid (fun X (hX : Below w.heap.size w X) => digest_any d X (hlaid.below hX (Nat.le_refl _)) (h.below hX (Nat.le_refl _)))
 unfold DSumPost at HCD
 have LB1 := Lib.hid T1.load
 have TT1 := Lib.hid T1
 have MM1 := Lib.hid M1
 have hz := zeroMn
 rw [show mnA0.v = .agg mnA0.cs.toArray from rfl] at hz
 have hzne : ¬ mnA0.cs.toArray = #[] := by decide
 have HRV := Lib.hid (fun i (hi : i < d.xs.length) => RsAt.rv h hi)
 have HCELL := Lib.hid h.2.2.2.1
 have hlc := h.1
 have hcm := h.2.1
 simp only [maxLen] at hcm
 have HV := Lib.hid (show mofB d.rs = if bmay d.rs = true then some (mof SH.sum (SH.sum (bbs d.rs)) d.rs) else none from rfl)
 have HMB := Lib.hid (show bmay d.rs = true → ∀ k, k < d.xs.length → Rc.may (d.xs.getD k rcA0).R = true from fun hm k hk => (bmay_iff.1 hm).2.1 _ (List.mem_map.2 ⟨_, by rw [List.getD_eq_getElem?_getD, List.getElem?_eq_getElem hk]; exact List.getElem_mem _, rfl⟩))
 have HM10 := Lib.hid (show bmay d.rs = true → d.xs.length ≤ 10 from fun hm => by have := (bmay_iff.1 hm).1; unfold Bk.rs at this; rwa [List.length_map] at this)
 have HRS := Lib.hid (show ∀ k, k < d.xs.length → d.rs.take (k + 1) = d.rs.take k ++ [(d.xs.getD k rcA0).R] from fun k hk => by
  unfold Bk.rs
  rw [List.take_succ_eq_append_getElem (by rw [List.length_map]; exact hk), List.getElem_map, List.getD_eq_getElem?_getD, List.getElem?_eq_getElem hk]
  rfl)
 have HRL := Lib.hid (show d.rs.length = d.xs.length by unfold Bk.rs; rw [List.length_map])
 have HDL := Lib.hid (SH.sum_len (bbs d.rs))
 have HDB := Lib.hid (SH.sum_bytes (bbs d.rs))
 generalize mofB d.rs = V at *
 generalize SH.sum (bbs d.rs) = D at *
 generalize hrs : d.rs = rs at *
 obtain ⟨xs, A, c⟩ := d
 dsimp only at *
 have HSZ0 := Lib.hid (show ∀ X : World, X = ((w.alloc (.cells #[.slice A xs.length c] 24)).alloc (.cells mnA0.cs.toArray 29)) → X.heap.size = w.heap.size + 1 + 1 from fun X e => by rw [e]; simp [World.size_alloc])
 generalize hnl : xs.length = n at *
 clear T1 M1 h hlaid hrs
 cases hm : bmay rs
 ·rw [hm] at HCM HV
  have HF := Lib.hid (show V = none by rw [HV.out]; rfl)
  clear HV HMB HM10 hm
  have HB0 := Lib.hid buildMn0
  go_enter Tryz.func12, Tryz.ntmps12
  go_wp2_with (first | ((with_reducible refine wpList_load_at (o := ⟨some 7, .load 24 (.tmp 1), _, _, _, _⟩) ?e1 24 (.tmp 1) ?e2 ⟨w.heap.size, 0, none⟩ ?e3 _ LB1.out ?_); (case e1 => rfl); (case e2 => rfl); (case e3 => rfl)))
  refine HCM.out.mono ?_
  rintro e w1 ⟨rfl, hb1⟩
  have M2 := Lib.hid (MM1.out.below hb1 MM1.out.lt)
  have B2 := Lib.hid (B1.out.trans (hb1.mono B1.out.size))
  have SZ0 := Lib.hid (mn_size (mnA0_ok w1))
  have SO0 := Lib.hid (mn_ones mnA0)
  have XB := Lib.hid (show MnAt (w1.setRow (w.heap.size + 1) mnA0.cs.toArray) (w.heap.size + 1) mnA0 from setRow_heap _ _ _ _ _ _ M2.out)
  have BX := Lib.hid (below_setRow B2.out (show w.heap.size ≤ w.heap.size + 1 by omega) mnA0.cs.toArray)
  have NB := Lib.hid M2.out
  unfold MnAt at NB
  clear hb1
  go_wp2_with (first | ((with_reducible refine wpList_build_at (o := ⟨some 10, .build 29 #[], _, _, _, _⟩) ?e1 29 #[] ?e2 #[] ?e3 _ (HB0.out _) ?_); (case e1 => rfl); (case e2 => rfl); (case e3 => simp)) | ((with_reducible refine wpList_store_row (o := ⟨none, .store 29 (.tmp 2) (.tmp 10), _, _, _, _⟩) ?e1 29 (.tmp 2) (.tmp 10) ?e2 (w.heap.size + 1) mnA0.cs.toArray ?e3 ?e4 29 _ NB.out SZ0.out rfl SO0.out ?_); (case e1 => rfl); (case e2 => rfl); (case e3 => rfl); (case e4 => rfl)))
  refine bodyPost_ret (v := .tuple #[mnA0.v, .bool false]) ?_ rfl ?_
  ·exact res_mn2 Tryz.results12 rfl XB.out (mnA0_ok _)
  ·rw [HF.out]
   exact ⟨mnA0, rfl, rfl, mnA0_ok _, BX.out⟩
 ·rw [hm] at HCM HV
  have HF := Lib.hid (show V = some (mof SH.sum D rs) by rw [HV.out]; rfl)
  have HMB := Lib.hid (HMB.out hm)
  have HM10 := Lib.hid (HM10.out hm)
  clear HV hm
  have HB1 := Lib.hid (build_mn HDL.out)
  have SZ1 := Lib.hid (size_pre (v := Value.slice none 0 0) (show (Tryz.prog.info? 29).map (·.size) = some (32 + 1) by kernel_rfl) (mnP_len HDL.out))
  have SQ1 := Lib.hid (show mnA0.cs.toArray.size = (mnP D ++ [Value.slice none 0 0]).toArray.size by rw [mnA0_size, List.size_toArray, List.length_append, ← mnP_len HDL.out]; rfl)
  have SO1 := Lib.hid (mnP_one D (v := .slice none 0 0) rfl)
  have HP32 := Lib.hid (mnP_len HDL.out)
  generalize hE2 : (mnP D ++ [Value.slice none 0 0]).toArray = E2 at *
  go_enter Tryz.func12, Tryz.ntmps12
  go_wp2_with (first | ((with_reducible refine wpList_load_at (o := ⟨some 7, .load 24 (.tmp 1), _, _, _, _⟩) ?e1 24 (.tmp 1) ?e2 ⟨w.heap.size, 0, none⟩ ?e3 _ LB1.out ?_); (case e1 => rfl); (case e2 => rfl); (case e3 => rfl)))
  refine HCM.out.mono ?_
  rintro e w1 ⟨rfl, hb1⟩
  have T2 := Lib.hid (TT1.out.below hb1 TT1.out.lt)
  have M2 := Lib.hid (MM1.out.below hb1 MM1.out.lt)
  have B2 := Lib.hid (B1.out.trans (hb1.mono B1.out.size))
  have HS1 := Lib.hid (show w.heap.size + 1 + 1 ≤ w1.heap.size by have := hb1.size; rw [HSZ0.out _ rfl] at this; exact this)
  have LB2 := Lib.hid T2.out.load
  clear hb1
  go_wp2_with (first | ((with_reducible refine wpList_load_at (o := ⟨some 11, .load 24 (.tmp 1), _, _, _, _⟩) ?e1 24 (.tmp 1) ?e2 ⟨w.heap.size, 0, none⟩ ?e3 _ LB2.out ?_); (case e1 => rfl); (case e2 => rfl); (case e3 => rfl)))
  refine (HCD.out w1 B2.out).mono ?_
  rintro e w2 ⟨rfl, hb2⟩
  have T3 := Lib.hid (T2.out.below hb2 T2.out.lt)
  have M3 := Lib.hid (M2.out.below hb2 M2.out.lt)
  have B3 := Lib.hid (B2.out.trans (hb2.mono B2.out.size))
  have HS2 := Lib.hid (show w.heap.size + 1 + 1 ≤ w2.heap.size from Nat.le_trans HS1.out hb2.size)
  have s0 := (T3.out.old (.cells E2 29)).c0
  clear hb2
  go_wp2_with (first | ((with_reducible refine wpList_build_at (o := ⟨some 13, .build 29 #[(0, .tmp 12)], _, _, _, _⟩) ?e1 29 #[(0, .tmp 12)] ?e2 #[(0, .agg (bvals D))] ?e3 _ (HB1.out _) ?_); (case e1 => rfl); (case e2 => rfl); (case e3 => (simp only [List.map_toArray, List.map_cons, List.map_nil]; rfl))) | ((with_reducible refine wpList_store_new (o := ⟨none, .store 29 (.tmp 4) (.tmp 13), _, _, _, _⟩) ?e1 29 (.tmp 4) (.tmp 13) ?e2 ?e3 mnA0.cs.toArray E2 ?e4 SZ1.out SQ1.out SO1.out ?_); (case e1 => rfl); (case e2 => rfl); (case e3 => rfl); (case e4 => rfl)))
  have J0 : RJ TLn 43 29 w2.heap.size (w2.heap.size + 1) (mnP D) (.slice none 0 0) [] (w2.alloc (.cells E2 29)) := by
   refine ⟨?_, World.ownsRow_nil _ _ _ _, (fun e he => by cases he), by omega, by rw [World.size_alloc]; exact Nat.le_refl _⟩
   rw [hE2]
   exact heap_alloc_new w2 _
  have JJ0 := Lib.hid J0
  have BW0 := Lib.hid (B3.out.alloc B3.out.size (.cells E2 29))
  have HWS := Lib.hid (World.size_alloc w2 (.cells E2 29))
  have M4 := Lib.hid (M3.out.below ((Below.refl _ _).alloc (Nat.le_refl _) (.cells E2 29)) M3.out.lt)
  generalize hW0 : w2.alloc (.cells E2 29) = W0 at *
  generalize w2.heap.size = bl at *
  have HBL := Lib.hid (show bl ≤ W0.heap.size by have := HWS.out; omega)
  have HWL := Lib.hid (show w.heap.size ≤ bl by have := HS2.out; omega)
  clear s0 J0 hW0 hE2 hz hzne
  have hz := zeroX
  go_loopw [17] (fun i wr => ∃ (k : Nat) (ls : List LnA) (v : Value), k ≤ n ∧ i = .int .i64 k ∧ ls.length = k ∧ Below bl W0 wr ∧ RJ TLn 43 29 bl (bl + 1) (mnP D) v ls wr ∧ ls.map (fun l : LnA => l.x) = (rs.take k).map (mofL SH.sum)) (fun i _ => n - (intOf i).toNat)
  case atStart => exact ⟨0, [], .slice none 0 0, Nat.zero_le _, rfl, rfl, Below.refl _ _, JJ0.out, rfl⟩
  case round =>
   obtain ⟨k, ls, v, hk, rfl, hke, hb, hJ, hmp⟩ := hrel
   have HKE := Lib.hid hke
   have HMP := Lib.hid hmp
   have HJ := Lib.hid hJ
   have BWR := Lib.hid (BW0.out.trans (hb.mono HWL.out))
   clear hJ hmp hke
   by_cases hlt : k < n
   ·have t1 : (k : Int) < (n : Int) := by omega
    obtain ⟨b, off, rfl, hbB, hcc⟩ := HCELL.out (by omega)
    have hx := (hcc k hlt).same (BWR.out.block b hbB)
    have IX := ix_rec b off n c k hlt k rfl
    have HXV := Lib.hid (HRV.out k hlt)
    have HXM := Lib.hid (HMB.out k hlt)
    have HTK := Lib.hid (HRS.out k hlt)
    generalize xs.getD k rcA0 = x at *
    generalize off + k * 19 = o at *
    have LX := Lib.hid hx.load
    have HXZ := Lib.hid HXV.out.len
    have SZX := Lib.hid (x_size HXZ.out)
    have SQX := Lib.hid (show rcA0.cells.size = x.cells.size from (rcells_size z16_len _ _ _).trans (cells_len HXZ.out).symm)
    have SOX := Lib.hid (x_one x)
    have HCB := Lib.hid (fun w9 (h9 : Below w.heap.size w w9) => lineOf_any x w9 (HLA.out w9 h9) (HXV.out.below h9 (Nat.le_refl _)) (by have := rmay_len HXM.out; omega) (may_FOk HXM.out) (wf_may (by have h := HXM.out; unfold Rc.may rmay at h; simp only [Bool.and_eq_true] at h; exact h.1.1)))
    unfold LOPost at HCB
    have hO := Lib.hid (HJ.out.alloc (.cells x.cells 58))
    have hS0 := Lib.hid (show Fr bl W0 wr.heap.size x.cells 58 (wr.alloc (.cells x.cells 58)) from ⟨hb.trans ((Below.refl _ _).alloc (by have := HBL.out; have := hb.size; omega) _), heap_alloc_new wr _⟩)
    have HNE := Lib.hid (show wr.heap.size ≠ bl by have := HWS.out; have := hb.size; omega)
    have HLE := Lib.hid (show ls.length ≤ 90000 by have := HKE.out; have := HM10.out; omega)
    clear hcc hb hx
    go_wp2_with (first | ((with_reducible refine wpList_load_at (o := ⟨some 20, .load 58 (.tmp 19), _, _, _, _⟩) ?e1 58 (.tmp 19) ?e2 ⟨b, o, none⟩ ?e3 _ LX.out ?_); (case e1 => rfl); (case e2 => rfl); (case e3 => rfl)) | ((with_reducible refine wpList_store_new (o := ⟨none, .store 58 (.tmp 6) (.tmp 20), _, _, _, _⟩) ?e1 58 (.tmp 6) (.tmp 20) ?e2 ?e3 rcA0.cells x.cells ?e4 SZX.out SQX.out SOX.out ?_); (case e1 => rfl); (case e2 => rfl); (case e3 => rfl); (case e4 => rfl)))
    clear IX
    refine wp_region_held_drew (S := fun w9 => Fr bl W0 wr.heap.size x.cells 58 w9) (by kernel_rfl) (hS0.out.below HBL.out ((Below.refl _ _).drew)) (fun hS => ?_)
    have J1 := Lib.hid hO.out.drew
    have S2 := Lib.hid hS
    generalize World.drew _ = X at *
    refine wpHv (i := 0) (oi := ⟨some 21, _, _, _, _, _⟩) (v := ?_) rfl ?_ hS ?_; rotate_left; (focus (intro w9 hSw; go_simp; try with_reducible rfl)); simp only [Act.put, Z2, Z3, Z4]
    refine wpHv (i := 2) (oi := ⟨some 23, _, _, _, _, _⟩) (v := (.agg x.cells)) rfl ?_ hS ?_; (focus (intro w9 hSw; exact exec_load_at 58 _ rfl ⟨wr.heap.size, 0, none⟩ rfl (XAt.load ⟨HXZ.out, hSw.o⟩))); simp only [Act.put, Z2, Z3, Z4]
    refine wpAnyH_ready (rs := [1, 3]) (by kernel_rfl) (by simp) (AllReadyH.cons (o := ⟨some 22, _, _, _, _, _⟩) rfl (fun K hK => ?_) (AllReadyH.cons (o := ⟨some 24, _, _, _, _, _⟩) rfl (fun K hK => ?_) AllReadyH.nil))
    ·have g0 := J1.out.cell HP32.out
     go_simp
     refine hK.out _ _ S2.out (fun hS => ?_)
     clear hK K g0
     try simp only [Act.put, Z2, Z3, Z4]
     refine wpAnyH_ready (rs := [3]) (by kernel_rfl) (by simp) (AllReadyH.cons (o := ⟨some 24, _, _, _, _, _⟩) rfl (fun K hK => ?_) AllReadyH.nil)
     go_simp
     refine (HCB.out _ (BW0.out.trans (S2.out.b.mono HWL.out))).mono ?_
     rintro e X3 ⟨y, rfl, hyx, hyo, hyt, hb4⟩
     have J5 := Lib.hid (J1.out.below hb4)
     have S6 := Lib.hid (S2.out.below HBL.out hb4)
     have HYX := Lib.hid hyx
     have YO := Lib.hid (show TLn.K.ok X3 y ∧ TLn.tag X3 y from ⟨hyo, hyt⟩)
     have YL := Lib.hid (show (KLn.cs y).length = KLn.n from LnA.len hyo)
     clear hyx hyo hyt
     clear hb4
     refine hK.out _ _ S6.out (fun hS => ?_)
     clear hK K
     try simp only [Act.put, Z2, Z3, Z4]
     refine wpAnyH_ready (rs := [4]) (by kernel_rfl) (by simp) (AllReadyH.cons (o := ⟨some 25, _, _, _, _, _⟩) rfl (fun K hK => ?_) AllReadyH.nil)
     refine step_bsliceK (K := KLn) rfl (.tmp 24) rfl y rfl YL.out Tryz.underlying27 sizeLn zeroLn nLn ?_
     have J7 := Lib.hid (J5.out.alloc (.cells (KLn.cs y).toArray 43))
     have S8 := Lib.hid (S6.out.below HBL.out ((Below.refl _ _).alloc (Nat.le_refl _) (.cells (KLn.cs y).toArray 43)))
     have YO9 := Lib.hid (show TLn.K.ok _ _ ∧ TLn.tag _ _ from ⟨TLn.K.below YO.out.1 ((Below.refl _ _).alloc (Nat.le_refl _) (.cells (KLn.cs y).toArray 43)), TLn.below YO.out.2 ((Below.refl _ _).alloc (Nat.le_refl _) (.cells (KLn.cs y).toArray 43))⟩)
     refine hK.out _ _ S8.out (fun hS => ?_)
     clear hK K
     try simp only [Act.put, Z2, Z3, Z4]
     refine wpAnyH_ready (rs := [5]) (by kernel_rfl) (by simp) (AllReadyH.cons (o := ⟨some 26, _, _, _, _, _⟩) rfl (fun K hK => ?_) AllReadyH.nil)
     obtain ⟨i0, hi, hz0, hz1, hz2⟩ := info_parts infoLn
     refine step_append_K (K := KLn) (o := ⟨some 26, _, _, _, _, _⟩) rfl _ _ 27 rfl (bl + 1) 43 i0 _ 56 Tryz.underlying27 hi hz0 hz1 hz2 (by decide) (by decide) v ls y rfl J7.out.own HLE.out YL.out rfl J7.out.le ?_
     intro v3 X3 ho3 hg3
     obtain ⟨g13, cap13, rfl⟩ := ownsRow_succ ho3
     have M10 := Lib.hid (J7.out.grown YO9.out ho3 hg3 (by decide))
     have S12 := Lib.hid (J7.out.fr S8.out (by decide) hg3)
     have J11 := Lib.hid (M10.out.store (by decide) HP32.out)
     have S13 := Lib.hid (M10.out.fr (p := 32) S12.out HNE.out)
     clear ho3 hg3
     refine hK.out _ _ S12.out (fun hS => ?_)
     clear hK K
     try simp only [Act.put, Z2, Z3, Z4]
     refine wpHv (i := 6) (oi := ⟨some 27, _, _, _, _, _⟩) (v := ?_) rfl ?_ hS ?_; rotate_left; (focus (intro w9 hSw; go_simp; try with_reducible rfl)); simp only [Act.put, Z2, Z3, Z4]
     refine wpAnyH_ready (rs := [7]) (by kernel_rfl) (by simp) (AllReadyH.cons (o := ⟨none, _, _, _, _, _⟩) rfl (fun K hK => ?_) AllReadyH.nil)
     have g0 := M10.out.cell HP32.out
     have gf := M10.out.fz 32
     go_simp
     refine hK.out _ _ S13.out (fun hS => ?_)
     clear hK K g0 gf
     try simp only [Act.put, Z2, Z3, Z4]
     refine wpAnyH_done (by kernel_rfl) ?_ _
     have JE := J11
     have SE := S13
     generalize hv4 : (Value.slice (some ⟨g13, 0, none⟩) (ls.length + 1) cap13) = v4 at *
     clear hv4
     have HM2 := Lib.hid (show (ls ++ [y]).map (fun l : LnA => l.x) = (rs.take (k + 1)).map (mofL SH.sum) by
      rw [HTK.out, List.map_append, List.map_append, HMP.out]; simp only [List.map_cons, List.map_nil, HYX.out])
     go_wp2
     go_roundw
     case rel => exact ⟨k + 1, ls ++ [y], v4, by omega, by go_num, by rw [List.length_append, HKE.out]; rfl, SE.out.b, JE.out, HM2.out⟩
     case measure => simp [intOf]; omega
    ·go_simp
     refine (HCB.out _ (BW0.out.trans (S2.out.b.mono HWL.out))).mono ?_
     rintro e X14 ⟨y, rfl, hyx, hyo, hyt, hb15⟩
     have J16 := Lib.hid (J1.out.below hb15)
     have S17 := Lib.hid (S2.out.below HBL.out hb15)
     have HYX := Lib.hid hyx
     have YO := Lib.hid (show TLn.K.ok X14 y ∧ TLn.tag X14 y from ⟨hyo, hyt⟩)
     have YL := Lib.hid (show (KLn.cs y).length = KLn.n from LnA.len hyo)
     clear hyx hyo hyt
     clear hb15
     refine hK.out _ _ S17.out (fun hS => ?_)
     clear hK K
     try simp only [Act.put, Z2, Z3, Z4]
     refine wpAnyH_ready (rs := [1, 4]) (by kernel_rfl) (by simp) (AllReadyH.cons (o := ⟨some 22, _, _, _, _, _⟩) rfl (fun K hK => ?_) (AllReadyH.cons (o := ⟨some 25, _, _, _, _, _⟩) rfl (fun K hK => ?_) AllReadyH.nil))
     ·have g0 := J16.out.cell HP32.out
      go_simp
      refine hK.out _ _ S17.out (fun hS => ?_)
      clear hK K g0
      try simp only [Act.put, Z2, Z3, Z4]
      refine wpAnyH_ready (rs := [4]) (by kernel_rfl) (by simp) (AllReadyH.cons (o := ⟨some 25, _, _, _, _, _⟩) rfl (fun K hK => ?_) AllReadyH.nil)
      refine step_bsliceK (K := KLn) rfl (.tmp 24) rfl y rfl YL.out Tryz.underlying27 sizeLn zeroLn nLn ?_
      have J18 := Lib.hid (J16.out.alloc (.cells (KLn.cs y).toArray 43))
      have S19 := Lib.hid (S17.out.below HBL.out ((Below.refl _ _).alloc (Nat.le_refl _) (.cells (KLn.cs y).toArray 43)))
      have YO20 := Lib.hid (show TLn.K.ok _ _ ∧ TLn.tag _ _ from ⟨TLn.K.below YO.out.1 ((Below.refl _ _).alloc (Nat.le_refl _) (.cells (KLn.cs y).toArray 43)), TLn.below YO.out.2 ((Below.refl _ _).alloc (Nat.le_refl _) (.cells (KLn.cs y).toArray 43))⟩)
      refine hK.out _ _ S19.out (fun hS => ?_)
      clear hK K
      try simp only [Act.put, Z2, Z3, Z4]
      refine wpAnyH_ready (rs := [5]) (by kernel_rfl) (by simp) (AllReadyH.cons (o := ⟨some 26, _, _, _, _, _⟩) rfl (fun K hK => ?_) AllReadyH.nil)
      obtain ⟨i0, hi, hz0, hz1, hz2⟩ := info_parts infoLn
      refine step_append_K (K := KLn) (o := ⟨some 26, _, _, _, _, _⟩) rfl _ _ 27 rfl (bl + 1) 43 i0 _ 56 Tryz.underlying27 hi hz0 hz1 hz2 (by decide) (by decide) v ls y rfl J18.out.own HLE.out YL.out rfl J18.out.le ?_
      intro v3 X3 ho3 hg3
      obtain ⟨g13, cap13, rfl⟩ := ownsRow_succ ho3
      have M21 := Lib.hid (J18.out.grown YO20.out ho3 hg3 (by decide))
      have S23 := Lib.hid (J18.out.fr S19.out (by decide) hg3)
      have J22 := Lib.hid (M21.out.store (by decide) HP32.out)
      have S24 := Lib.hid (M21.out.fr (p := 32) S23.out HNE.out)
      clear ho3 hg3
      refine hK.out _ _ S23.out (fun hS => ?_)
      clear hK K
      try simp only [Act.put, Z2, Z3, Z4]
      refine wpHv (i := 6) (oi := ⟨some 27, _, _, _, _, _⟩) (v := ?_) rfl ?_ hS ?_; rotate_left; (focus (intro w9 hSw; go_simp; try with_reducible rfl)); simp only [Act.put, Z2, Z3, Z4]
      refine wpAnyH_ready (rs := [7]) (by kernel_rfl) (by simp) (AllReadyH.cons (o := ⟨none, _, _, _, _, _⟩) rfl (fun K hK => ?_) AllReadyH.nil)
      have g0 := M21.out.cell HP32.out
      have gf := M21.out.fz 32
      go_simp
      refine hK.out _ _ S24.out (fun hS => ?_)
      clear hK K g0 gf
      try simp only [Act.put, Z2, Z3, Z4]
      refine wpAnyH_done (by kernel_rfl) ?_ _
      have JE := J22
      have SE := S24
      generalize hv4 : (Value.slice (some ⟨g13, 0, none⟩) (ls.length + 1) cap13) = v4 at *
      clear hv4
      have HM2 := Lib.hid (show (ls ++ [y]).map (fun l : LnA => l.x) = (rs.take (k + 1)).map (mofL SH.sum) by
       rw [HTK.out, List.map_append, List.map_append, HMP.out]; simp only [List.map_cons, List.map_nil, HYX.out])
      go_wp2
      go_roundw
      case rel => exact ⟨k + 1, ls ++ [y], v4, by omega, by go_num, by rw [List.length_append, HKE.out]; rfl, SE.out.b, JE.out, HM2.out⟩
      case measure => simp [intOf]; omega
     ·refine step_bsliceK (K := KLn) rfl (.tmp 24) rfl y rfl YL.out Tryz.underlying27 sizeLn zeroLn nLn ?_
      have J25 := Lib.hid (J16.out.alloc (.cells (KLn.cs y).toArray 43))
      have S26 := Lib.hid (S17.out.below HBL.out ((Below.refl _ _).alloc (Nat.le_refl _) (.cells (KLn.cs y).toArray 43)))
      have YO27 := Lib.hid (show TLn.K.ok _ _ ∧ TLn.tag _ _ from ⟨TLn.K.below YO.out.1 ((Below.refl _ _).alloc (Nat.le_refl _) (.cells (KLn.cs y).toArray 43)), TLn.below YO.out.2 ((Below.refl _ _).alloc (Nat.le_refl _) (.cells (KLn.cs y).toArray 43))⟩)
      refine hK.out _ _ S26.out (fun hS => ?_)
      clear hK K
      try simp only [Act.put, Z2, Z3, Z4]
      refine wpAnyH_ready (rs := [1]) (by kernel_rfl) (by simp) (AllReadyH.cons (o := ⟨some 22, _, _, _, _, _⟩) rfl (fun K hK => ?_) AllReadyH.nil)
      have g0 := J25.out.cell HP32.out
      go_simp
      refine hK.out _ _ S26.out (fun hS => ?_)
      clear hK K g0
      try simp only [Act.put, Z2, Z3, Z4]
      refine wpAnyH_ready (rs := [5]) (by kernel_rfl) (by simp) (AllReadyH.cons (o := ⟨some 26, _, _, _, _, _⟩) rfl (fun K hK => ?_) AllReadyH.nil)
      obtain ⟨i0, hi, hz0, hz1, hz2⟩ := info_parts infoLn
      refine step_append_K (K := KLn) (o := ⟨some 26, _, _, _, _, _⟩) rfl _ _ 27 rfl (bl + 1) 43 i0 _ 56 Tryz.underlying27 hi hz0 hz1 hz2 (by decide) (by decide) v ls y rfl J25.out.own HLE.out YL.out rfl J25.out.le ?_
      intro v3 X3 ho3 hg3
      obtain ⟨g13, cap13, rfl⟩ := ownsRow_succ ho3
      have M28 := Lib.hid (J25.out.grown YO27.out ho3 hg3 (by decide))
      have S30 := Lib.hid (J25.out.fr S26.out (by decide) hg3)
      have J29 := Lib.hid (M28.out.store (by decide) HP32.out)
      have S31 := Lib.hid (M28.out.fr (p := 32) S30.out HNE.out)
      clear ho3 hg3
      refine hK.out _ _ S30.out (fun hS => ?_)
      clear hK K
      try simp only [Act.put, Z2, Z3, Z4]
      refine wpHv (i := 6) (oi := ⟨some 27, _, _, _, _, _⟩) (v := ?_) rfl ?_ hS ?_; rotate_left; (focus (intro w9 hSw; go_simp; try with_reducible rfl)); simp only [Act.put, Z2, Z3, Z4]
      refine wpAnyH_ready (rs := [7]) (by kernel_rfl) (by simp) (AllReadyH.cons (o := ⟨none, _, _, _, _, _⟩) rfl (fun K hK => ?_) AllReadyH.nil)
      have g0 := M28.out.cell HP32.out
      have gf := M28.out.fz 32
      go_simp
      refine hK.out _ _ S31.out (fun hS => ?_)
      clear hK K g0 gf
      try simp only [Act.put, Z2, Z3, Z4]
      refine wpAnyH_done (by kernel_rfl) ?_ _
      have JE := J29
      have SE := S31
      generalize hv4 : (Value.slice (some ⟨g13, 0, none⟩) (ls.length + 1) cap13) = v4 at *
      clear hv4
      have HM2 := Lib.hid (show (ls ++ [y]).map (fun l : LnA => l.x) = (rs.take (k + 1)).map (mofL SH.sum) by
       rw [HTK.out, List.map_append, List.map_append, HMP.out]; simp only [List.map_cons, List.map_nil, HYX.out])
      go_wp2
      go_roundw
      case rel => exact ⟨k + 1, ls ++ [y], v4, by omega, by go_num, by rw [List.length_append, HKE.out]; rfl, SE.out.b, JE.out, HM2.out⟩
      case measure => simp [intOf]; omega
   ·obtain rfl : k = n := by omega
    have t1 : ¬ (k : Int) < (k : Int) := by omega
    obtain ⟨A4, c4, rfl⟩ := own_slice HJ.out.own
    have HE := Lib.hid (HJ.out.mn ⟨HDL.out, HDB.out⟩)
    have LE := Lib.hid (load_mn HE.out.2.1 HE.out.1)
    rw [show MnA.v ⟨D, A4, c4, ls⟩ = .agg (MnA.cs ⟨D, A4, c4, ls⟩).toArray from rfl] at LE
    have NB := Lib.hid (M4.out.below hb (show w.heap.size + 1 < bl by have := HS2.out; omega))
    have SZ2 := Lib.hid (mn_size HE.out.1)
    have SQ2 := Lib.hid (show mnA0.cs.toArray.size = (MnA.cs ⟨D, A4, c4, ls⟩).toArray.size by rw [mnA0_size, List.size_toArray]; exact (MnA.len HE.out.1).symm)
    have SO2 := Lib.hid (mn_ones ⟨D, A4, c4, ls⟩)
    have GS := grownBy_setRow wr (w.heap.size + 1) (MnA.cs ⟨D, A4, c4, ls⟩).toArray
    have KX := Lib.hid (HE.out.2.2 _ _ NB.out _ GS)
    have XB := Lib.hid (show MnAt (wr.setRow (w.heap.size + 1) (MnA.cs ⟨D, A4, c4, ls⟩).toArray) (w.heap.size + 1) ⟨D, A4, c4, ls⟩ from setRow_heap _ _ _ _ _ _ NB.out)
    have BX := Lib.hid (below_setRow BWR.out (show w.heap.size ≤ w.heap.size + 1 by omega) (MnA.cs ⟨D, A4, c4, ls⟩).toArray)
    have HFX := Lib.hid (show MnA.m ⟨D, A4, c4, ls⟩ = mof SH.sum D rs by
     have h := HMP.out
     rw [List.take_of_length_le (by rw [HRL.out]; exact Nat.le_refl _)] at h
     unfold MnA.m mof
     dsimp only
     rw [h])
    clear hb GS
    unfold MnAt at NB
    go_wp2_with (first | ((with_reducible refine wpList_load_at (o := ⟨some 29, .load 29 (.tmp 4), _, _, _, _⟩) ?e1 29 (.tmp 4) ?e2 ⟨bl, 0, none⟩ ?e3 _ LE.out ?_); (case e1 => rfl); (case e2 => rfl); (case e3 => rfl)) | ((with_reducible refine wpList_store_row (o := ⟨none, .store 29 (.tmp 2) (.tmp 29), _, _, _, _⟩) ?e1 29 (.tmp 2) (.tmp 29) ?e2 (w.heap.size + 1) (MnA.cs ⟨D, A4, c4, ls⟩).toArray ?e3 ?e4 29 _ NB.out SZ2.out SQ2.out SO2.out ?_); (case e1 => rfl); (case e2 => rfl); (case e3 => rfl); (case e4 => rfl)))
    refine bodyPost_ret (v := .tuple #[MnA.v ⟨D, A4, c4, ls⟩, .bool true]) ?_ rfl ?_
    ·exact res_mn2 Tryz.results12 rfl XB.out KX.out
    ·rw [HF.out]
     exact ⟨_, rfl, HFX.out, KX.out, BX.out⟩
end
section
open Go.RowKit WM
theorem allE_len {B : Nat} : ∀ {ls : List LnA}, (∀ x ∈ ls, x.es.length ≤ B) → (allE ls).length ≤ ls.length * B
 | [], _ => Nat.zero_le _
 | x :: ls, h => by
  have ih := allE_len (ls := ls) fun y hy => h y (List.mem_cons_of_mem _ hy)
  have h1 := h x List.mem_cons_self
  unfold allE at *
  rw [List.flatMap_cons, List.length_append, List.length_map, List.length_cons, Nat.succ_mul]
  omega
theorem mof_small {D : List Int → List Int} {base : List Int} {rs : List Rc} {m : MnA} (hm : m.m = mof D base rs) (hb : bmay rs = true) : (∀ x ∈ m.ls, x.es.length ≤ 8 ∧ ∀ e ∈ x.es, e.e.bs.length ≤ 25) ∧ m.ls.length ≤ 10 := by
 have h1 : m.ls.map (·.x) = rs.map (mofL D) := congrArg Mn.ls hm
 obtain ⟨h2, h3, _⟩ := bmay_iff.1 hb
 refine ⟨fun x hx => ?_, ?_⟩
 ·have hx1 : x.x ∈ rs.map (mofL D) := by rw [← h1]; exact List.mem_map_of_mem hx
  obtain ⟨R, hR, hRx⟩ := List.mem_map.1 hx1
  have h4 : x.es.map (·.e) = R.fs.map (mofE D) := (congrArg Ln.es hRx).symm
  have h5 := congrArg List.length h4
  rw [List.length_map, List.length_map] at h5
  have h6 := rmay_len (h3 R hR)
  refine ⟨by omega, fun e he => ?_⟩
  have he1 : e.e ∈ R.fs.map (mofE D) := by rw [← h4]; exact List.mem_map_of_mem he
  obtain ⟨f, hf, hfe⟩ := List.mem_map.1 he1
  have h7 := (rmay_all (h3 R hR) f hf).2.2.1
  have h8 := (cmay_iff.1 h7).2.2
  rw [← hfe]
  show (sgOf (nums f.c.s)).length ≤ 25
  have h9 := sgOf_le (nums f.c.s)
  rw [nums_len] at h9
  omega
 ·have h4 := congrArg List.length h1
  rw [List.length_map, List.length_map] at h4
  omega
theorem mof_few {D : List Int → List Int} {base : List Int} {rs : List Rc} {m : MnA} (hm : m.m = mof D base rs) (hb : bmay rs = true) : (∀ x ∈ m.ls, x.es.length ≤ 1000000 ∧ ∀ e ∈ x.es, e.e.bs.length ≤ 1000000) ∧ (∀ x ∈ m.ls, ∀ e ∈ x.es, e.e.bs.length ≤ 1000000) ∧ (allE m.ls).length ≤ 1000000 := by
 obtain ⟨h1, h2⟩ := mof_small hm hb
 refine ⟨fun x hx => ⟨by have := (h1 x hx).1; omega, fun e he => by have := (h1 x hx).2 e he; omega⟩, fun x hx e he => by have := (h1 x hx).2 e he; omega, ?_⟩
 have h3 := allE_len (B := 8) (ls := m.ls) fun x hx => (h1 x hx).1
 omega
def enX (D : List Int → List Int) : En := ⟨2, 1, 1, 1, D (nums ⟨#[120]⟩), []⟩
theorem mofL_X (D : List Int → List Int) : mofL D recX = ⟨z7, 0, 0, [enX D]⟩ := by
 have h : sgOf (nums ⟨#[120]⟩) = [] := sgOf_none (by decide)
 show (⟨z7, 0, 0, [⟨2, 1, 1, ((⟨#[120]⟩ : ByteArray).size : Int), D (nums ⟨#[120]⟩), sgOf (nums ⟨#[120]⟩)⟩]⟩ : Ln) = _
 rw [h]
 rfl
theorem mof_X (D : List Int → List Int) (base : List Int) : mof D base [recX] = ⟨base, [⟨z7, 0, 0, [enX D]⟩]⟩ := by
 unfold mof
 rw [List.map_cons, mofL_X]
 rfl
theorem mfind_X (D : List Int → List Int) (base : List Int) : mfind (mof D base [recX]) z7 2 = some (enX D) := by
 rw [mof_X]
 unfold mfind lfind efind
 rw [List.find?_cons_of_pos (by simp)]
 show List.find? (fun e => decide (e.no = 2)) [enX D] = some (enX D)
 rw [List.find?_cons_of_pos (by simp [enX])]
theorem mlike_X (D : List Int → List Int) (base : List Int) : mlike (mof D base [recX]) (D (nums ⟨#[120]⟩)) 1 = some (z7, 2) := by
 rw [mof_X]
 unfold mlike llike elike
 rw [List.find?_cons_of_pos (by simp [enX])]
 rfl
theorem mof_ne (D : List Int → List Int) (a b : List Int) : mof D a [] ≠ mof D b [recX] := fun e => by
 have := congrArg (fun m => m.ls.length) e
 simp [mof] at this
theorem may_X12 : bmay [recX] = true := rfl
theorem bbs_nil : bbs [] = [0] := rfl
end
section
open Go.RowKit WM
set_option maxRecDepth 20000
section
variable {α : Type} {K : Kind α} {P : Program} {te : TypeId}
theorem exec_store_run {o : Oper} {ρ : Operand → Value} {w w' : World} (ty : TypeId) (x y : Operand) (ho : o.op = .store ty x y) (ad : Addr) (hx : ρ x = .pointer (some ad)) {v : Value} (hy : ρ y = v) (h : (storeVar ty ad v).run P w = .ok () w') : (execOp ρ o).run P w = .ok .skip w' := by
 unfold execOp
 simp only [ho, hx, hy, Instr.storeAt, Instr.sureAddr, Sem.run_bind, Sem.run_pure, Result.andThen_ok, h]
theorem step_store_G {ops : Array Oper} {o : Oper} {a : Act} {KK : Act → World → Prop} {Q : Exit → Act → World → Prop} {E : Prop} {X X' : World} (hgd : o.guard = none) (ty : TypeId) (x y : Operand) (hop : o.op = .store ty x y) (ad : Addr) (v : Value) (hx : a.eval x = .pointer (some ad)) (hy : a.eval y = v) (hst : (storeVar ty ad v).run P X = .ok () X')
  (h : KK (a.put o.dst undef) X') : if Region.wanted o (yielded ops a.tmps) = true then Oper.wp P o a X KK Q else E := by
 have hw : Region.wanted o (yielded ops a.tmps) = true := by simp [Region.wanted, hgd]
 rw [if_pos hw]
 unfold Oper.wp
 rw [exec_store_run ty x y hop ad hx hy hst]
 exact h
def CloneP (K : Kind α) (te : TypeId) (w : World) (xs : List α) (e : Ending) (w' : World) : Prop := ∃ v, e = .returned v ∧ w'.ownsRow w.heap.size te K.n v xs.length (xs.flatMap K.cs) ∧ Below w.heap.size w w'
end
end
section
open Go.RowKit WM
set_option maxRecDepth 100000
set_option maxHeartbeats 2000000 in
theorem sclone_any (A : Option Addr) (len c : Nat) (xs : List Sg) (w : World) (hl : xs.length = len) (h : KSig.row w A c xs) (hs : len ≤ 1000000) :
  Calls Tryz.prog 78 #[.slice A len c] w (CloneP KSig 100 w xs) := by
 cases A with
 | none =>
  obtain ⟨h1, h2, h3, _⟩ := h
  have hc := h3 rfl
  subst hc
  have hn : xs = [] := List.eq_nil_of_length_eq_zero (by omega)
  subst hn
  simp at hl
  subst hl
  have HP : Hid (CloneP KSig 100 w [] (.returned (.slice none 0 0)) w) := Lib.hid ⟨_, rfl, World.ownsRow_nil _ _ _ _, Below.refl _ _⟩
  have heq : (binOp .eql 46 (.slice none 0 0) (.slice none 0 0)).run Tryz.prog w = .ok (.bool true) w := run_eql_slice_nil w _ 100 none 0 0 Tryz.underlying46
  go_enter Tryz.func78, Tryz.ntmps78
  go_wp2
  go_ret
  exact HP.out
 | some ad =>
  obtain ⟨i0, hi, hz0, hz1, hz2⟩ := info_parts infoSig
  have ho := World.ownsRow_made (base := w.heap.size) (size := KSig.n) (e := 100) w #[] 0 (Nat.le_refl _) (by decide) rfl
  have HA := Lib.hid (Kind.row_below h ((Below.refl w.heap.size w).alloc (Nat.le_refl _) (.cells #[] 100)) (Nat.le_refl _))
  have HL := Lib.hid hl
  have HB := Lib.hid ((Below.refl w.heap.size w).alloc (Nat.le_refl _) (.cells #[] 100))
  have HO := Lib.hid ho
  have heq : (binOp .eql 46 (.slice (some ad) len c) (.slice none 0 0)).run Tryz.prog w = .ok (.bool false) w := run_eql_slice_nil w _ 100 (some ad) len c Tryz.underlying46
  clear h hl ho
  go_enter Tryz.func78, Tryz.ntmps78
  go_wp2_with (at_builtin; refine wpList_append_K (K := KSig) _ rfl _ _ 46 rfl w.heap.size 100 i0 _ 36 Tryz.underlying46 hi hz0 hz1 hz2 (by decide) (by omega) _ 0 [] rfl HO.out (some ad) len c xs rfl HA.out HL.out (by omega) (by simp) ?_; intro v2 w2 ho2 hg2)
  go_ret
  exact ⟨v2, rfl, by have h := ho2; rw [Nat.zero_add, List.nil_append, ← HL.out] at h; exact h, HB.out.grown hg2 (by simp) (fun g hg => own_base HO.out hg)⟩
def enPre (e : En) : List Value := .int .i64 e.no :: .int .i64 e.n :: .int .i64 e.r :: .int .i64 e.len :: e.ds.map (Value.int .u8)
theorem en_cs (x : EnA) : KEn.cs x = enPre x.e ++ [.slice x.A x.e.bs.length x.c] := rfl
theorem enPre_len {e : En} (h : e.ds.length = 32) : 36 = (enPre e).length := by simp [enPre, h]
theorem res_en1 {fn : Func} {p : Tmp} (h : fn.results = #[.cell p 48]) {tmps : Array Value} {w : World} {g : Nat} {x : EnA} (hp : tmps.getD p undef = .pointer (some ⟨g, 0, none⟩)) (hs : KEn.blk 48 w g x) (hx : x.Ok w) :
  (results fn tmps).run Tryz.prog w = .ok (KEn.v x) w := by
 have hp' : tmps[p]?.getD undef = .pointer (some ⟨g, 0, none⟩) := by simpa using hp
 have hl := load_en (Kind.at_blk hs) hx
 simp [results, h, hp', asAddr, hl]
def OwnE (w : World) (e : En) (en : Ending) (w' : World) : Prop := ∃ y : EnA, en = .returned (KEn.v y) ∧ y.e = e ∧ y.Ok w' ∧ Tag 100 w' y.A ∧ Below w.heap.size w w'
set_option maxHeartbeats 4000000 in
theorem ownE_any (x : EnA) (w : World) (hx : x.Ok w) (hs : x.e.bs.length ≤ 1000000) : Calls Tryz.prog 51 #[KEn.v x] w (OwnE w x.e) := by
 have X0 := Kind.blk_old (Kind.blk_new (K := KEn) w x 48) (.cells (KEn.cs enA0).toArray 48)
 have R0 := Kind.blk_new (K := KEn) (w.alloc (.cells (KEn.cs x).toArray 48)) enA0 48
 rw [World.size_alloc] at R0
 have B0 := Lib.hid (((Below.refl w.heap.size w).alloc (Nat.le_refl _) (.cells (KEn.cs x).toArray 48)).alloc (by rw [World.size_alloc]; omega) (.cells (KEn.cs enA0).toArray 48))
 have k36 := en_c36 (Kind.at_blk X0) hx.2.2.2.2.1
 rw [Nat.zero_add] at k36
 have HC := Lib.hid (sclone_any x.A _ x.c x.e.bs _ rfl (Kind.row_below hx.2.2.2.2.2.2 B0.out (Nat.le_refl _)) hs)
 have HX := Lib.hid hx
 have XX := Lib.hid X0
 have RR := Lib.hid R0
 have hz := zeroEn
 rw [show KEn.v enA0 = .agg (KEn.cs enA0).toArray from rfl] at hz
 have hzne : ¬ (KEn.cs enA0).toArray = #[] := by decide
 have HP36 := Lib.hid (enPre_len hx.2.2.2.2.1)
 have hv : KEn.v x = .agg (KEn.cs x).toArray := rfl
 rw [hv]
 have HECS := Lib.hid (en_cs x)
 have HBK := Lib.hid (show ∀ X : World, KEn.blk 48 X w.heap.size x → X.heap[w.heap.size]? = some (.cells (enPre x.e ++ [Value.slice x.A x.e.bs.length x.c]).toArray 48) from fun X h => h)
 generalize (KEn.cs x).toArray = E at *
 obtain ⟨e, A, c⟩ := x
 dsimp only at *
 clear hx X0 R0 hs hv
 go_enter Tryz.func51, Tryz.ntmps51
 go_wp2_with fail
 refine HC.out.mono ?_
 rintro en w1 ⟨v1, rfl, ho1, hb1⟩
 have B1 := Lib.hid (B0.out.trans (hb1.mono B0.out.size))
 have X1 := Lib.hid (Kind.blk_below XX.out hb1 (Kind.blk_lt XX.out))
 have R1 := Lib.hid (Kind.blk_below RR.out hb1 (Kind.blk_lt RR.out))
 obtain ⟨A1, c1, rfl⟩ := own_slice ho1
 have SR := Lib.hid (Kind.row_own (K := KSig) ho1 HX.out.2.2.2.2.2.2.2.2.2.2)
 have ST := Lib.hid (Tag.own ho1)
 have g0 := en_c36 (Kind.at_blk X1.out) HX.out.2.2.2.2.1
 rw [Nat.zero_add] at g0
 have gf : w1.frozen? ⟨w.heap.size, 36, none⟩ = false := frozen_of_row _ _ _ _ _ X1.out
 have HB2 := grownBy_setCell9 w1 w.heap.size 36 (.slice A1 e.bs.length c1)
 have X2 := Lib.hid (show KEn.blk 48 (w1.setCell ⟨w.heap.size, 36, none⟩ (.slice A1 e.bs.length c1)) w.heap.size ⟨e, A1, c1⟩ from by
  unfold Kind.blk
  rw [heap_setCell_same _ _ _ _ _ _ (HBK.out w1 X1.out), show KEn.cs ⟨e, A1, c1⟩ = enPre e ++ [.slice A1 e.bs.length c1] from rfl]
  congr 2
  have h36 := HP36.out
  simp [h36])
 have Y2 := Lib.hid (EnA.kept (x := ⟨e, A1, c1⟩) ⟨HX.out.1, HX.out.2.1, HX.out.2.2.1, HX.out.2.2.2.1, HX.out.2.2.2.2.1, HX.out.2.2.2.2.2.1, SR.out⟩ ST.out HB2 (NoT.of X1.out (by decide)))
 have R2 := Lib.hid (show KEn.blk 48 (w1.setCell ⟨w.heap.size, 36, none⟩ (.slice A1 e.bs.length c1)) (w.heap.size + 1) enA0 from (Below.heap_setCell _ _ _ _ (by show w.heap.size + 1 ≠ w.heap.size; omega)).trans R1.out)
 have B2 := Lib.hid (B1.out.setCell (p := ⟨w.heap.size, 36, none⟩) (Nat.le_refl _) (.slice A1 e.bs.length c1))
 have LE := Lib.hid (load_en (Kind.at_blk X2.out) Y2.out.1)
 rw [show KEn.v ⟨e, A1, c1⟩ = .agg (KEn.cs ⟨e, A1, c1⟩).toArray from rfl] at LE
 have SZ := Lib.hid (en_size Y2.out.1)
 have SQ := Lib.hid (show (KEn.cs enA0).toArray.size = (KEn.cs ⟨e, A1, c1⟩).toArray.size by rw [enA0_size, List.size_toArray]; exact (EnA.len Y2.out.1).symm)
 have SO := Lib.hid (en_ones ⟨e, A1, c1⟩)
 have GS := grownBy_setRow (w1.setCell ⟨w.heap.size, 36, none⟩ (.slice A1 e.bs.length c1)) (w.heap.size + 1) (KEn.cs ⟨e, A1, c1⟩).toArray
 have Y3 := Lib.hid (EnA.kept Y2.out.1 Y2.out.2 GS (NoT.of R2.out (by decide)))
 have X3 := Lib.hid (show KEn.blk 48 ((w1.setCell ⟨w.heap.size, 36, none⟩ (.slice A1 e.bs.length c1)).setRow (w.heap.size + 1) (KEn.cs ⟨e, A1, c1⟩).toArray) (w.heap.size + 1) ⟨e, A1, c1⟩ from setRow_heap _ _ _ _ _ _ R2.out)
 have B3 := Lib.hid (below_setRow B2.out (show w.heap.size ≤ w.heap.size + 1 by omega) (KEn.cs ⟨e, A1, c1⟩).toArray)
 have NB := Lib.hid R2.out
 unfold Kind.blk at NB
 clear hb1 ho1 HB2 GS k36 hz hzne
 go_wp2_with (first | ((with_reducible refine wpList_load_at (o := ⟨some 7, .load 48 (.tmp 1), _, _, _, _⟩) ?e1 48 (.tmp 1) ?e2 ⟨w.heap.size, 0, none⟩ ?e3 _ LE.out ?_); (case e1 => rfl); (case e2 => rfl); (case e3 => rfl)) | ((with_reducible refine wpList_store_row (o := ⟨none, .store 48 (.tmp 2) (.tmp 7), _, _, _, _⟩) ?e1 48 (.tmp 2) (.tmp 7) ?e2 (w.heap.size + 1) (KEn.cs ⟨e, A1, c1⟩).toArray ?e3 ?e4 48 _ NB.out SZ.out SQ.out SO.out ?_); (case e1 => rfl); (case e2 => rfl); (case e3 => rfl); (case e4 => rfl)))
 refine bodyPost_ret (v := KEn.v ⟨e, A1, c1⟩) ?_ rfl ?_
 ·exact res_en1 Tryz.results51 rfl X3.out Y3.out.1
 ·exact ⟨_, rfl, rfl, Y3.out.1, Y3.out.2, B3.out⟩
end
end Go.Proofs.YtbkopnpafmjicaaGreatDoor
