import Derived.Test.YtkjimhlpbgeagaaDoorC0
import Derived.Test.YtkjimhlpbgeagaaDoorC15
import Derived.Test.YtkjimhlpbgeagaaDoorC2
import Derived.Test.YtkjimhlpbgeagaaDoorC11
import Derived.Test.YtkjimhlpbgeagaaDoorC10
import Derived.Test.YtkjimhlpbgeagaaDoorC9
import Derived.Test.YtkjimhlpbgeagaaDoorC8
import Derived.Test.YtkjimhlpbgeagaaDoorC1
import Derived.Maps.OwnSet
import Derived.Maps.Views
import Derived.DeepKeys4
/-
  What the functions that a law of this layer reaches answer, part 16. Nothing that was there is written.
-/
namespace Go.Proofs.YtkjimhlpbgeagaaDoor
set_option linter.unusedVariables false
set_option linter.unusedSimpArgs false
section
open Go.RowKit WM
set_option maxRecDepth 100000
theorem lnP_put {w : World} {b : Nat} {z : List Int} {m s : Int} {v : Value} (h : w.heap[b]? = some (.cells (lnP z m s ++ [v]).toArray 49)) (hz : z.length = 16) (n r : Int) :
  ((w.setCell ⟨b, 16, none⟩ (.int .i64 n)).setCell ⟨b, 17, none⟩ (.int .i64 r)).heap[b]? = some (.cells (lnP z n r ++ [v]).toArray 49) := by
 rw [heap_setCell_same _ _ _ _ _ _ (heap_setCell_same _ _ _ _ _ _ h)]
 congr 2
 simp [lnP, hz]
theorem lnP_c {w : World} {b : Nat} {z : List Int} {m s : Int} {v : Value} (h : w.heap[b]? = some (.cells (lnP z m s ++ [v]).toArray 49)) (hz : z.length = 16) : w.cell? ⟨b, 16, none⟩ = some (.int .i64 m) ∧ w.cell? ⟨b, 17, none⟩ = some (.int .i64 s) := by
 constructor <;> (rw [cell_of_row _ _ _ _ _ _ h, List.getElem?_toArray]; simp [lnP, hz])
theorem sl_idA (b : Nat) (w : World) : (Instr.sliceAt 44 (.pointer (some ⟨b, 0, none⟩)) none none none).run Tryd.prog w = .ok (.slice (some ⟨b, 0, none⟩) 16 16) w := sl_arr b w
set_option maxHeartbeats 16000000 in
theorem mlin_any (q : Nat) (s : MS) (w : World) (h : MRd w q s) : Calls Tryd.prog 40 #[.pointer (some ⟨q, 0, none⟩)] w (MRdK TLn (fun x : LnA => x.x) w q (mlin s)) := by
 have HQ := Lib.hid h.lt
 have SA := Lib.hid ((MSt.new h (KLn.cs lnA0).toArray 49).old (.cells (KLn.cs lnA0).toArray 49))
 have SD := Lib.hid (show MSt w q s (KLn.cs lnA0).toArray 49 (World.drew ((w.alloc (.cells (KLn.cs lnA0).toArray 49)).alloc (.cells (KLn.cs lnA0).toArray 49))) from SA.out.more HQ.out (SA.out.rd.kept (row := none) (mrd_below ((Below.refl _ _).drew) (Nat.le_refl _)) (fun k e => by cases e)) (mrd_below ((Below.refl _ _).drew) (Nat.le_refl _)))
 have hh : ((w.alloc (.cells (KLn.cs lnA0).toArray 49)).alloc (.cells (KLn.cs lnA0).toArray 49)).heap[w.heap.size + 1]? = some (.cells (KLn.cs lnA0).toArray 49) := by
  have := heap_alloc_new (w.alloc (.cells (KLn.cs lnA0).toArray 49)) (.cells (KLn.cs lnA0).toArray 49)
  rw [World.size_alloc] at this
  exact this
 have HF := Lib.hid (mfill_any q (w.heap.size + 1) 16 s [Value.int .i64 0, .int .i64 0, .slice none 0 0] 49 (World.drew ((w.alloc (.cells (KLn.cs lnA0).toArray 49)).alloc (.cells (KLn.cs lnA0).toArray 49))) SD.out.rd (by have := h.lt; omega) (show _ = ((w.alloc (.cells (KLn.cs lnA0).toArray 49)).alloc (.cells (KLn.cs lnA0).toArray 49)).heap.size by simp only [World.size_alloc]) (by decide) (show (World.drew ((w.alloc (.cells (KLn.cs lnA0).toArray 49)).alloc (.cells (KLn.cs lnA0).toArray 49))).heap[w.heap.size + 1]? = some (Obj.cells ((List.replicate 16 (0 : Int)).map (Value.int .u8) ++ [Value.int .i64 0, .int .i64 0, .slice none 0 0]).toArray 49) from (((Below.refl _ _).drew).block _ (Array.getElem?_eq_some_iff.1 hh).1).trans hh))
 unfold FillPost at HF
 have HC1 := Lib.hid (fun X (hX : MRd X q (mfil 16 s).2) => mst_any q (mfil 16 s).2 X hX)
 have HC2 := Lib.hid (fun X (hX : MRd X q (mst (mfil 16 s).2).2) => show Calls Tryd.prog 39 #[.pointer (some ⟨q, 0, none⟩), .int .i64 8] X (MRdPost X q (.int .i64 (mnum 8 (mst (mfil 16 s).2).2).1) (mnum 8 (mst (mfil 16 s).2).2).2) from mnumber_any q 8 (mst (mfil 16 s).2).2 X hX (by decide))
 have HWF := Lib.hid (mlin_rds.ok s h.all).1
 have HCW := Lib.hid ((mnum_rds 8 (by decide)).ok (mst (mfil 16 s).2).2 (mst_rds.ok (mfil 16 s).2 ((mfil_rds 16).ok s h.all).2.1).2.1).1
 have HV : Hid (mlin s = (⟨(mfil 16 s).1, (mst (mfil 16 s).2).1.1, (mst (mfil 16 s).2).1.2, (mrep ment (mnum 8 (mst (mfil 16 s).2).2).1.toNat (mnum 8 (mst (mfil 16 s).2).2).2 []).1⟩, (mrep ment (mnum 8 (mst (mfil 16 s).2).2).1.toNat (mnum 8 (mst (mfil 16 s).2).2).2 []).2)) := Lib.hid rfl
 rw [HV.out] at HWF ⊢
 clear HV
 generalize mfil 16 s = x at *
 obtain ⟨z, s1⟩ := x
 dsimp only at HF HC1 HC2 HWF HCW ⊢
 generalize mst s1 = x at *
 obtain ⟨⟨n, r⟩, s2⟩ := x
 dsimp only at HC1 HC2 HWF HCW ⊢
 unfold st at HC1
 generalize mnum 8 s2 = x at *
 obtain ⟨cnt, s0⟩ := x
 dsimp only at HC2 HWF HCW ⊢
 obtain ⟨nn, rfl⟩ : ∃ m : Nat, cnt = m := ⟨cnt.toNat, by have := HCW.out.1; omega⟩
 rw [Int.toNat_natCast] at HWF ⊢
 obtain ⟨w0, w1, w2, w3, w4⟩ := HWF.out
 dsimp only at w0 w1 w2 w3 w4
 have HZL := Lib.hid w0
 have HZB := Lib.hid w1
 have HMY := Lib.hid w2
 have HNN := Lib.hid (show nn ≤ 8 by have := HCW.out.2; omega)
 have HPP := Lib.hid (lnP_len w0 n r)
 have HCALL := Lib.hid (fun (s : MS) (X : World) (hX : MRd X q s) => ment_any q s X hX)
 have HV : Hid (∀ (xs : List En) (sf : MS), mrep ment nn s0 [] = (xs, sf) → ∀ (y : LnA) (w' : World), y.x = ⟨z, n, r, xs⟩ → y.Ok w' → y.T w' → MRd w' q sf → w.grownBy w' (some q) → MRdK TLn (fun x : LnA => x.x) w q (⟨z, n, r, (mrep ment nn s0 []).1⟩, (mrep ment nn s0 []).2) (.returned (KLn.v y)) w') := Lib.hid (fun xs sf h1 y w' h2 h3 h4 h5 h6 => by rw [h1]; exact ⟨y, rfl, h2, h3, h4, h5, h6⟩)
 generalize MRdK TLn (fun x : LnA => x.x) w q (⟨z, n, r, (mrep ment nn s0 []).1⟩, (mrep ment nn s0 []).2) = POST at *
 have hz1 := sl_idA
 have hz := zeroLn
 rw [show KLn.v lnA0 = .agg (KLn.cs lnA0).toArray from rfl] at hz
 have hzne : ¬ (KLn.cs lnA0).toArray = #[] := by decide
 clear h hh w0 w1 w2 w3 w4 HWF
 go_enter Tryd.func40, Tryd.ntmps40
 go_wp2_with fail
 refine wp_region_held_drew (S := fun w' => True) (by kernel_rfl) trivial (fun hS => ?_)
 generalize World.drew _ = X0 at *
 refine wpHv (i := 0) (oi := ⟨some 4, _, _, _, _, _⟩) (v := ?_) rfl ?_ hS ?_; rotate_left; (focus (intro w9 hSw; go_simp; try with_reducible rfl)); simp only [Act.put, Z2, Z3, Z4]
 refine wpHv (i := 1) (oi := ⟨some 5, _, _, _, _, _⟩) (v := ?_) rfl ?_ hS ?_; rotate_left; (focus (intro w9 hSw; go_simp; try with_reducible rfl)); simp only [Act.put, Z2, Z3, Z4]
 refine wpHv (i := 2) (oi := ⟨some 6, _, _, _, _, _⟩) (v := ?_) rfl ?_ hS ?_; rotate_left; (focus (intro w9 hSw; go_simp; try with_reducible rfl)); simp only [Act.put, Z2, Z3, Z4]
 refine wpHv (i := 3) (oi := ⟨some 7, _, _, _, _, _⟩) (v := ?_) rfl ?_ hS ?_; rotate_left; (focus (intro w9 hSw; go_simp; try with_reducible rfl)); simp only [Act.put, Z2, Z3, Z4]
 refine wpHv (i := 4) (oi := ⟨some 8, _, _, _, _, _⟩) (v := (.slice (some ⟨w.heap.size + 1, 0, none⟩) 16 16)) rfl ?_ hS ?_; (focus (intro w9 hSw; have q0 := hz1 (w.heap.size + 1) w9; go_simp; try rfl)); simp only [Act.put, Z2, Z3, Z4]
 refine wpAnyH_ready (rs := [5]) (by kernel_rfl) (by simp) (AllReadyH.cons (o := ⟨some 9, _, _, _, _, _⟩) rfl (fun K hK => ?_) AllReadyH.nil)
 go_simp
 refine HF.out.mono ?_
 rintro e X1 ⟨rfl, hr, hc, ho⟩
 have SB := Lib.hid (SD.out.fill HQ.out (Nat.lt_succ_self _) hr ho)
 have NB := Lib.hid (show X1.heap[w.heap.size + 1]? = some (.cells (lnP z 0 0 ++ [Value.slice none 0 0]).toArray 49) from by rw [hc]; unfold lnP; rw [List.append_assoc]; rfl)
 clear hr hc ho hz1
 refine hK.out _ _ trivial (fun hS => ?_)
 clear hK K
 try simp only [Act.put]
 refine wpAnyH_done (by kernel_rfl) ?_ _
 clear hS
 go_wp2_with fail
 refine (HC1.out _ SB.out.rd).mono ?_
 rintro e X2 ⟨rfl, hr, hg⟩
 have S2 := Lib.hid (SB.out.more HQ.out hr hg)
 have N2 := Lib.hid ((hg.block _ (Array.getElem?_eq_some_iff.1 NB.out).1 (fun e => by have := Option.some.inj e; have := HQ.out; omega)).trans NB.out)
 clear hr hg
 have c16 := (lnP_c N2.out HZL.out).1
 have c17 := (lnP_c N2.out HZL.out).2
 have f16 : X2.frozen? ⟨w.heap.size + 1, 16, none⟩ = false := frozen_of_row _ _ _ _ _ N2.out
 have f17 : X2.frozen? ⟨w.heap.size + 1, 17, none⟩ = false := frozen_of_row _ _ _ _ _ N2.out
 have N3 := Lib.hid (lnP_put N2.out HZL.out n r)
 have S3 := Lib.hid ((S2.out.own HQ.out (grownBy_setCell9 X2 (w.heap.size + 1) 16 (.int .i64 n)) (Nat.lt_succ_self _)).own HQ.out (grownBy_setCell9 _ (w.heap.size + 1) 17 (.int .i64 r)) (Nat.lt_succ_self _))
 have HX3 := Lib.hid (HC2.out _ S3.out.rd)
 go_wp2_with fail
 generalize (X2.setCell ⟨w.heap.size + 1, 16, none⟩ (.int .i64 n)).setCell ⟨w.heap.size + 1, 17, none⟩ (.int .i64 r) = X3 at *
 refine HX3.out.mono ?_
 rintro e X4 ⟨rfl, hr, hg⟩
 have S4 := Lib.hid (S3.out.more HQ.out hr hg)
 have N4 := Lib.hid ((hg.block _ (Array.getElem?_eq_some_iff.1 N3.out).1 (fun e => by have := Option.some.inj e; have := HQ.out; omega)).trans N3.out)
 have R0 := Lib.hid (show RQ TEn 52 49 (w.heap.size + 1) (lnP z n r) w q (KLn.cs lnA0).toArray 49 s0 (.slice none 0 0) (.slice none 0 0) [] X4 from ⟨S4.out.rd, S4.out.res, N4.out, World.ownsRow_nil _ _ _ _, (fun x hx => by cases hx), S4.out.grown, HQ.out, Nat.lt_succ_self _⟩)
 clear hr hg c16 c17 f16 f17
 generalize hbl : w.heap.size + 1 = bl at *
 clear hbl
 generalize hpre : lnP z n r = pre at *
 have HPRE := Lib.hid hpre
 have HCR := Lib.hid lnA0_size
 generalize (KLn.cs lnA0).toArray = CR at *
 clear hpre HC1 HC2 HF hzne hz HX3
 go_wp2
 go_loopw [19] (fun i wr => ∃ (k : Nat) (s : MS) (v : Value) (xs : List _), k ≤ nn ∧ i = .int .i64 k ∧ xs.length = k ∧ RQ TEn 52 49 bl pre w q CR 49 s v v xs wr ∧ mrep ment nn s0 [] = mrep ment (nn - k) s (xs.map (fun x : EnA => x.e))) (fun i _ => nn - (intOf i).toNat)
 case atStart => exact ⟨0, s0, _, [], Nat.zero_le _, rfl, rfl, R0.out, rfl⟩
 case round =>
  obtain ⟨k, s, v, xs, hk, rfl, hxk, hrq, hmr⟩ := hrel
  have RW := Lib.hid hrq
  have HXK := Lib.hid hxk
  have hnn := HNN.out
  by_cases hlt : k < nn
  ·have t2 : (k : Int) < (nn : Int) := by omega
   have HLT := Lib.hid hlt
   have HST := Lib.hid (hmr.trans (mrep_stepM hlt s (xs.map (fun x : EnA => x.e))))
   have HXL := Lib.hid (show xs.length ≤ 90000 by omega)
   have HC := Lib.hid (fun X (hX : MRd X q s) => HCALL.out s X hX)
   clear hrq hxk hmr hlt
   go_wp2_with fail
   refine wp_region_held_drew (S := fun w' => True) (by kernel_rfl) trivial (fun hS => ?_)
   have RD := Lib.hid RW.out.drew
   generalize World.drew _ = X at *
   refine wpHv (i := 0) (oi := ⟨some 21, _, _, _, _, _⟩) (v := ?_) rfl ?_ hS ?_; rotate_left; (focus (intro w9 hSw; go_simp; try with_reducible rfl)); simp only [Act.put, Z2, Z3, Z4]
   refine wpHv (i := 2) (oi := ⟨some 23, _, _, _, _, _⟩) (v := ?_) rfl ?_ hS ?_; rotate_left; (focus (intro w9 hSw; go_simp; try with_reducible rfl)); simp only [Act.put, Z2, Z3, Z4]
   refine wpAnyH_ready (rs := [1, 3]) (by kernel_rfl) (by simp) (AllReadyH.cons (o := ⟨some 22, _, _, _, _, _⟩) rfl (fun K hK => ?_) (AllReadyH.cons (o := ⟨some 24, _, _, _, _, _⟩) rfl (fun K hK => ?_) AllReadyH.nil))
   ·have g0 := RD.out.cell HPP.out
    go_simp
    clear g0
    refine hK.out _ _ trivial (fun hS => ?_)
    clear hK K
    try simp only [Act.put, Z2, Z3, Z4]
    refine wpAnyH_ready (rs := [3]) (by kernel_rfl) (by simp) (AllReadyH.cons (o := ⟨some 24, _, _, _, _, _⟩) rfl (fun K hK => ?_) AllReadyH.nil)
    go_simp
    refine (HC.out _ RD.out.rd).mono ?_
    rintro e X2 ⟨y, rfl, hcv, hok, htag, hr, hg⟩
    have R1 := Lib.hid (RD.out.call hr hg (by decide))
    have YO := Lib.hid (show TEn.K.ok _ y ∧ TEn.tag _ y from ⟨hok, htag⟩)
    have YL := Lib.hid (show (KEn.cs y).length = KEn.n from KEn.len hok)
    have HCV := Lib.hid hcv
    clear hcv hok htag hr hg
    refine hK.out _ _ trivial (fun hS => ?_)
    clear hK K
    try simp only [Act.put, Z2, Z3, Z4]
    refine wpAnyH_ready (rs := [4]) (by kernel_rfl) (by simp) (AllReadyH.cons (o := ⟨some 25, _, _, _, _, _⟩) rfl (fun K hK => ?_) AllReadyH.nil)
    refine step_bsliceK (K := KEn) rfl (.tmp 24) rfl y rfl YL.out Tryd.underlying47 sizeEn zeroEn nEn ?_
    have R3 := Lib.hid (R1.out.alloc (.cells (KEn.cs y).toArray 52))
    have YO4 := Lib.hid (show TEn.K.ok (X2.alloc (.cells (KEn.cs y).toArray 52)) y ∧ TEn.tag (X2.alloc (.cells (KEn.cs y).toArray 52)) y from ⟨KEn.below YO.out.1 ((Below.refl _ _).alloc (Nat.le_refl _) (.cells (KEn.cs y).toArray 52)), TEn.below YO.out.2 ((Below.refl _ _).alloc (Nat.le_refl _) (.cells (KEn.cs y).toArray 52))⟩)
    refine hK.out _ _ trivial (fun hS => ?_)
    clear hK K
    try simp only [Act.put, Z2, Z3, Z4]
    refine wpAnyH_ready (rs := [5]) (by kernel_rfl) (by simp) (AllReadyH.cons (o := ⟨some 26, _, _, _, _, _⟩) rfl (fun K hK => ?_) AllReadyH.nil)
    obtain ⟨i0, hi, hz0, hz1, hz2⟩ := info_parts infoEn
    refine step_append_K (K := KEn) (o := ⟨some 26, _, _, _, _, _⟩) rfl _ _ 47 rfl (bl + 1) 52 i0 _ 88 Tryd.underlying47 hi hz0 hz1 hz2 (by decide) (by decide) v xs y rfl R3.out.own HXL.out YL.out rfl R3.out.lt ?_
    intro v3 X9 ho3 hg3
    obtain ⟨g13, cap13, rfl⟩ := ownsRow_succ ho3
    have M5 := Lib.hid (R3.out.app YO4.out ho3 hg3 (by decide))
    have RF := Lib.hid (M5.out.store (by decide) HPP.out)
    clear ho3 hg3
    refine hK.out _ _ trivial (fun hS => ?_)
    clear hK K
    try simp only [Act.put, Z2, Z3, Z4]
    refine wpHv (i := 6) (oi := ⟨some 27, _, _, _, _, _⟩) (v := ?_) rfl ?_ hS ?_; rotate_left; (focus (intro w9 hSw; go_simp; try with_reducible rfl)); simp only [Act.put, Z2, Z3, Z4]
    refine wpAnyH_ready (rs := [7]) (by kernel_rfl) (by simp) (AllReadyH.cons (o := ⟨none, _, _, _, _, _⟩) rfl (fun K hK => ?_) AllReadyH.nil)
    have g0 := M5.out.cell HPP.out
    have gf := M5.out.fz 18
    go_simp
    clear g0 gf
    refine hK.out _ _ trivial (fun hS => ?_)
    clear hK K
    try simp only [Act.put]
    refine wpAnyH_done (by kernel_rfl) ?_ _
    clear hS
    generalize hv4 : (Value.slice (some ⟨g13, 0, none⟩) (xs.length + 1) cap13) = v4 at *
    clear hv4
    go_wp2
    go_roundw
    case rel => exact ⟨k + 1, _, v4, xs ++ [y], by have := HLT.out; omega, by go_num, by rw [List.length_append, HXK.out]; rfl, RF.out, by rw [HST.out, List.map_append, ← HCV.out]; rfl⟩
    case measure => have := HLT.out; simp [intOf]; omega
   ·go_simp
    refine (HC.out _ RD.out.rd).mono ?_
    rintro e X7 ⟨y, rfl, hcv, hok, htag, hr, hg⟩
    have R6 := Lib.hid (RD.out.call hr hg (by decide))
    have YO := Lib.hid (show TEn.K.ok _ y ∧ TEn.tag _ y from ⟨hok, htag⟩)
    have YL := Lib.hid (show (KEn.cs y).length = KEn.n from KEn.len hok)
    have HCV := Lib.hid hcv
    clear hcv hok htag hr hg
    refine hK.out _ _ trivial (fun hS => ?_)
    clear hK K
    try simp only [Act.put, Z2, Z3, Z4]
    refine wpAnyH_ready (rs := [1, 4]) (by kernel_rfl) (by simp) (AllReadyH.cons (o := ⟨some 22, _, _, _, _, _⟩) rfl (fun K hK => ?_) (AllReadyH.cons (o := ⟨some 25, _, _, _, _, _⟩) rfl (fun K hK => ?_) AllReadyH.nil))
    ·have g0 := R6.out.cell HPP.out
     go_simp
     clear g0
     refine hK.out _ _ trivial (fun hS => ?_)
     clear hK K
     try simp only [Act.put, Z2, Z3, Z4]
     refine wpAnyH_ready (rs := [4]) (by kernel_rfl) (by simp) (AllReadyH.cons (o := ⟨some 25, _, _, _, _, _⟩) rfl (fun K hK => ?_) AllReadyH.nil)
     refine step_bsliceK (K := KEn) rfl (.tmp 24) rfl y rfl YL.out Tryd.underlying47 sizeEn zeroEn nEn ?_
     have R8 := Lib.hid (R6.out.alloc (.cells (KEn.cs y).toArray 52))
     have YO9 := Lib.hid (show TEn.K.ok (X7.alloc (.cells (KEn.cs y).toArray 52)) y ∧ TEn.tag (X7.alloc (.cells (KEn.cs y).toArray 52)) y from ⟨KEn.below YO.out.1 ((Below.refl _ _).alloc (Nat.le_refl _) (.cells (KEn.cs y).toArray 52)), TEn.below YO.out.2 ((Below.refl _ _).alloc (Nat.le_refl _) (.cells (KEn.cs y).toArray 52))⟩)
     refine hK.out _ _ trivial (fun hS => ?_)
     clear hK K
     try simp only [Act.put, Z2, Z3, Z4]
     refine wpAnyH_ready (rs := [5]) (by kernel_rfl) (by simp) (AllReadyH.cons (o := ⟨some 26, _, _, _, _, _⟩) rfl (fun K hK => ?_) AllReadyH.nil)
     obtain ⟨i0, hi, hz0, hz1, hz2⟩ := info_parts infoEn
     refine step_append_K (K := KEn) (o := ⟨some 26, _, _, _, _, _⟩) rfl _ _ 47 rfl (bl + 1) 52 i0 _ 88 Tryd.underlying47 hi hz0 hz1 hz2 (by decide) (by decide) v xs y rfl R8.out.own HXL.out YL.out rfl R8.out.lt ?_
     intro v3 X9 ho3 hg3
     obtain ⟨g13, cap13, rfl⟩ := ownsRow_succ ho3
     have M10 := Lib.hid (R8.out.app YO9.out ho3 hg3 (by decide))
     have RF := Lib.hid (M10.out.store (by decide) HPP.out)
     clear ho3 hg3
     refine hK.out _ _ trivial (fun hS => ?_)
     clear hK K
     try simp only [Act.put, Z2, Z3, Z4]
     refine wpHv (i := 6) (oi := ⟨some 27, _, _, _, _, _⟩) (v := ?_) rfl ?_ hS ?_; rotate_left; (focus (intro w9 hSw; go_simp; try with_reducible rfl)); simp only [Act.put, Z2, Z3, Z4]
     refine wpAnyH_ready (rs := [7]) (by kernel_rfl) (by simp) (AllReadyH.cons (o := ⟨none, _, _, _, _, _⟩) rfl (fun K hK => ?_) AllReadyH.nil)
     have g0 := M10.out.cell HPP.out
     have gf := M10.out.fz 18
     go_simp
     clear g0 gf
     refine hK.out _ _ trivial (fun hS => ?_)
     clear hK K
     try simp only [Act.put]
     refine wpAnyH_done (by kernel_rfl) ?_ _
     clear hS
     generalize hv4 : (Value.slice (some ⟨g13, 0, none⟩) (xs.length + 1) cap13) = v4 at *
     clear hv4
     go_wp2
     go_roundw
     case rel => exact ⟨k + 1, _, v4, xs ++ [y], by have := HLT.out; omega, by go_num, by rw [List.length_append, HXK.out]; rfl, RF.out, by rw [HST.out, List.map_append, ← HCV.out]; rfl⟩
     case measure => have := HLT.out; simp [intOf]; omega
    ·refine step_bsliceK (K := KEn) rfl (.tmp 24) rfl y rfl YL.out Tryd.underlying47 sizeEn zeroEn nEn ?_
     have R11 := Lib.hid (R6.out.alloc (.cells (KEn.cs y).toArray 52))
     have YO12 := Lib.hid (show TEn.K.ok (X7.alloc (.cells (KEn.cs y).toArray 52)) y ∧ TEn.tag (X7.alloc (.cells (KEn.cs y).toArray 52)) y from ⟨KEn.below YO.out.1 ((Below.refl _ _).alloc (Nat.le_refl _) (.cells (KEn.cs y).toArray 52)), TEn.below YO.out.2 ((Below.refl _ _).alloc (Nat.le_refl _) (.cells (KEn.cs y).toArray 52))⟩)
     refine hK.out _ _ trivial (fun hS => ?_)
     clear hK K
     try simp only [Act.put, Z2, Z3, Z4]
     refine wpAnyH_ready (rs := [1]) (by kernel_rfl) (by simp) (AllReadyH.cons (o := ⟨some 22, _, _, _, _, _⟩) rfl (fun K hK => ?_) AllReadyH.nil)
     have g0 := R11.out.cell HPP.out
     go_simp
     clear g0
     refine hK.out _ _ trivial (fun hS => ?_)
     clear hK K
     try simp only [Act.put, Z2, Z3, Z4]
     refine wpAnyH_ready (rs := [5]) (by kernel_rfl) (by simp) (AllReadyH.cons (o := ⟨some 26, _, _, _, _, _⟩) rfl (fun K hK => ?_) AllReadyH.nil)
     obtain ⟨i0, hi, hz0, hz1, hz2⟩ := info_parts infoEn
     refine step_append_K (K := KEn) (o := ⟨some 26, _, _, _, _, _⟩) rfl _ _ 47 rfl (bl + 1) 52 i0 _ 88 Tryd.underlying47 hi hz0 hz1 hz2 (by decide) (by decide) v xs y rfl R11.out.own HXL.out YL.out rfl R11.out.lt ?_
     intro v3 X9 ho3 hg3
     obtain ⟨g13, cap13, rfl⟩ := ownsRow_succ ho3
     have M13 := Lib.hid (R11.out.app YO12.out ho3 hg3 (by decide))
     have RF := Lib.hid (M13.out.store (by decide) HPP.out)
     clear ho3 hg3
     refine hK.out _ _ trivial (fun hS => ?_)
     clear hK K
     try simp only [Act.put, Z2, Z3, Z4]
     refine wpHv (i := 6) (oi := ⟨some 27, _, _, _, _, _⟩) (v := ?_) rfl ?_ hS ?_; rotate_left; (focus (intro w9 hSw; go_simp; try with_reducible rfl)); simp only [Act.put, Z2, Z3, Z4]
     refine wpAnyH_ready (rs := [7]) (by kernel_rfl) (by simp) (AllReadyH.cons (o := ⟨none, _, _, _, _, _⟩) rfl (fun K hK => ?_) AllReadyH.nil)
     have g0 := M13.out.cell HPP.out
     have gf := M13.out.fz 18
     go_simp
     clear g0 gf
     refine hK.out _ _ trivial (fun hS => ?_)
     clear hK K
     try simp only [Act.put]
     refine wpAnyH_done (by kernel_rfl) ?_ _
     clear hS
     generalize hv4 : (Value.slice (some ⟨g13, 0, none⟩) (xs.length + 1) cap13) = v4 at *
     clear hv4
     go_wp2
     go_roundw
     case rel => exact ⟨k + 1, _, v4, xs ++ [y], by have := HLT.out; omega, by go_num, by rw [List.length_append, HXK.out]; rfl, RF.out, by rw [HST.out, List.map_append, ← HCV.out]; rfl⟩
     case measure => have := HLT.out; simp [intOf]; omega
  ·have hkn : k = nn := by omega
   have t2 : ¬ (k : Int) < (nn : Int) := by omega
   have HM := Lib.hid (show mrep ment nn s0 [] = (xs.map (fun x : EnA => x.e), s) from by rw [hmr, hkn, Nat.sub_self]; rfl)
   have HXN := Lib.hid (show xs.length = nn by omega)
   clear hrq hxk hmr hkn hlt hk
   obtain ⟨A9, c9, hv9⟩ : ∃ A9 c9, v = .slice A9 xs.length c9 := by
    rcases RW.out.own.2 with ⟨h1, h2⟩ | ⟨g, cp, cur, h1, _⟩
    ·exact ⟨none, 0, by rw [h1, h2]⟩
    ·exact ⟨_, cp, h1⟩
   subst hv9
   have RROW := Lib.hid (show KEn.row wr A9 c9 xs from Kind.row_own (K := KEn) RW.out.own (fun x hx => (RW.out.ok x hx).1))
   have RTAG := Lib.hid (show Tag 52 wr A9 from Tag.own RW.out.own)
   obtain ⟨y, hy⟩ : ∃ y : LnA, y = ⟨z, n, r, A9, c9, xs⟩ := ⟨_, rfl⟩
   have BLK := Lib.hid (show wr.heap[bl]? = some (.cells (KLn.cs y).toArray 49) from by rw [hy]; have h := RW.out.blk; rw [← HPRE.out] at h; rw [h, ln_cs])
   have hmy := may_iff.1 HMY.out
   have OKF := Lib.hid (fun (X : World) (hX : KEn.row X A9 c9 xs) => show LnA.Ok X y from by rw [hy]; exact ⟨HZL.out, HZB.out, wf_smallM (by (try dsimp only); omega) (by (try dsimp only); omega), wf_smallM (by (try dsimp only); omega) (by (try dsimp only); omega), hX⟩)
   have OKY := Lib.hid (OKF.out wr RROW.out)
   clear hmy
   have LX := Lib.hid (load_ln (Kind.at_blk (K := KLn) BLK.out) OKY.out)
   have SZY := Lib.hid (ln_size OKY.out)
   have SQY := Lib.hid (show CR.size = (KLn.cs y).toArray.size by rw [HCR.out, List.size_toArray]; exact (LnA.len OKY.out).symm)
   have SOY := Lib.hid (ln_ones y)
   have DN := Lib.hid (RW.out.done (Y := wr.setRow w.heap.size (KLn.cs y).toArray) mrd_row (by decide) (by decide) rfl)
   have RR := Lib.hid (show (wr.setRow w.heap.size (KLn.cs y).toArray).heap[w.heap.size]? = some (.cells (KLn.cs y).toArray 49) from setRow_heap _ _ _ _ _ _ RW.out.res)
   have HYX := Lib.hid (show y.x = ⟨z, n, r, xs.map (fun x : EnA => x.e)⟩ by rw [hy]; rfl)
   have HYT := Lib.hid (show y.T (wr.setRow w.heap.size (KLn.cs y).toArray) from ⟨by rw [show y.A = A9 by rw [hy]]; exact DN.out.2.2.2.2, by rw [show y.es = xs by rw [hy]]; exact fun x hx => (DN.out.2.2.1 x hx).2⟩)
   have HFI := Lib.hid (HV.out _ s HM.out y _ HYX.out (OKF.out _ DN.out.2.2.2.1) HYT.out DN.out.1 DN.out.2.1)
   clear hy hnn
   go_wp2_with (first | ((with_reducible refine wpList_load_at (o := ⟨some 29, .load 49 (.tmp 3), _, _, _, _⟩) ?e1 49 (.tmp 3) ?e2 ⟨bl, 0, none⟩ ?e3 _ LX.out ?_); (case e1 => rfl); (case e2 => rfl); (case e3 => rfl)) | ((with_reducible refine wpList_store_row (o := ⟨none, .store 49 (.tmp 2) (.tmp 29), _, _, _, _⟩) ?e1 49 (.tmp 2) (.tmp 29) ?e2 w.heap.size (KLn.cs y).toArray ?e3 ?e4 49 _ RW.out.res SZY.out SQY.out SOY.out ?_); (case e1 => rfl); (case e2 => rfl); (case e3 => rfl); (case e4 => rfl)) | fail)
   refine bodyPost_ret (v := .agg (KLn.cs y).toArray) ?_ rfl HFI.out
   exact results_cell_row Tryd.results40 _ _ w.heap.size 49 _ (0, 0) _ rfl RR.out Tryd.underlying49 rfl SZY.out
end
section
open Go.RowKit WM
def mofE (D : List Int → List Int) (f : Fld) : En := ⟨f.no, f.c.n, f.c.r, f.c.s.size, D (nums f.c.s), sgOf (nums f.c.s)⟩
def mofL (D : List Int → List Int) (R : Rc) : Ln := ⟨R.z, R.n, R.r, R.fs.map (mofE D)⟩
def mof (D : List Int → List Int) (base : List Int) (rs : List Rc) : Mn := ⟨base, rs.map (mofL D)⟩
end
section
section
open Go.RowKit WM
set_option maxRecDepth 100000
set_option maxHeartbeats 2000000 in
theorem one_any (s : ByteArray) (w : World) (hlaid : Laid w) (hs : s.size ≤ 1000000) : Calls Tryd.prog 65 #[.string s] w fun e w' => e = .returned (KSig.v (sgOne (nums s))) ∧ Below w.heap.size w w' := by
 have hz := zeroSig
 have hok := sgOne_ok (nums s)
 have HC1 := Lib.hid (fun w => rlsum_any s w hs)
 have HC2 := Lib.hid (fun (X : World) (hX : Below w.heap.size w X) => of_any s X (hlaid.below hX (Nat.le_refl _)) (by omega))
 unfold DSumPost at HC2
 have HBD := Lib.hid (fun w9 => build_sig (x := sgOne (nums s)) hok.2.2.1 w9)
 have SZ := Lib.hid (sig_size hok)
 have SQ := Lib.hid (sig_same sgz_ok hok)
 have SO := Lib.hid (sig_ones (sgOne (nums s)))
 have hrA : ∀ X, Below (w.heap.size + 1) (w.alloc (.cells (KSig.cs sgz).toArray 107)) X → X.heap[w.heap.size]? = some (.cells (KSig.cs sgz).toArray 107) := fun X hX => (hX.block _ (by omega)).trans (heap_alloc_new w _)
 have hbA : Below w.heap.size w (w.alloc (.cells (KSig.cs sgz).toArray 107)) := (Below.refl _ _).alloc (Nat.le_refl _) _
 have hszA : (w.alloc (.cells (KSig.cs sgz).toArray 107)).heap.size = w.heap.size + 1 := World.size_alloc _ _
 simp only [show (sgOne (nums s)).wk = rlS (nums s) from rfl, show (sgOne (nums s)).ds = SH.sum (nums s) from rfl] at HBD
 rw [show KSig.v ⟨0, List.replicate 32 0⟩ = .agg (KSig.cs sgz).toArray from rfl] at hz
 rw [show KSig.v (sgOne (nums s)) = .agg (KSig.cs (sgOne (nums s))).toArray from rfl] at HBD ⊢
 have hzne : ¬ (KSig.cs sgz).toArray = #[] := by simp [KSig, Sg.cs]
 have HRA := Lib.hid hrA
 have HBA := Lib.hid hbA
 have HSZ := Lib.hid hszA
 generalize (KSig.cs sgz).toArray = Z at *
 generalize (KSig.cs (sgOne (nums s))).toArray = V at *
 generalize rlS (nums s) = R at *
 generalize bvals (SH.sum (nums s)) = D at *
 clear hrA hbA hszA hok hlaid
 go_enter Tryd.func65, Tryd.ntmps65
 go_wp2_with fail
 refine (HC1.out _).mono ?_
 rintro e w1 ⟨rfl, hb1⟩
 rw [HSZ.out] at hb1
 have HB1 := Lib.hid hb1
 clear hb1
 go_wp2_with fail
 refine (HC2.out _ (HBA.out.trans (HB1.out.mono (by omega)))).mono ?_
 rintro e w2 ⟨rfl, hb2⟩
 have HB2 := Lib.hid (HB1.out.trans (hb2.mono (by have := HB1.out.size; rw [HSZ.out] at this; exact this)))
 have F1 := Lib.hid (HRA.out _ HB2.out)
 have F2 := Lib.hid (show (w2.setRow w.heap.size V).heap[w.heap.size]? = some (.cells V 107) from setRow_heap _ _ _ _ _ _ F1.out)
 have F3 := Lib.hid (below_setRow (HBA.out.trans (HB2.out.mono (by omega))) (Nat.le_refl _) V)
 clear hb2
 go_wp2_with (first | ((with_reducible refine wpList_build_at (o := ⟨some 7, .build 107 #[(0, .tmp 4), (1, .tmp 6)], _, _, _, _⟩) ?e1 107 #[(0, .tmp 4), (1, .tmp 6)] ?e2 #[(0, .int .u32 R), (1, .agg D)] ?e3 _ (HBD.out w2) ?_); (case e1 => rfl); (case e2 => rfl); (case e3 => (simp only [List.map_toArray, List.map_cons, List.map_nil]; rfl))) | ((with_reducible refine wpList_store_row (o := ⟨none, .store 107 (.tmp 2) (.tmp 7), _, _, _, _⟩) ?e1 107 (.tmp 2) (.tmp 7) ?e2 w.heap.size V ?e3 ?e4 107 _ F1.out SZ.out SQ.out SO.out ?_); (case e1 => rfl); (case e2 => rfl); (case e3 => rfl); (case e4 => rfl)))
 exact bodyPost_ret (v := .agg V) (by exact results_cell_row Tryd.results65 _ _ w.heap.size 107 V (0, 0) _ rfl F2.out Tryd.underlying107 rfl SZ.out) (by rfl) ⟨rfl, F3.out⟩
end
section
open Go.RowKit WM
set_option maxRecDepth 100000
theorem cut_upto (s : ByteArray) (m : Nat) (hm : m ≤ s.size) (I : Int) (eI : I = m) (w : World) : (Instr.slice 9 (.string s) none (some (.int .i64 I)) none).run Tryd.prog w = .ok (.string (s.extract 0 m)) w := by
 subst eI
 have h := run_slice_string_h (P := Tryd.prog) (w := w) (t := 9) (s := s) Tryd.underlying9 .i64 (m : Int) (by omega) (by omega)
 simpa using h
theorem cut_from (s : ByteArray) (m : Nat) (hm : m ≤ s.size) (I : Int) (eI : I = m) (w : World) : (Instr.slice 9 (.string s) (some (.int .i64 I)) none none).run Tryd.prog w = .ok (.string (s.extract m s.size)) w := by
 subst eI
 have h := run_slice_string_l (P := Tryd.prog) (w := w) (t := 9) (s := s) Tryd.underlying9 .i64 (m : Int) (by omega) (by omega)
 simpa using h
set_option maxHeartbeats 4000000 in
theorem of10_new (s : ByteArray) (w : World) (hlaid : Laid w) (hs : s.size ≤ 2000000) : Calls Tryd.prog 47 #[.string s] w (KPostN KSig 107 w (sgOf (nums s))) := by
 have HN0 := Lib.hid (kpostN_nil (K := KSig) (te := 107) (Below.refl w.heap.size w))
 obtain ⟨n, hn⟩ : ∃ n, n = s.size := ⟨_, rfl⟩
 have HNN := Lib.hid (show (nums s).length = n by rw [nums_len, hn])
 have hlen : s.size = n := hn.symm
 have HSZ := Lib.hid hlen
 clear hn
 by_cases h1 : n < 24
 ·have HV := Lib.hid (sgOf_none (zs := nums s) (by rw [HNN.out]; exact h1))
  have t1 : (n : Int) < 24 := by omega
  go_enter Tryd.func47, Tryd.ntmps47
  go_wp2
  go_ret
  rw [HV.out]
  exact HN0.out
 ·have t0 : ¬ (n : Int) < 24 := by omega
  have h24 : ¬ (nums s).length < 24 := by rw [HNN.out]; exact h1
  obtain ⟨m, hm⟩ : ∃ m, m = n / 8 := ⟨_, rfl⟩
  have HLN := Lib.hid (sgOf_len h24)
  rw [HNN.out, ← hm] at HLN
  have HAT := Lib.hid (fun k (hk : k < m) => sgOf_at h24 (k := k) (by rw [HNN.out, ← hm]; exact hk))
  have HOK := Lib.hid (sgOf_ok (nums s))
  generalize sgOf (nums s) = L at *
  have hm8 : 8 * m ≤ n ∧ n < 8 * m + 8 := by omega
  have hquo : Int.tdiv (n : Int) 8 = (m : Int) := by rw [Int.tdiv_eq_ediv_of_nonneg (by omega)]; omega
  have HB := Lib.hid (Below.refl w.heap.size w)
  have HPS := Lib.hid (fun (p : ByteArray) (hp : p.size = 8) (X : World) (hX : Below w.heap.size w X) => one_any p X (hlaid.below hX (Nat.le_refl _)) (by omega))
  obtain ⟨i0, hi, hz0, hz1, hz2⟩ := info_parts infoSig
  have hzl : (KSig.v ⟨0, List.replicate 32 0⟩).cells.size = KSig.n := by decide
  have HUP := Lib.hid cut_upto
  have HFR := Lib.hid cut_from
  clear h1 h24 hm hlaid
  go_enter Tryd.func47, Tryd.ntmps47
  go_wp2_with (at_make; refine wpList_make_own _ rfl _ _ 50 rfl w.heap.size 107 i0 _ 33 Tryd.underlying50 hi hz0 hz1 .i64 .i64 (m : Int) m rfl rfl rfl (by rw [hz2]; omega) (by simp only [maxLen]; omega) (Nat.le_refl _) ?_; intro w1 hown hgrow; have OW := Lib.hid hown; have BW := Lib.hid ((Below.refl w.heap.size w).grown hgrow (Nat.le_refl _) (fun _ h => by cases h)); clear hown hgrow)
  go_loopw [0, 3] (fun r v wr => ∃ (k q : Nat) (R : ByteArray), k ≤ m ∧ R.size = q ∧ q + 8 * k = n ∧ r = .string R ∧ nums R = (nums s).drop (8 * k) ∧ wr.ownsRow w.heap.size 107 KSig.n v k ((L.take k).flatMap KSig.cs) ∧ Below w.heap.size w wr) (fun r _ _ => match r with | .string R => R.size | _ => 0)
  case atStart => exact ⟨0, n, s, Nat.zero_le _, hlen, rfl, rfl, by simp, OW.out, BW.out⟩
  case round =>
   obtain ⟨k, q, R, hk, hq, hqn, rfl, hR, ho, hb⟩ := hrel
   have HO := Lib.hid ho
   have HBB := Lib.hid hb
   have HRR := Lib.hid hR
   have HQ := Lib.hid hq
   have HQN := Lib.hid hqn
   by_cases hlt : k < m
   ·have t1 : (8 : Int) ≤ (q : Int) := by omega
    have hup := HUP.out R 8 (by omega) 8 rfl
    have hfr := HFR.out R 8 (by omega) 8 rfl
    have HNP := Lib.hid (show nums (R.extract 0 8) = ((nums s).drop (8 * k)).take 8 by rw [nums_extract, hR, List.drop_zero])
    have HZP := Lib.hid (show (R.extract 0 8).size = 8 from extract_size _ _ _ (by omega))
    have HNF := Lib.hid (show nums (R.extract 8 R.size) = (nums s).drop (8 * (k + 1)) by
     rw [nums_extract, hR, List.drop_drop, List.take_of_length_le (by rw [List.length_drop, HNN.out]; omega)]
     rw [show 8 * (k + 1) = 8 * k + 8 by omega])
    have HZF := Lib.hid (show (R.extract 8 R.size).size = q - 8 by rw [extract_size _ _ _ (Nat.le_refl _), hq])
    have HC := Lib.hid (HPS.out (R.extract 0 8) HZP.out wr hb)
    rw [HNP.out, ← HAT.out k hlt] at HC
    have HXO := Lib.hid (HOK.out (L.getD k sg0) (by rw [List.getD_eq_getElem?_getD, List.getElem?_eq_getElem (by rw [HLN.out]; exact hlt)]; exact List.getElem_mem _))
    have HTK := Lib.hid (show L.take (k + 1) = L.take k ++ [L.getD k sg0] by
     rw [List.take_succ_eq_append_getElem (by rw [HLN.out]; exact hlt), List.getD_eq_getElem?_getD, List.getElem?_eq_getElem (by rw [HLN.out]; exact hlt)]
     rfl)
    clear HNP HZP hR
    generalize R.extract 0 8 = p at *
    generalize R.extract 8 R.size = f at *
    generalize L.getD k sg0 = x at *
    clear ho hb hqn
    go_wp2_with fail
    refine HC.out.mono ?_
    rintro e w1 ⟨rfl, hb1⟩
    have B1 := Lib.hid (HBB.out.trans (hb1.mono HBB.out.size))
    have O1 := Lib.hid ((own_below HO.out hb1).alloc (.cells (KSig.cs x).toArray 107))
    have B2 := Lib.hid (B1.out.alloc B1.out.size (.cells (KSig.cs x).toArray 107))
    have R2 := Lib.hid (Kind.row_one (K := KSig) (w := w1) (x := x) (t := 107) HXO.out)
    have VL : Hid (k + 1 ≤ 10000000) := Lib.hid (by omega)
    have VS := Lib.hid B2.out.size
    have XL := Lib.hid (show (KSig.cs x).length = KSig.n from Sg.cs_len HXO.out)
    clear hb1
    go_wp2_with (first | ((with_reducible refine wpList_bsliceK (K := KSig) (o := ⟨some 18, .buildSlice 50 1 #[(0, .tmp 17)], _, _, _, _⟩) ?e1 (.tmp 17) ?e2 x ?e3 XL.out Tryd.underlying50 sizeSigK zeroSig nSig ?_); (case e1 => rfl); (case e2 => rfl); (case e3 => rfl)) | (at_builtin; refine wpList_append_K (K := KSig) _ rfl _ _ 50 rfl w.heap.size 107 i0 _ 36 Tryd.underlying50 hi hz0 hz1 hz2 hzl (by omega) _ k (L.take k) rfl O1.out (some ⟨w1.heap.size, 0, none⟩) 1 1 [x] rfl R2.out rfl VL.out VS.out ?_; intro v3 w3 ho3 hg3; have O3 := Lib.hid ho3; have B3 := Lib.hid (B2.out.grown hg3 B2.out.size (fun g hg => own_base O1.out hg)); obtain ⟨g13, cap13, rfl⟩ := ownsRow_succ ho3; clear ho3 hg3))
    go_roundw
    case rel => exact ⟨k + 1, q - 8, f, by omega, HZF.out, by have := HQN.out; omega, rfl, HNF.out, by rw [HTK.out]; exact O3.out, B3.out⟩
    case measure => simp only [HZF.out]; have := HQ.out; omega
   ·obtain rfl : k = m := by omega
    have t1 : ¬ (8 : Int) ≤ (q : Int) := by omega
    have hT : L.take k = L := List.take_of_length_le (by rw [HLN.out]; exact Nat.le_refl _)
    rw [hT] at ho
    have hll := HLN.out
    rw [← hll] at ho
    have HO := Lib.hid ho
    clear ho hb hT hll hR
    go_wp2
    go_ret
    exact kpostN_own HO.out HOK.out HBB.out
end
section
open Go.RowKit WM
set_option maxRecDepth 20000
end
section
open Go.RowKit WM
set_option maxRecDepth 100000
end
section
open Go.RowKit WM
set_option maxRecDepth 100000
end
end
end Go.Proofs.YtkjimhlpbgeagaaDoor
