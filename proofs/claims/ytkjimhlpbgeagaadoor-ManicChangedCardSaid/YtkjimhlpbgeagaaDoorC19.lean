import Derived.Test.YtkjimhlpbgeagaaDoorC0
import Derived.Test.YtkjimhlpbgeagaaDoorC16
import Derived.Test.YtkjimhlpbgeagaaDoorC18
import Derived.Test.YtkjimhlpbgeagaaDoorC3
/-
  What the functions that a law of this layer reaches answer, part 19. Nothing that was there is written.
-/
namespace Go.Proofs.YtkjimhlpbgeagaaDoor
set_option linter.unusedVariables false
set_option linter.unusedSimpArgs false
section
open Go.RowKit WM
set_option maxRecDepth 100000
def MRdM (w : World) (q : Nat) (x : Mn × MS) (e : Ending) (w' : World) : Prop := ∃ y : MnA, e = .returned y.v ∧ y.m = x.1 ∧ y.Ok w' ∧ (Tag 49 w' y.A ∧ ∀ x ∈ y.ls, x.T w') ∧ MRd w' q x.2 ∧ w.grownBy w' (some q)
set_option maxHeartbeats 16000000 in
theorem mman_any (q : Nat) (s : MS) (w : World) (h : MRd w q s) : Calls Tryd.prog 20 #[.pointer (some ⟨q, 0, none⟩)] w (MRdM w q (mman s)) := by
 have HQ := Lib.hid h.lt
 have SA := Lib.hid (MSt.new h mnA0.cs.toArray 26)
 have HC1 := Lib.hid (fun X (hX : MRd X q s) => mdig_any q s X hX)
 have HC2 := Lib.hid (fun X (hX : MRd X q (mfil 32 s).2) => show Calls Tryd.prog 39 #[.pointer (some ⟨q, 0, none⟩), .int .i64 10] X (MRdPost X q (.int .i64 (mnum 10 (mfil 32 s).2).1) (mnum 10 (mfil 32 s).2).2) from mnumber_any q 10 (mfil 32 s).2 X hX (by decide))
 have HWF := Lib.hid (mman_rds.ok s h.all).1
 have HCW := Lib.hid ((mnum_rds 10 (by decide)).ok (mfil 32 s).2 ((mfil_rds 32).ok s h.all).2.1).1
 have HV : Hid (mman s = (⟨(mfil 32 s).1, (mrep mlin (mnum 10 (mfil 32 s).2).1.toNat (mnum 10 (mfil 32 s).2).2 []).1⟩, (mrep mlin (mnum 10 (mfil 32 s).2).1.toNat (mnum 10 (mfil 32 s).2).2 []).2)) := Lib.hid rfl
 rw [HV.out] at HWF ⊢
 clear HV
 generalize mfil 32 s = x at *
 obtain ⟨z, s2⟩ := x
 dsimp only at HC1 HC2 HWF HCW ⊢
 generalize mnum 10 s2 = x at *
 obtain ⟨cnt, s0⟩ := x
 dsimp only at HC2 HWF HCW ⊢
 obtain ⟨nn, rfl⟩ : ∃ m : Nat, cnt = m := ⟨cnt.toNat, by have := HCW.out.1; omega⟩
 rw [Int.toNat_natCast] at HWF ⊢
 obtain ⟨w0, w1, w2, w3⟩ := HWF.out
 dsimp only at w0 w1 w2 w3
 have HZL := Lib.hid w0
 have HZB := Lib.hid w1
 have HNN := Lib.hid (show nn ≤ 10 by have := HCW.out.2; omega)
 have HPP := Lib.hid (mnP_len w0)
 have HCALL := Lib.hid (fun (s : MS) (X : World) (hX : MRd X q s) => mlin_any q s X hX)
 have HV : Hid (∀ (xs : List Ln) (sf : MS), mrep mlin nn s0 [] = (xs, sf) → ∀ (y : MnA) (w' : World), y.m = ⟨z, xs⟩ → y.Ok w' → (Tag 49 w' y.A ∧ ∀ x ∈ y.ls, x.T w') → MRd w' q sf → w.grownBy w' (some q) → MRdM w q (⟨z, (mrep mlin nn s0 []).1⟩, (mrep mlin nn s0 []).2) (.returned y.v) w') := Lib.hid (fun xs sf h1 y w' h2 h3 h4 h5 h6 => by rw [h1]; exact ⟨y, rfl, h2, h3, h4, h5, h6⟩)
 generalize MRdM w q (⟨z, (mrep mlin nn s0 []).1⟩, (mrep mlin nn s0 []).2) = POST at *
 have hz := zeroMn
 rw [show mnA0.v = .agg mnA0.cs.toArray from rfl] at hz
 have hzne : ¬ mnA0.cs.toArray = #[] := by decide
 have HBD := Lib.hid (fun X => build_mn HZL.out X)
 have HMS := Lib.hid (show (Tryd.prog.info? 26).map (·.size) = some (mnP z ++ [Value.slice none 0 0]).toArray.size from size_pre (n := 32) (by obtain ⟨i, hi, _, hs, _⟩ := info_parts infoMn; rw [hi]; exact congrArg some hs) HPP.out)
 have HMZ := Lib.hid (show mnA0.cs.toArray.size = (mnP z ++ [Value.slice none 0 0]).toArray.size by rw [mnA0_size, List.size_toArray, List.length_append, ← HPP.out]; rfl)
 clear h w0 w1 w2 w3 HWF
 go_enter Tryd.func20, Tryd.ntmps20
 go_wp2_with fail
 refine (HC1.out _ SA.out.rd).mono ?_
 rintro e X1 ⟨rfl, hr, hg⟩
 have S1 := Lib.hid (SA.out.more HQ.out hr hg)
 clear hr hg
 have S2 := Lib.hid (S1.out.old (.cells (mnP z ++ [Value.slice none 0 0]).toArray 26))
 have N2 := Lib.hid (show (X1.alloc (.cells (mnP z ++ [Value.slice none 0 0]).toArray 26)).heap[X1.heap.size]? = some (.cells (mnP z ++ [Value.slice none 0 0]).toArray 26) from heap_alloc_new X1 _)
 have hlt1 := Lib.hid S1.out.lt
 go_wp2_with (first | ((with_reducible refine wpList_build_at (o := ⟨some 8, .build 26 #[(0, .tmp 7)], _, _, _, _⟩) ?e1 26 #[(0, .tmp 7)] ?e2 #[(0, .agg (bvals z))] ?e3 _ (HBD.out X1) ?_); (case e1 => rfl); (case e2 => rfl); (case e3 => (simp only [List.map_toArray, List.map_cons, List.map_nil]; rfl))) | ((with_reducible refine wpList_store_new (o := ⟨none, .store 26 (.tmp 3) (.tmp 8), _, _, _, _⟩) ?e1 26 (.tmp 3) (.tmp 8) ?e2 ?e3 mnA0.cs.toArray (mnP z ++ [Value.slice none 0 0]).toArray ?e4 HMS.out HMZ.out (mnP_one z rfl) ?_); (case e1 => rfl); (case e2 => rfl); (case e3 => rfl); (case e4 => rfl)) | fail)
 refine (HC2.out _ S2.out.rd).mono ?_
 rintro e X4 ⟨rfl, hr, hg⟩
 have S4 := Lib.hid (S2.out.more HQ.out hr hg)
 have N4 := Lib.hid ((hg.block _ (Array.getElem?_eq_some_iff.1 N2.out).1 (fun e => by have := Option.some.inj e; have := HQ.out; have := hlt1.out; omega)).trans N2.out)
 have R0 := Lib.hid (show RQ TLn 49 26 X1.heap.size (mnP z) w q mnA0.cs.toArray 26 s0 (.slice none 0 0) (.slice none 0 0) [] X4 from ⟨S4.out.rd, S4.out.res, N4.out, World.ownsRow_nil _ _ _ _, (fun x hx => by cases hx), S4.out.grown, HQ.out, hlt1.out⟩)
 clear hr hg
 generalize hbl : X1.heap.size = bl at *
 clear hbl
 generalize hpre : mnP z = pre at *
 have HPRE := Lib.hid hpre
 have HCR := Lib.hid (show mnA0.cs.toArray.size = 33 from mnA0_size)
 generalize mnA0.cs.toArray = CR at *
 clear hpre HC1 HC2 hzne hz HBD HMS HMZ
 go_wp2
 go_loopw [13] (fun i wr => ∃ (k : Nat) (s : MS) (v : Value) (xs : List _), k ≤ nn ∧ i = .int .i64 k ∧ xs.length = k ∧ RQ TLn 49 26 bl pre w q CR 26 s v v xs wr ∧ mrep mlin nn s0 [] = mrep mlin (nn - k) s (xs.map (fun x : LnA => x.x))) (fun i _ => nn - (intOf i).toNat)
 case atStart => exact ⟨0, s0, _, [], Nat.zero_le _, rfl, rfl, R0.out, rfl⟩
 case round =>
  obtain ⟨k, s, v, xs, hk, rfl, hxk, hrq, hmr⟩ := hrel
  have RW := Lib.hid hrq
  have HXK := Lib.hid hxk
  have hnn := HNN.out
  by_cases hlt : k < nn
  ·have t2 : (k : Int) < (nn : Int) := by omega
   have HLT := Lib.hid hlt
   have HST := Lib.hid (hmr.trans (mrep_stepM hlt s (xs.map (fun x : LnA => x.x))))
   have HXL := Lib.hid (show xs.length ≤ 90000 by omega)
   have HC := Lib.hid (fun X (hX : MRd X q s) => HCALL.out s X hX)
   clear hrq hxk hmr hlt
   go_wp2_with fail
   refine wp_region_held_drew (S := fun w' => True) (by kernel_rfl) trivial (fun hS => ?_)
   have RD := Lib.hid RW.out.drew
   generalize World.drew _ = X at *
   refine wpHv (i := 0) (oi := ⟨some 15, _, _, _, _, _⟩) (v := ?_) rfl ?_ hS ?_; rotate_left; (focus (intro w9 hSw; go_simp; try with_reducible rfl)); simp only [Act.put, Z2, Z3, Z4]
   refine wpHv (i := 2) (oi := ⟨some 17, _, _, _, _, _⟩) (v := ?_) rfl ?_ hS ?_; rotate_left; (focus (intro w9 hSw; go_simp; try with_reducible rfl)); simp only [Act.put, Z2, Z3, Z4]
   refine wpAnyH_ready (rs := [1, 3]) (by kernel_rfl) (by simp) (AllReadyH.cons (o := ⟨some 16, _, _, _, _, _⟩) rfl (fun K hK => ?_) (AllReadyH.cons (o := ⟨some 18, _, _, _, _, _⟩) rfl (fun K hK => ?_) AllReadyH.nil))
   ·have g0 := RD.out.cell HPP.out
    go_simp
    clear g0
    refine hK.out _ _ trivial (fun hS => ?_)
    clear hK K
    try simp only [Act.put, Z2, Z3, Z4]
    refine wpAnyH_ready (rs := [3]) (by kernel_rfl) (by simp) (AllReadyH.cons (o := ⟨some 18, _, _, _, _, _⟩) rfl (fun K hK => ?_) AllReadyH.nil)
    go_simp
    refine (HC.out _ RD.out.rd).mono ?_
    rintro e X2 ⟨y, rfl, hcv, hok, htag, hr, hg⟩
    have R1 := Lib.hid (RD.out.call hr hg (by decide))
    have YO := Lib.hid (show TLn.K.ok _ y ∧ TLn.tag _ y from ⟨hok, htag⟩)
    have YL := Lib.hid (show (KLn.cs y).length = KLn.n from KLn.len hok)
    have HCV := Lib.hid hcv
    clear hcv hok htag hr hg
    refine hK.out _ _ trivial (fun hS => ?_)
    clear hK K
    try simp only [Act.put, Z2, Z3, Z4]
    refine wpAnyH_ready (rs := [4]) (by kernel_rfl) (by simp) (AllReadyH.cons (o := ⟨some 19, _, _, _, _, _⟩) rfl (fun K hK => ?_) AllReadyH.nil)
    refine step_bsliceK (K := KLn) rfl (.tmp 18) rfl y rfl YL.out Tryd.underlying24 sizeLn zeroLn nLn ?_
    have R3 := Lib.hid (R1.out.alloc (.cells (KLn.cs y).toArray 49))
    have YO4 := Lib.hid (show TLn.K.ok (X2.alloc (.cells (KLn.cs y).toArray 49)) y ∧ TLn.tag (X2.alloc (.cells (KLn.cs y).toArray 49)) y from ⟨KLn.below YO.out.1 ((Below.refl _ _).alloc (Nat.le_refl _) (.cells (KLn.cs y).toArray 49)), TLn.below YO.out.2 ((Below.refl _ _).alloc (Nat.le_refl _) (.cells (KLn.cs y).toArray 49))⟩)
    refine hK.out _ _ trivial (fun hS => ?_)
    clear hK K
    try simp only [Act.put, Z2, Z3, Z4]
    refine wpAnyH_ready (rs := [5]) (by kernel_rfl) (by simp) (AllReadyH.cons (o := ⟨some 20, _, _, _, _, _⟩) rfl (fun K hK => ?_) AllReadyH.nil)
    obtain ⟨i0, hi, hz0, hz1, hz2⟩ := info_parts infoLn
    refine step_append_K (K := KLn) (o := ⟨some 20, _, _, _, _, _⟩) rfl _ _ 24 rfl (bl + 1) 49 i0 _ 56 Tryd.underlying24 hi hz0 hz1 hz2 (by decide) (by decide) v xs y rfl R3.out.own HXL.out YL.out rfl R3.out.lt ?_
    intro v3 X9 ho3 hg3
    obtain ⟨g13, cap13, rfl⟩ := ownsRow_succ ho3
    have M5 := Lib.hid (R3.out.app YO4.out ho3 hg3 (by decide))
    have RF := Lib.hid (M5.out.store (by decide) HPP.out)
    clear ho3 hg3
    refine hK.out _ _ trivial (fun hS => ?_)
    clear hK K
    try simp only [Act.put, Z2, Z3, Z4]
    refine wpHv (i := 6) (oi := ⟨some 21, _, _, _, _, _⟩) (v := ?_) rfl ?_ hS ?_; rotate_left; (focus (intro w9 hSw; go_simp; try with_reducible rfl)); simp only [Act.put, Z2, Z3, Z4]
    refine wpAnyH_ready (rs := [7]) (by kernel_rfl) (by simp) (AllReadyH.cons (o := ⟨none, _, _, _, _, _⟩) rfl (fun K hK => ?_) AllReadyH.nil)
    have g0 := M5.out.cell HPP.out
    have gf := M5.out.fz 32
    go_simp
    clear g0 gf
    refine hK.out _ _ trivial (fun hS => ?_)
    clear hK K
    try simp only [Act.put]
    refine wpAnyH_done (by kernel_rfl) ?_ _
    clear hS
    generalize hv4 : (Value.slice (some ⟨g13, 0, none⟩) (xs.length + 1) cap13) = v4 at *
    clear hv4
    go_wp2
    go_roundw
    case rel => exact ⟨k + 1, _, v4, xs ++ [y], by have := HLT.out; omega, by go_num, by rw [List.length_append, HXK.out]; rfl, RF.out, by rw [HST.out, List.map_append, ← HCV.out]; rfl⟩
    case measure => have := HLT.out; simp [intOf]; omega
   ·go_simp
    refine (HC.out _ RD.out.rd).mono ?_
    rintro e X7 ⟨y, rfl, hcv, hok, htag, hr, hg⟩
    have R6 := Lib.hid (RD.out.call hr hg (by decide))
    have YO := Lib.hid (show TLn.K.ok _ y ∧ TLn.tag _ y from ⟨hok, htag⟩)
    have YL := Lib.hid (show (KLn.cs y).length = KLn.n from KLn.len hok)
    have HCV := Lib.hid hcv
    clear hcv hok htag hr hg
    refine hK.out _ _ trivial (fun hS => ?_)
    clear hK K
    try simp only [Act.put, Z2, Z3, Z4]
    refine wpAnyH_ready (rs := [1, 4]) (by kernel_rfl) (by simp) (AllReadyH.cons (o := ⟨some 16, _, _, _, _, _⟩) rfl (fun K hK => ?_) (AllReadyH.cons (o := ⟨some 19, _, _, _, _, _⟩) rfl (fun K hK => ?_) AllReadyH.nil))
    ·have g0 := R6.out.cell HPP.out
     go_simp
     clear g0
     refine hK.out _ _ trivial (fun hS => ?_)
     clear hK K
     try simp only [Act.put, Z2, Z3, Z4]
     refine wpAnyH_ready (rs := [4]) (by kernel_rfl) (by simp) (AllReadyH.cons (o := ⟨some 19, _, _, _, _, _⟩) rfl (fun K hK => ?_) AllReadyH.nil)
     refine step_bsliceK (K := KLn) rfl (.tmp 18) rfl y rfl YL.out Tryd.underlying24 sizeLn zeroLn nLn ?_
     have R8 := Lib.hid (R6.out.alloc (.cells (KLn.cs y).toArray 49))
     have YO9 := Lib.hid (show TLn.K.ok (X7.alloc (.cells (KLn.cs y).toArray 49)) y ∧ TLn.tag (X7.alloc (.cells (KLn.cs y).toArray 49)) y from ⟨KLn.below YO.out.1 ((Below.refl _ _).alloc (Nat.le_refl _) (.cells (KLn.cs y).toArray 49)), TLn.below YO.out.2 ((Below.refl _ _).alloc (Nat.le_refl _) (.cells (KLn.cs y).toArray 49))⟩)
     refine hK.out _ _ trivial (fun hS => ?_)
     clear hK K
     try simp only [Act.put, Z2, Z3, Z4]
     refine wpAnyH_ready (rs := [5]) (by kernel_rfl) (by simp) (AllReadyH.cons (o := ⟨some 20, _, _, _, _, _⟩) rfl (fun K hK => ?_) AllReadyH.nil)
     obtain ⟨i0, hi, hz0, hz1, hz2⟩ := info_parts infoLn
     refine step_append_K (K := KLn) (o := ⟨some 20, _, _, _, _, _⟩) rfl _ _ 24 rfl (bl + 1) 49 i0 _ 56 Tryd.underlying24 hi hz0 hz1 hz2 (by decide) (by decide) v xs y rfl R8.out.own HXL.out YL.out rfl R8.out.lt ?_
     intro v3 X9 ho3 hg3
     obtain ⟨g13, cap13, rfl⟩ := ownsRow_succ ho3
     have M10 := Lib.hid (R8.out.app YO9.out ho3 hg3 (by decide))
     have RF := Lib.hid (M10.out.store (by decide) HPP.out)
     clear ho3 hg3
     refine hK.out _ _ trivial (fun hS => ?_)
     clear hK K
     try simp only [Act.put, Z2, Z3, Z4]
     refine wpHv (i := 6) (oi := ⟨some 21, _, _, _, _, _⟩) (v := ?_) rfl ?_ hS ?_; rotate_left; (focus (intro w9 hSw; go_simp; try with_reducible rfl)); simp only [Act.put, Z2, Z3, Z4]
     refine wpAnyH_ready (rs := [7]) (by kernel_rfl) (by simp) (AllReadyH.cons (o := ⟨none, _, _, _, _, _⟩) rfl (fun K hK => ?_) AllReadyH.nil)
     have g0 := M10.out.cell HPP.out
     have gf := M10.out.fz 32
     go_simp
     clear g0 gf
     refine hK.out _ _ trivial (fun hS => ?_)
     clear hK K
     try simp only [Act.put]
     refine wpAnyH_done (by kernel_rfl) ?_ _
     clear hS
     generalize hv4 : (Value.slice (some ⟨g13, 0, none⟩) (xs.length + 1) cap13) = v4 at *
     clear hv4
     go_wp2
     go_roundw
     case rel => exact ⟨k + 1, _, v4, xs ++ [y], by have := HLT.out; omega, by go_num, by rw [List.length_append, HXK.out]; rfl, RF.out, by rw [HST.out, List.map_append, ← HCV.out]; rfl⟩
     case measure => have := HLT.out; simp [intOf]; omega
    ·refine step_bsliceK (K := KLn) rfl (.tmp 18) rfl y rfl YL.out Tryd.underlying24 sizeLn zeroLn nLn ?_
     have R11 := Lib.hid (R6.out.alloc (.cells (KLn.cs y).toArray 49))
     have YO12 := Lib.hid (show TLn.K.ok (X7.alloc (.cells (KLn.cs y).toArray 49)) y ∧ TLn.tag (X7.alloc (.cells (KLn.cs y).toArray 49)) y from ⟨KLn.below YO.out.1 ((Below.refl _ _).alloc (Nat.le_refl _) (.cells (KLn.cs y).toArray 49)), TLn.below YO.out.2 ((Below.refl _ _).alloc (Nat.le_refl _) (.cells (KLn.cs y).toArray 49))⟩)
     refine hK.out _ _ trivial (fun hS => ?_)
     clear hK K
     try simp only [Act.put, Z2, Z3, Z4]
     refine wpAnyH_ready (rs := [1]) (by kernel_rfl) (by simp) (AllReadyH.cons (o := ⟨some 16, _, _, _, _, _⟩) rfl (fun K hK => ?_) AllReadyH.nil)
     have g0 := R11.out.cell HPP.out
     go_simp
     clear g0
     refine hK.out _ _ trivial (fun hS => ?_)
     clear hK K
     try simp only [Act.put, Z2, Z3, Z4]
     refine wpAnyH_ready (rs := [5]) (by kernel_rfl) (by simp) (AllReadyH.cons (o := ⟨some 20, _, _, _, _, _⟩) rfl (fun K hK => ?_) AllReadyH.nil)
     obtain ⟨i0, hi, hz0, hz1, hz2⟩ := info_parts infoLn
     refine step_append_K (K := KLn) (o := ⟨some 20, _, _, _, _, _⟩) rfl _ _ 24 rfl (bl + 1) 49 i0 _ 56 Tryd.underlying24 hi hz0 hz1 hz2 (by decide) (by decide) v xs y rfl R11.out.own HXL.out YL.out rfl R11.out.lt ?_
     intro v3 X9 ho3 hg3
     obtain ⟨g13, cap13, rfl⟩ := ownsRow_succ ho3
     have M13 := Lib.hid (R11.out.app YO12.out ho3 hg3 (by decide))
     have RF := Lib.hid (M13.out.store (by decide) HPP.out)
     clear ho3 hg3
     refine hK.out _ _ trivial (fun hS => ?_)
     clear hK K
     try simp only [Act.put, Z2, Z3, Z4]
     refine wpHv (i := 6) (oi := ⟨some 21, _, _, _, _, _⟩) (v := ?_) rfl ?_ hS ?_; rotate_left; (focus (intro w9 hSw; go_simp; try with_reducible rfl)); simp only [Act.put, Z2, Z3, Z4]
     refine wpAnyH_ready (rs := [7]) (by kernel_rfl) (by simp) (AllReadyH.cons (o := ⟨none, _, _, _, _, _⟩) rfl (fun K hK => ?_) AllReadyH.nil)
     have g0 := M13.out.cell HPP.out
     have gf := M13.out.fz 32
     go_simp
     clear g0 gf
     refine hK.out _ _ trivial (fun hS => ?_)
     clear hK K
     try simp only [Act.put]
     refine wpAnyH_done (by kernel_rfl) ?_ _
     clear hS
     generalize hv4 : (Value.slice (some ⟨g13, 0, none⟩) (xs.length + 1) cap13) = v4 at *
     clear hv4
     go_wp2
     go_roundw
     case rel => exact ⟨k + 1, _, v4, xs ++ [y], by have := HLT.out; omega, by go_num, by rw [List.length_append, HXK.out]; rfl, RF.out, by rw [HST.out, List.map_append, ← HCV.out]; rfl⟩
     case measure => have := HLT.out; simp [intOf]; omega
  ·have hkn : k = nn := by omega
   have t2 : ¬ (k : Int) < (nn : Int) := by omega
   have HM := Lib.hid (show mrep mlin nn s0 [] = (xs.map (fun x : LnA => x.x), s) from by rw [hmr, hkn, Nat.sub_self]; rfl)
   have HXN := Lib.hid (show xs.length = nn by omega)
   clear hrq hxk hmr hkn hlt hk
   obtain ⟨A9, c9, hv9⟩ : ∃ A9 c9, v = .slice A9 xs.length c9 := by
    rcases RW.out.own.2 with ⟨h1, h2⟩ | ⟨g, cp, cur, h1, _⟩
    ·exact ⟨none, 0, by rw [h1, h2]⟩
    ·exact ⟨_, cp, h1⟩
   subst hv9
   have RROW := Lib.hid (show KLn.row wr A9 c9 xs from Kind.row_own (K := KLn) RW.out.own (fun x hx => (RW.out.ok x hx).1))
   have RTAG := Lib.hid (show Tag 49 wr A9 from Tag.own RW.out.own)
   obtain ⟨y, hy⟩ : ∃ y : MnA, y = ⟨z, A9, c9, xs⟩ := ⟨_, rfl⟩
   have BLK := Lib.hid (show wr.heap[bl]? = some (.cells (MnA.cs y).toArray 26) from by rw [hy]; have h := RW.out.blk; rw [← HPRE.out] at h; exact h)
   have OKF := Lib.hid (fun (X : World) (hX : KLn.row X A9 c9 xs) => show MnA.Ok X y from by rw [hy]; exact ⟨HZL.out, HZB.out, hX⟩)
   have OKY := Lib.hid (OKF.out wr RROW.out)
   have LX := Lib.hid (load_mn BLK.out OKY.out)
   have SZY := Lib.hid (mn_size OKY.out)
   have SQY := Lib.hid (show CR.size = (MnA.cs y).toArray.size by rw [HCR.out, List.size_toArray]; exact (MnA.len OKY.out).symm)
   have SOY := Lib.hid (mn_ones y)
   have DN := Lib.hid (RW.out.done (Y := wr.setRow w.heap.size (MnA.cs y).toArray) mrd_row (by decide) (by decide) rfl)
   have RR := Lib.hid (show (wr.setRow w.heap.size (MnA.cs y).toArray).heap[w.heap.size]? = some (.cells (MnA.cs y).toArray 26) from setRow_heap _ _ _ _ _ _ RW.out.res)
   have HYX := Lib.hid (show y.m = ⟨z, xs.map (fun x : LnA => x.x)⟩ by rw [hy]; rfl)
   have HYT := Lib.hid (show Tag 49 (wr.setRow w.heap.size y.cs.toArray) y.A ∧ ∀ x ∈ y.ls, x.T (wr.setRow w.heap.size y.cs.toArray) from ⟨by rw [show y.A = A9 by rw [hy]]; exact DN.out.2.2.2.2, by rw [show y.ls = xs by rw [hy]]; exact fun x hx => (DN.out.2.2.1 x hx).2⟩)
   have HFI := Lib.hid (HV.out _ s HM.out y _ HYX.out (OKF.out _ DN.out.2.2.2.1) HYT.out DN.out.1 DN.out.2.1)
   clear hy hnn
   go_wp2_with (first | ((with_reducible refine wpList_load_at (o := ⟨some 23, .load 26 (.tmp 3), _, _, _, _⟩) ?e1 26 (.tmp 3) ?e2 ⟨bl, 0, none⟩ ?e3 _ LX.out ?_); (case e1 => rfl); (case e2 => rfl); (case e3 => rfl)) | ((with_reducible refine wpList_store_row (o := ⟨none, .store 26 (.tmp 2) (.tmp 23), _, _, _, _⟩) ?e1 26 (.tmp 2) (.tmp 23) ?e2 w.heap.size (MnA.cs y).toArray ?e3 ?e4 26 _ RW.out.res SZY.out SQY.out SOY.out ?_); (case e1 => rfl); (case e2 => rfl); (case e3 => rfl); (case e4 => rfl)) | fail)
   refine bodyPost_ret (v := .agg (MnA.cs y).toArray) ?_ rfl HFI.out
   exact results_cell_row Tryd.results20 _ _ w.heap.size 26 _ (0, 0) _ rfl RR.out Tryd.underlying26 rfl SZY.out
end
section
open Go.RowKit WM
theorem own_le {w : World} {base base' n : Nat} {e : TypeId} {v : Value} {xs : List Value} (h : w.ownsRow base e 1 v n xs) (hb : base' ≤ base) : w.ownsRow base' e 1 v n xs := by
 refine ⟨h.1, ?_⟩
 rcases h.2 with h1 | ⟨g, cap, cur, h1, h2, h3⟩
 ·exact .inl h1
 ·exact .inr ⟨g, cap, cur, h1, by omega, h3⟩
set_option maxHeartbeats 2000000 in
theorem open_last {B : Nat} (b off len cap : Nat) (zs : List Int) (w : World) (u n : Nat) (h : Byt w B (some ⟨b, off, none⟩) zs) (hB : B ≤ w.heap.size) (hl : zs.length = len) (hb : AllBytes zs) (hlc : len ≤ cap) (hm : cap ≤ maxLen) (hd : beg zs = some (u, n)) (hs : u + n + 4 ≤ len) (hbw : b < w.heap.size) (hcell : w.cell? ⟨b, off, none⟩ = some (.int .u8 (zs.getD 0 0))) :
  Calls Tryd.prog 19 #[.slice (some ⟨b, off, none⟩) len cap] w (OpenPost w (opn zs)) := by
 have hg := begin_any _ len cap zs w h hl hb hlc hm
 rw [hd] at hg
 simp only [begV] at hg
 obtain ⟨b1, b2, b3, b4, _⟩ := beg_some hb hd
 have hk := all_get hb 0
 have c1 : ∀ w' : World, Byt w' B (some ⟨b, off, none⟩) (zs.take (u + n)) → w.heap.size ≤ w'.heap.size → Calls Tryd.prog 30 #[.slice (some ⟨b, off, none⟩) (u + n) cap] w' (SumPost (zs.take (u + n)) w') := fun w' hw h' => sum_any _ _ cap _ w' hw (by rw [List.length_take]; omega) (all_take hb _) (by omega) (by omega)
 have c2 : ∀ w' : World, Calls Tryd.prog 29 #[.int .u32 (SM.sum (zs.take (u + n)))] w' (Gives w' (word (SM.sum (zs.take (u + n))))) := fun w' => word_gives _ _ (SM.sum_range (all_take hb _)).1 (SM.sum_range (all_take hb _)).2
 have c3 : ∀ (bb : Bool), decide ((zs.drop (u + n)).take 4 = word (SM.sum (zs.take (u + n)))) = bb → ∀ (w' : World) (A1 : Option Addr) (n1 c1 : Nat), Byt w' w'.heap.size A1 (word (SM.sum (zs.take (u + n)))) → (word (SM.sum (zs.take (u + n)))).length = n1 → Byt w' B (some ⟨b, off + (u + n), none⟩) ((zs.drop (u + n)).take 4) →
   Calls Tryd.prog 36 #[.slice (some ⟨b, off + (u + n), none⟩) 4 (cap - (u + n)), .slice A1 n1 c1] w' fun e w'' => e = .returned (.bool bb) ∧ w' = w'' := fun bb hbb w' A1 n1 c1 hy hn hx => equal_any _ _ _ _ _ _ _ _ w' bb hbb hx (by rw [List.length_take, List.length_drop]; omega) hy hn (all_take (all_drop hb _) _) (word_bytes (SM.sum_range (all_take hb _)).1 (SM.sum_range (all_take hb _)).2)
 have c4 : ∀ w' : World, Byt w' B (some ⟨b, off + u, none⟩) ((zs.drop u).take n) → w.heap.size ≤ w'.heap.size → Calls Tryd.prog 37 #[.slice (some ⟨b, off + u, none⟩) n (cap - u)] w' (Gives w' ((zs.drop u).take n)) := fun w' hw h' => clone_any _ n _ _ w' hw (by rw [List.length_take, List.length_drop]; omega) (by omega) (by omega)
 have y0 : Byt w B (some ⟨b, off + (u + n), none⟩) ((zs.drop (u + n)).take 4) := by
  have := (h.drop (k := u + n) (cap := cap) (by omega)).take 4
  rw [if_neg (by omega)] at this
  simpa only [Option.map_some, Addr.add_lit] using this
 have y2 : Byt w B (some ⟨b, off + u, none⟩) ((zs.drop u).take n) := by
  have := (h.drop (k := u) (cap := cap) (by omega)).take n
  rw [if_neg (by omega)] at this
  simpa only [Option.map_some, Addr.add_lit] using this
 have hopn : opn zs = if (zs.drop (u + n)).take 4 = word (SM.sum (zs.take (u + n))) then .ok (zs.getD 0 0) ((zs.drop u).take n) (u + n + 4) else .check := by
  rw [opn, hd]
  exact if_neg (by omega)
 have ht : ¬ ((len : Int) - u < n + 4) := by omega
 simp only [maxLen] at hm
 have Y0 := Lib.hid y0
 have Y1 := Lib.hid (h.take (u + n))
 have Y2 := Lib.hid y2
 have C1 := Lib.hid c1
 have C2 := Lib.hid c2
 have C4 := Lib.hid c4
 have HG := Lib.hid hg
 have HBw := hB
 have W2 := Lib.hid (show IntKind.i64.wrap (zs.getD 0 0) = zs.getD 0 0 from IntWalk.i64_in _ (by omega))
 have W1 := Lib.hid (show IntKind.i64.wrap ((u : Int) + n + 4) = (u : Int) + n + 4 from IntWalk.i64_in _ (by omega))
 have S1 := Lib.hid (show ∀ w9 : World, (Instr.slice 27 (.slice (some ⟨b, off, none⟩) len cap) (some (.int .i64 ((u : Int) + n))) (some (.int .i64 ((u : Int) + n + 4))) none).run Tryd.prog w9 = .ok (.slice (some ⟨b, off + (u + n), none⟩) 4 (cap - (u + n))) w9 from fun w9 => by
  rw [sl_lh b off len cap (u + n) (u + n + 4) (by omega) (by omega) (by omega) _ _ (by omega) (by omega) w9, show u + n + 4 - (u + n) = 4 by omega])
 have S2 := Lib.hid (show ∀ w9 : World, (Instr.slice 27 (.slice (some ⟨b, off, none⟩) len cap) none (some (.int .i64 ((u : Int) + n))) none).run Tryd.prog w9 = .ok (.slice (some ⟨b, off, none⟩) (u + n) cap) w9 from fun w9 => sl_h _ len cap (u + n) (by omega) _ (by omega) w9)
 have S3 := Lib.hid (show ∀ w9 : World, (Instr.slice 27 (.slice (some ⟨b, off, none⟩) len cap) (some (.int .i64 (u : Int))) (some (.int .i64 ((u : Int) + n))) none).run Tryd.prog w9 = .ok (.slice (some ⟨b, off + u, none⟩) n (cap - u)) w9 from fun w9 => by
  rw [sl_lh b off len cap u (u + n) (by omega) (by omega) (by omega) _ _ (by omega) (by omega) w9, show u + n - u = n by omega])
 have S4 := Lib.hid (show ∀ w9 : World, (Instr.indexAt 27 (.slice (some ⟨b, off, none⟩) len cap) (.int .i64 0)).run Tryd.prog w9 = .ok (.pointer (some ⟨b, off, none⟩)) w9 from fun w9 => ix_at b off len cap 0 (by omega) 0 rfl w9)
 rw [hopn]
 by_cases hq : (zs.drop (u + n)).take 4 = word (SM.sum (zs.take (u + n)))
 ·rw [if_pos hq]
  have C3 := Lib.hid (c3 true (by simp [hq]))
  have HbB := hbw
  have HP : Hid (∀ A l c w', ((zs.drop u).take n).length = l → l ≤ c → c ≤ maxLen → w'.ownsRow w.heap.size 5 1 (.slice A l c) l (((zs.drop u).take n).map (Value.int .u8)) → Below w.heap.size w w' → OpenPost w (.ok (zs.getD 0 0) ((zs.drop u).take n) (u + n + 4)) (.returned (.tuple #[.int .i64 (zs.getD 0 0), .slice A l c, .int .i64 ((u : Int) + n + 4), .int .i64 0])) w') := Lib.hid (fun A l c w' h1 h2 h3 h4 h5 => ⟨A, l, c, by rw [show ((u + n + 4 : Nat) : Int) = (u : Int) + n + 4 by omega], h1, h2, h3, h4, h5⟩)
  generalize OpenPost w (.ok (zs.getD 0 0) ((zs.drop u).take n) (u + n + 4)) = Post at HP ⊢
  generalize zs.getD 0 0 = k0 at *
  have hc0 := hcell
  clear hcell hq c1 c2 c3 c4 y0 y2 hopn hd hg h hl hb hB hbw b2
  go_enter Tryd.func19, Tryd.ntmps19
  go_wp2_with (go_at_call 35; refine HG.out.mono ?_; rintro e w1 ⟨rfl, rfl⟩)
  refine wp_region_held_drew (S := fun w' => Below w.drew.heap.size w.drew w') (by kernel_rfl) (Below.refl _ _) (fun hS => ?_)
  refine wpHv (i := 0) (oi := ⟨some 30, _, _, _, _, _⟩) (v := ?_) rfl ?_ hS ?_; rotate_left; (focus (intro w9 hSw; (try dsimp only at hSw); go_simp; try with_reducible rfl)); simp only [Act.put, Z2, Z3, Z4]
  refine wpHv (i := 1) (oi := ⟨some 31, _, _, _, _, _⟩) (v := ?_) rfl ?_ hS ?_; rotate_left; (focus (intro w9 hSw; (try dsimp only at hSw); go_simp; try with_reducible rfl)); simp only [Act.put, Z2, Z3, Z4]
  refine wpHv (i := 2) (oi := ⟨some 32, _, _, _, _, _⟩) (v := ?_) rfl ?_ hS ?_; rotate_left; (focus (intro w9 hSw; (try dsimp only at hSw); go_simp; try with_reducible rfl)); simp only [Act.put, Z2, Z3, Z4]
  refine wpHv (i := 3) (oi := ⟨some 33, _, _, _, _, _⟩) (v := ?_) rfl ?_ hS ?_; rotate_left; (focus (intro w9 hSw; (try dsimp only at hSw); have s9 := W1.out; go_simp; try with_reducible rfl)); simp only [Act.put, Z2, Z3, Z4]
  refine wpHv (i := 4) (oi := ⟨some 34, _, _, _, _, _⟩) (v := ?_) rfl ?_ hS ?_; rotate_left; (focus (intro w9 hSw; (try dsimp only at hSw); have s9 := S1.out w9; go_simp; try with_reducible rfl)); simp only [Act.put, Z2, Z3, Z4]
  refine wpHv (i := 5) (oi := ⟨some 35, _, _, _, _, _⟩) (v := ?_) rfl ?_ hS ?_; rotate_left; (focus (intro w9 hSw; (try dsimp only at hSw); go_simp; try with_reducible rfl)); simp only [Act.put, Z2, Z3, Z4]
  refine wpHv (i := 6) (oi := ⟨some 36, _, _, _, _, _⟩) (v := ?_) rfl ?_ hS ?_; rotate_left; (focus (intro w9 hSw; (try dsimp only at hSw); go_simp; try with_reducible rfl)); simp only [Act.put, Z2, Z3, Z4]
  refine wpHv (i := 7) (oi := ⟨some 37, _, _, _, _, _⟩) (v := ?_) rfl ?_ hS ?_; rotate_left; (focus (intro w9 hSw; (try dsimp only at hSw); have s9 := S2.out w9; go_simp; try with_reducible rfl)); simp only [Act.put, Z2, Z3, Z4]
  refine wpAnyH_ready (rs := [8]) (by kernel_rfl) (by simp) (AllReadyH.cons (o := ⟨some 38, _, _, _, _, _⟩) rfl (fun K hK => ?_) AllReadyH.nil)
  go_simp
  refine (C1.out _ (Y1.out.below ((Below.refl w.heap.size w).drew.mono HBw)) (Nat.le_refl _)).mono ?_
  rintro e x0 ⟨rfl, hb0⟩
  have bk0 := ((Below.refl w.heap.size w).drew).trans (hb0.mono (Nat.le_refl _))
  clear hS
  refine hK.out _ _ hb0 (fun _ => ?_)
  clear hK K
  refine wpAnyH_sub (S' := fun w' => Below x0.heap.size x0 w') (fun _ h => hb0.trans (h.mono hb0.size)) ?_
  have hS := Below.refl x0.heap.size x0
  refine wpAnyH_ready (rs := [9]) (by kernel_rfl) (by simp) (AllReadyH.cons (o := ⟨some 39, _, _, _, _, _⟩) rfl (fun K hK => ?_) AllReadyH.nil)
  go_simp
  refine (C2.out _).mono ?_
  rintro e x1 ⟨A1, n1, c1, rfl, hn1, _, _, hown1, hb1⟩
  have bk1 := bk0.trans (hb1.mono bk0.size)
  have by1 := Byt.own (zs := word (SM.sum (zs.take (u + n)))) hown1
  clear hS hown1
  refine hK.out _ _ hb1 (fun _ => ?_)
  clear hK K
  refine wpAnyH_sub (S' := fun w' => Below x1.heap.size x1 w') (fun _ h => hb1.trans (h.mono hb1.size)) ?_
  have hS := Below.refl x1.heap.size x1
  refine wpAnyH_ready (rs := [10]) (by kernel_rfl) (by simp) (AllReadyH.cons (o := ⟨some 40, _, _, _, _, _⟩) rfl (fun K hK => ?_) AllReadyH.nil)
  go_simp
  refine (C3.out _ A1 n1 c1 by1 hn1 (Y0.out.below (bk1.mono HBw))).mono ?_
  rintro e x2 ⟨rfl, rfl⟩
  refine hK.out _ _ (Below.refl _ _) (fun _ => ?_)
  clear hK K
  refine wpHv (i := 11) (oi := ⟨some 41, _, _, _, _, _⟩) (v := ?_) rfl ?_ hS ?_; rotate_left; (focus (intro w9 hSw; (try dsimp only at hSw); go_simp; try with_reducible rfl)); simp only [Act.put, Z2, Z3, Z4]
  refine wpAnyH_done (by kernel_rfl) ?_ _
  clear hS
  go_wp2_with fail
  have bk1d := bk1.trans ((Below.refl x1.heap.size x1).drew.mono bk1.size)
  refine wp_region_held_drew (S := fun w' => Below x1.drew.heap.size x1.drew w') (by kernel_rfl) (Below.refl _ _) (fun hS => ?_)
  refine wpHv (i := 0) (oi := ⟨some 42, _, _, _, _, _⟩) (v := ?_) rfl ?_ hS ?_; rotate_left; (focus (intro w9 hSw; (try dsimp only at hSw); go_simp; try with_reducible rfl)); simp only [Act.put, Z2, Z3, Z4]
  refine wpHv (i := 1) (oi := ⟨some 43, _, _, _, _, _⟩) (v := ?_) rfl ?_ hS ?_; rotate_left; (focus (intro w9 hSw; (try dsimp only at hSw); have s9 := S4.out w9; go_simp; try with_reducible rfl)); simp only [Act.put, Z2, Z3, Z4]
  refine wpHv (i := 2) (oi := ⟨some 44, _, _, _, _, _⟩) (v := ?_) rfl ?_ hS ?_; rotate_left; (focus (intro w9 hSw; (try dsimp only at hSw); have c9 := (((bk1d.trans (hSw.mono bk1d.size)).cell (p := ⟨b, off, none⟩) HbB).trans hc0); go_simp; try with_reducible rfl)); simp only [Act.put, Z2, Z3, Z4]
  refine wpHv (i := 3) (oi := ⟨some 45, _, _, _, _, _⟩) (v := ?_) rfl ?_ hS ?_; rotate_left; (focus (intro w9 hSw; (try dsimp only at hSw); have s9 := W2.out; go_simp; try with_reducible rfl)); simp only [Act.put, Z2, Z3, Z4]
  refine wpHv (i := 4) (oi := ⟨some 46, _, _, _, _, _⟩) (v := ?_) rfl ?_ hS ?_; rotate_left; (focus (intro w9 hSw; (try dsimp only at hSw); go_simp; try with_reducible rfl)); simp only [Act.put, Z2, Z3, Z4]
  refine wpHv (i := 5) (oi := ⟨some 47, _, _, _, _, _⟩) (v := ?_) rfl ?_ hS ?_; rotate_left; (focus (intro w9 hSw; (try dsimp only at hSw); go_simp; try with_reducible rfl)); simp only [Act.put, Z2, Z3, Z4]
  refine wpHv (i := 6) (oi := ⟨some 48, _, _, _, _, _⟩) (v := ?_) rfl ?_ hS ?_; rotate_left; (focus (intro w9 hSw; (try dsimp only at hSw); go_simp; try with_reducible rfl)); simp only [Act.put, Z2, Z3, Z4]
  refine wpHv (i := 7) (oi := ⟨some 49, _, _, _, _, _⟩) (v := ?_) rfl ?_ hS ?_; rotate_left; (focus (intro w9 hSw; (try dsimp only at hSw); have s9 := S3.out w9; go_simp; try with_reducible rfl)); simp only [Act.put, Z2, Z3, Z4]
  refine wpHv (i := 9) (oi := ⟨some 51, _, _, _, _, _⟩) (v := ?_) rfl ?_ hS ?_; rotate_left; (focus (intro w9 hSw; (try dsimp only at hSw); go_simp; try with_reducible rfl)); simp only [Act.put, Z2, Z3, Z4]
  refine wpHv (i := 10) (oi := ⟨some 52, _, _, _, _, _⟩) (v := ?_) rfl ?_ hS ?_; rotate_left; (focus (intro w9 hSw; (try dsimp only at hSw); have s9 := W1.out; go_simp; try with_reducible rfl)); simp only [Act.put, Z2, Z3, Z4]
  refine wpAnyH_ready (rs := [8]) (by kernel_rfl) (by simp) (AllReadyH.cons (o := ⟨some 50, _, _, _, _, _⟩) rfl (fun K hK => ?_) AllReadyH.nil)
  go_simp
  refine (C4.out _ (Y2.out.below (bk1d.mono HBw)) bk1d.size).mono ?_
  rintro e x3 ⟨A3, n3, c3, rfl, hn3, hnc3, hcm3, hown3, hb3⟩
  have bk3 := bk1d.trans (hb3.mono bk1d.size)
  clear hS
  refine hK.out _ _ hb3 (fun _ => ?_)
  clear hK K
  refine wpAnyH_sub (S' := fun w' => Below x3.heap.size x3 w') (fun _ h => hb3.trans (h.mono hb3.size)) ?_
  have hS := Below.refl x3.heap.size x3
  refine wpHv (i := 11) (oi := ⟨some 2, _, _, _, _, _⟩) (v := ?_) rfl ?_ hS ?_; rotate_left; (focus (intro w9 hSw; (try dsimp only at hSw); go_simp; try with_reducible rfl)); simp only [Act.put, Z2, Z3, Z4]
  refine wpHv (i := 12) (oi := ⟨some 3, _, _, _, _, _⟩) (v := ?_) rfl ?_ hS ?_; rotate_left; (focus (intro w9 hSw; (try dsimp only at hSw); go_simp; try with_reducible rfl)); simp only [Act.put, Z2, Z3, Z4]
  refine wpHv (i := 13) (oi := ⟨some 4, _, _, _, _, _⟩) (v := ?_) rfl ?_ hS ?_; rotate_left; (focus (intro w9 hSw; (try dsimp only at hSw); go_simp; try with_reducible rfl)); simp only [Act.put, Z2, Z3, Z4]
  refine wpHv (i := 14) (oi := ⟨some 5, _, _, _, _, _⟩) (v := ?_) rfl ?_ hS ?_; rotate_left; (focus (intro w9 hSw; (try dsimp only at hSw); go_simp; try with_reducible rfl)); simp only [Act.put, Z2, Z3, Z4]
  refine wpAnyH_done (by kernel_rfl) ?_ _
  clear hS
  go_wp2
  exact bodyPost_ret (v := .tuple #[.int .i64 k0, .slice A3 n3 c3, .int .i64 ((u : Int) + n + 4), .int .i64 0]) (by simp [results, Tryd.results19, go_sem]) rfl (HP.out A3 n3 c3 _ hn3 hnc3 hcm3 (own_le hown3 bk1d.size) bk3)
 ·rw [if_neg hq]
  have C3 := Lib.hid (c3 false (by simp [hq]))
  clear hcell hq c1 c2 c3 c4 y0 y2 hopn hd hg h hl hb hB hbw b2
  go_enter Tryd.func19, Tryd.ntmps19
  go_wp2_with (go_at_call 35; refine HG.out.mono ?_; rintro e w1 ⟨rfl, rfl⟩)
  refine wp_region_held_drew (S := fun w' => Below w.drew.heap.size w.drew w') (by kernel_rfl) (Below.refl _ _) (fun hS => ?_)
  refine wpHv (i := 0) (oi := ⟨some 30, _, _, _, _, _⟩) (v := ?_) rfl ?_ hS ?_; rotate_left; (focus (intro w9 hSw; (try dsimp only at hSw); go_simp; try with_reducible rfl)); simp only [Act.put, Z2, Z3, Z4]
  refine wpHv (i := 1) (oi := ⟨some 31, _, _, _, _, _⟩) (v := ?_) rfl ?_ hS ?_; rotate_left; (focus (intro w9 hSw; (try dsimp only at hSw); go_simp; try with_reducible rfl)); simp only [Act.put, Z2, Z3, Z4]
  refine wpHv (i := 2) (oi := ⟨some 32, _, _, _, _, _⟩) (v := ?_) rfl ?_ hS ?_; rotate_left; (focus (intro w9 hSw; (try dsimp only at hSw); go_simp; try with_reducible rfl)); simp only [Act.put, Z2, Z3, Z4]
  refine wpHv (i := 3) (oi := ⟨some 33, _, _, _, _, _⟩) (v := ?_) rfl ?_ hS ?_; rotate_left; (focus (intro w9 hSw; (try dsimp only at hSw); have s9 := W1.out; go_simp; try with_reducible rfl)); simp only [Act.put, Z2, Z3, Z4]
  refine wpHv (i := 4) (oi := ⟨some 34, _, _, _, _, _⟩) (v := ?_) rfl ?_ hS ?_; rotate_left; (focus (intro w9 hSw; (try dsimp only at hSw); have s9 := S1.out w9; go_simp; try with_reducible rfl)); simp only [Act.put, Z2, Z3, Z4]
  refine wpHv (i := 5) (oi := ⟨some 35, _, _, _, _, _⟩) (v := ?_) rfl ?_ hS ?_; rotate_left; (focus (intro w9 hSw; (try dsimp only at hSw); go_simp; try with_reducible rfl)); simp only [Act.put, Z2, Z3, Z4]
  refine wpHv (i := 6) (oi := ⟨some 36, _, _, _, _, _⟩) (v := ?_) rfl ?_ hS ?_; rotate_left; (focus (intro w9 hSw; (try dsimp only at hSw); go_simp; try with_reducible rfl)); simp only [Act.put, Z2, Z3, Z4]
  refine wpHv (i := 7) (oi := ⟨some 37, _, _, _, _, _⟩) (v := ?_) rfl ?_ hS ?_; rotate_left; (focus (intro w9 hSw; (try dsimp only at hSw); have s9 := S2.out w9; go_simp; try with_reducible rfl)); simp only [Act.put, Z2, Z3, Z4]
  refine wpAnyH_ready (rs := [8]) (by kernel_rfl) (by simp) (AllReadyH.cons (o := ⟨some 38, _, _, _, _, _⟩) rfl (fun K hK => ?_) AllReadyH.nil)
  go_simp
  refine (C1.out _ (Y1.out.below ((Below.refl w.heap.size w).drew.mono HBw)) (Nat.le_refl _)).mono ?_
  rintro e x0 ⟨rfl, hb0⟩
  have bk0 := ((Below.refl w.heap.size w).drew).trans (hb0.mono (Nat.le_refl _))
  clear hS
  refine hK.out _ _ hb0 (fun _ => ?_)
  clear hK K
  refine wpAnyH_sub (S' := fun w' => Below x0.heap.size x0 w') (fun _ h => hb0.trans (h.mono hb0.size)) ?_
  have hS := Below.refl x0.heap.size x0
  refine wpAnyH_ready (rs := [9]) (by kernel_rfl) (by simp) (AllReadyH.cons (o := ⟨some 39, _, _, _, _, _⟩) rfl (fun K hK => ?_) AllReadyH.nil)
  go_simp
  refine (C2.out _).mono ?_
  rintro e x1 ⟨A1, n1, c1, rfl, hn1, _, _, hown1, hb1⟩
  have bk1 := bk0.trans (hb1.mono bk0.size)
  have by1 := Byt.own (zs := word (SM.sum (zs.take (u + n)))) hown1
  clear hS hown1
  refine hK.out _ _ hb1 (fun _ => ?_)
  clear hK K
  refine wpAnyH_sub (S' := fun w' => Below x1.heap.size x1 w') (fun _ h => hb1.trans (h.mono hb1.size)) ?_
  have hS := Below.refl x1.heap.size x1
  refine wpAnyH_ready (rs := [10]) (by kernel_rfl) (by simp) (AllReadyH.cons (o := ⟨some 40, _, _, _, _, _⟩) rfl (fun K hK => ?_) AllReadyH.nil)
  go_simp
  refine (C3.out _ A1 n1 c1 by1 hn1 (Y0.out.below (bk1.mono HBw))).mono ?_
  rintro e x2 ⟨rfl, rfl⟩
  refine hK.out _ _ (Below.refl _ _) (fun _ => ?_)
  clear hK K
  refine wpHv (i := 11) (oi := ⟨some 41, _, _, _, _, _⟩) (v := ?_) rfl ?_ hS ?_; rotate_left; (focus (intro w9 hSw; (try dsimp only at hSw); go_simp; try with_reducible rfl)); simp only [Act.put, Z2, Z3, Z4]
  refine wpAnyH_done (by kernel_rfl) ?_ _
  clear hS
  go_wp2
  exact bodyPost_ret (v := .tuple #[.int .i64 0, .slice none 0 0, .int .i64 0, .int .i64 3]) (by simp [results, Tryd.results19, go_sem]) rfl ⟨rfl, bk1⟩
theorem open_any {B : Nat} (A : Option Addr) (len cap : Nat) (zs : List Int) (w : World) (h : Byt w B A zs) (hB : B ≤ w.heap.size) (hl : zs.length = len) (hb : AllBytes zs) (hlc : len ≤ cap) (hm : cap ≤ maxLen) :
  Calls Tryd.prog 19 #[.slice A len cap] w (OpenPost w (opn zs)) := by
 match hd : beg zs with
 | none =>
  have := open_none A len cap zs w h hl hb hlc hm hd
  rw [opn, hd]
  exact this
 | some (u, n) =>
  by_cases hs : len < u + n + 4
  ·have := open_short A len cap zs w u n h hl hb hlc hm hd hs
   rw [opn, hd]
   simp only [if_pos (show zs.length < u + n + 4 by omega)]
   exact this
  ·obtain ⟨b, off, rfl, hbB, hc⟩ := h (fun e => by rw [e] at hd; cases hd)
   exact open_last b off len cap zs w u n h hB hl hb hlc hm hd (by omega) (by omega) (hc 0 (by omega))
end
end Go.Proofs.YtkjimhlpbgeagaaDoor
