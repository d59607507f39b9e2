import Derived.Test.YtkjimhlpbgeagaaDoorC0
import Derived.Test.YtkjimhlpbgeagaaDoorC24
import Derived.Test.YtkjimhlpbgeagaaDoorC14
import Derived.Test.YtkjimhlpbgeagaaDoorC9
/-
  What the functions that a law of this layer reaches answer, part 25. Nothing that was there is written.
-/
namespace Go.Proofs.YtkjimhlpbgeagaaDoor
set_option linter.unusedVariables false
set_option linter.unusedSimpArgs false
section
open Go.RowKit WM
set_option maxRecDepth 100000
set_option maxHeartbeats 4000000 in
theorem equalS_any (A B : Option Addr) (c d : Nat) (xs ys : List Sg) (w : World) (h1 : KSig.row w A c xs) (h2 : KSig.row w B d ys) (hl : xs.length ≤ 1000000) : Calls Tryd.prog 57 #[.slice A xs.length c, .slice B ys.length d] w fun e w' => e = .returned (.bool (decide (xs = ys))) ∧ Below w.heap.size w w' := by
 have HB := Lib.hid (Below.refl w.heap.size w)
 have H1 := Lib.hid h1
 have H2 := Lib.hid h2
 have HV := Lib.hid (show decide (xs = ys) = decide (xs.drop 0 = ys.drop 0) from rfl)
 have HNE : Hid (¬ xs.length = ys.length → decide (xs = ys) = false) := Lib.hid (fun hne => decide_eq_false (fun e => hne (by rw [e])))
 have hc1 := h1.1
 have hc2 := h2.1
 have hm1 := h1.2.1
 have hm2 := h2.2.1
 simp only [maxLen] at hm1 hm2
 generalize decide (xs = ys) = V at *
 clear h1 h2
 by_cases hl2 : xs.length = ys.length
 ·clear HNE
  have R1 := Lib.hid (fun h => sig_row H1.out h)
  have R2 := Lib.hid (fun h => sig_row H2.out h)
  generalize hn1 : xs.length = n at *
  generalize hn2 : ys.length = n2 at *
  subst hl2
  have HL1 := Lib.hid hn1
  have HL2 := Lib.hid hn2
  clear hn1 hn2
  go_enter Tryd.func57, Tryd.ntmps57
  go_wp2
  go_loopw [13] (fun i wr => ∃ k : Nat, k ≤ n ∧ i = .int .i64 k ∧ Below w.heap.size w wr ∧ V = decide (xs.drop k = ys.drop k)) (fun i _ => n - (intOf i).toNat)
  case atStart => exact ⟨0, Nat.zero_le _, rfl, HB.out, HV.out⟩
  case round =>
   obtain ⟨k, hk, rfl, hb, hf⟩ := hrel
   have HBB := Lib.hid hb
   by_cases hlt : k < n
   ·have t1 : (k : Int) < (n : Int) := by omega
    obtain ⟨b1, off1, hA1, hb1w, hx1, hi1⟩ := R1.out (by omega)
    obtain ⟨b2, off2, hA2, hb2w, hx2, hi2⟩ := R2.out (by omega)
    have IX1 := Lib.hid (hi1 k hlt k rfl)
    have IX2 := Lib.hid (hi2 k hlt k rfl)
    rw [← hA1] at IX1
    rw [← hA2] at IX2
    have Q1 := Lib.hid (hx1 k hlt)
    have Q2 := Lib.hid (hx2 k hlt)
    have X1 := Lib.hid (Kind.row_ok H1.out (i := k) (by rw [HL1.out]; exact hlt))
    have X2 := Lib.hid (Kind.row_ok H2.out (i := k) (by rw [HL2.out]; exact hlt))
    have B0 := Lib.hid hb
    have hdr := drop_same9 sg0 (xs := xs) (ys := ys) (k := k) (by rw [HL1.out]; exact hlt) (by rw [HL2.out]; exact hlt)
    change Hid (Sg.Ok (xs.getD k sg0)) at X1
    change Hid (Sg.Ok (ys.getD k sg0)) at X2
    have HQ := Lib.hid (show ∀ w9, (Op.equalIn 10000 107 (.agg (KSig.cs (xs.getD k sg0)).toArray) (.agg (KSig.cs (ys.getD k sg0)).toArray)).run Tryd.prog w9 = .ok (decide (xs.getD k sg0 = ys.getD k sg0)) w9 from fun w9 => eq_sig X1.out X2.out w9)
    generalize xs.getD k sg0 = x at *
    generalize ys.getD k sg0 = y at *
    clear hx1 hx2 hi1 hi2 hA1 hA2
    by_cases he : x = y
    ·subst he
     have HF := Lib.hid (show V = decide (xs.drop (k + 1) = ys.drop (k + 1)) by rw [hf, decide_eq_decide, hdr]; simp)
     rw [show decide (x = x) = true by simp] at HQ
     clear hf hdr hb
     go_wp2_with fail
     refine wp_region_G _ (by kernel_rfl) ?_
     refine wpGv (i := 0) (oi := ⟨some 16, _, _, _, _, _⟩) (v := ?_) rfl ?_ ?_; rotate_left; (focus (intro w9 hSw; go_simp; try with_reducible rfl)); simp only [Act.put, Z2, Z3, Z4]
     refine wpGv (i := 1) (oi := ⟨some 17, _, _, _, _, _⟩) (v := ?_) rfl ?_ ?_; rotate_left; (focus (intro w9 hSw; go_simp; try with_reducible rfl)); simp only [Act.put, Z2, Z3, Z4]
     refine wpGv (i := 2) (oi := ⟨some 18, _, _, _, _, _⟩) (v := ?_) rfl ?_ ?_; rotate_left; (focus (intro w9 hSw; have q0 := IX1.out w9; go_simp; try with_reducible rfl)); simp only [Act.put, Z2, Z3, Z4]
     refine wpGv (i := 3) (oi := ⟨some 19, _, _, _, _, _⟩) (v := (.agg (KSig.cs x).toArray)) rfl ?_ ?_; (focus (intro w9 hSw; exact exec_load_at 107 _ rfl _ rfl (load_sigK Q1.out X1.out (B0.out.trans (hSw.mono B0.out.size)) hb1w))); simp only [Act.put, Z2, Z3, Z4]
     refine wpGv (i := 4) (oi := ⟨some 20, _, _, _, _, _⟩) (v := ?_) rfl ?_ ?_; rotate_left; (focus (intro w9 hSw; go_simp; try with_reducible rfl)); simp only [Act.put, Z2, Z3, Z4]
     refine wpGv (i := 5) (oi := ⟨some 21, _, _, _, _, _⟩) (v := ?_) rfl ?_ ?_; rotate_left; (focus (intro w9 hSw; go_simp; try with_reducible rfl)); simp only [Act.put, Z2, Z3, Z4]
     refine wpGv (i := 6) (oi := ⟨some 22, _, _, _, _, _⟩) (v := ?_) rfl ?_ ?_; rotate_left; (focus (intro w9 hSw; have q0 := IX2.out w9; go_simp; try with_reducible rfl)); simp only [Act.put, Z2, Z3, Z4]
     refine wpGv (i := 7) (oi := ⟨some 23, _, _, _, _, _⟩) (v := (.agg (KSig.cs x).toArray)) rfl ?_ ?_; (focus (intro w9 hSw; exact exec_load_at 107 _ rfl _ rfl (load_sigK Q2.out X2.out (B0.out.trans (hSw.mono B0.out.size)) hb2w))); simp only [Act.put, Z2, Z3, Z4]
     refine wpGv (i := 8) (oi := ⟨some 24, _, _, _, _, _⟩) (v := (.bool false)) rfl ?_ ?_; (focus (intro w9 hSw; have q0 := HQ.out w9; exact exec_neq_at 107 _ _ _ rfl rfl rfl guardSig q0)); simp only [Act.put, Z2, Z3, Z4]
     refine wpG_done (by kernel_rfl) ?_ _
     intro w9 hSw _
     have B9 := Lib.hid (HBB.out.trans (hSw.mono HBB.out.size))
     clear hSw
     go_wp2
     go_roundw
     case rel => exact ⟨k + 1, by omega, by go_num, B9.out, HF.out⟩
     case measure => simp [intOf]; omega
    ·have HF := Lib.hid (show V = false by rw [hf, decide_eq_false_iff_not, hdr]; simp [he])
     rw [decide_eq_false he] at HQ
     clear hf hdr hb
     go_wp2_with fail
     refine wp_region_G _ (by kernel_rfl) ?_
     refine wpGv (i := 0) (oi := ⟨some 16, _, _, _, _, _⟩) (v := ?_) rfl ?_ ?_; rotate_left; (focus (intro w9 hSw; go_simp; try with_reducible rfl)); simp only [Act.put, Z2, Z3, Z4]
     refine wpGv (i := 1) (oi := ⟨some 17, _, _, _, _, _⟩) (v := ?_) rfl ?_ ?_; rotate_left; (focus (intro w9 hSw; go_simp; try with_reducible rfl)); simp only [Act.put, Z2, Z3, Z4]
     refine wpGv (i := 2) (oi := ⟨some 18, _, _, _, _, _⟩) (v := ?_) rfl ?_ ?_; rotate_left; (focus (intro w9 hSw; have q0 := IX1.out w9; go_simp; try with_reducible rfl)); simp only [Act.put, Z2, Z3, Z4]
     refine wpGv (i := 3) (oi := ⟨some 19, _, _, _, _, _⟩) (v := (.agg (KSig.cs x).toArray)) rfl ?_ ?_; (focus (intro w9 hSw; exact exec_load_at 107 _ rfl _ rfl (load_sigK Q1.out X1.out (B0.out.trans (hSw.mono B0.out.size)) hb1w))); simp only [Act.put, Z2, Z3, Z4]
     refine wpGv (i := 4) (oi := ⟨some 20, _, _, _, _, _⟩) (v := ?_) rfl ?_ ?_; rotate_left; (focus (intro w9 hSw; go_simp; try with_reducible rfl)); simp only [Act.put, Z2, Z3, Z4]
     refine wpGv (i := 5) (oi := ⟨some 21, _, _, _, _, _⟩) (v := ?_) rfl ?_ ?_; rotate_left; (focus (intro w9 hSw; go_simp; try with_reducible rfl)); simp only [Act.put, Z2, Z3, Z4]
     refine wpGv (i := 6) (oi := ⟨some 22, _, _, _, _, _⟩) (v := ?_) rfl ?_ ?_; rotate_left; (focus (intro w9 hSw; have q0 := IX2.out w9; go_simp; try with_reducible rfl)); simp only [Act.put, Z2, Z3, Z4]
     refine wpGv (i := 7) (oi := ⟨some 23, _, _, _, _, _⟩) (v := (.agg (KSig.cs y).toArray)) rfl ?_ ?_; (focus (intro w9 hSw; exact exec_load_at 107 _ rfl _ rfl (load_sigK Q2.out X2.out (B0.out.trans (hSw.mono B0.out.size)) hb2w))); simp only [Act.put, Z2, Z3, Z4]
     refine wpGv (i := 8) (oi := ⟨some 24, _, _, _, _, _⟩) (v := (.bool true)) rfl ?_ ?_; (focus (intro w9 hSw; have q0 := HQ.out w9; exact exec_neq_at 107 _ _ _ rfl rfl rfl guardSig q0)); simp only [Act.put, Z2, Z3, Z4]
     refine wpG_done (by kernel_rfl) ?_ _
     intro w9 hSw _
     have B9 := Lib.hid (HBB.out.trans (hSw.mono HBB.out.size))
     clear hSw
     go_wp2
     go_ret
     exact ⟨by rw [HF.out]; try rfl, B9.out⟩
   ·obtain rfl : k = n := by omega
    have t1 : ¬ (k : Int) < (k : Int) := by omega
    rw [List.drop_eq_nil_of_le (by rw [HL1.out]; exact Nat.le_refl _), List.drop_eq_nil_of_le (by rw [HL2.out]; exact Nat.le_refl _), decide_eq_true rfl] at hf
    have HF := Lib.hid hf
    clear hf hb
    go_wp2
    go_ret
    exact ⟨by rw [HF.out]; try rfl, HBB.out⟩
 ·have HF := Lib.hid (HNE.out hl2)
  have t1 : ¬ (xs.length : Int) = (ys.length : Int) := by omega
  go_enter Tryd.func57, Tryd.ntmps57
  go_wp2
  go_ret
  exact ⟨by rw [HF.out]; try rfl, HB.out⟩
structure PEn2 (w : World) (x y : EnA) (X : World) : Prop where
 a : KEn.blk 52 X w.heap.size x
 b : KEn.blk 52 X (w.heap.size + 1) y
 below : Below w.heap.size w X
theorem PEn2.new (w : World) (x y : EnA) : PEn2 w x y ((w.alloc (.cells (KEn.cs x).toArray 52)).alloc (.cells (KEn.cs y).toArray 52)) := by
 refine ⟨Kind.blk_old (Kind.blk_new w x _) _, ?_, ((Below.refl _ _).alloc (Nat.le_refl _) _).alloc (by rw [World.size_alloc]; omega) _⟩
 have := Kind.blk_new (K := KEn) (w.alloc (.cells (KEn.cs x).toArray 52)) y 52
 rw [World.size_alloc] at this
 exact this
theorem pen_eq (x y : En) : decide (x = y) = (decide (x.no = y.no) && (decide (x.n = y.n ∧ x.r = y.r) && (decide (x.len = y.len) && (decide (x.ds = y.ds) && decide (x.bs = y.bs))))) := by
 obtain ⟨a, b, c, d, e, f⟩ := x
 obtain ⟨a', b', c', d', e', f'⟩ := y
 rw [Bool.eq_iff_iff]
 simp only [Bool.and_eq_true, decide_eq_true_eq, En.mk.injEq]
 constructor
 ·rintro ⟨h1, h2, h3, h4, h5, h6⟩; exact ⟨h1, ⟨h2, h3⟩, h4, h5, h6⟩
 ·rintro ⟨h1, ⟨h2, h3⟩, h4, h5, h6⟩; exact ⟨h1, h2, h3, h4, h5, h6⟩
set_option maxHeartbeats 8000000 in
theorem psameE_any (x y : EnA) (w : World) (hx : x.Ok w) (hy : y.Ok w) (hbd : x.e.bs.length ≤ 1000000) : Calls Tryd.prog 42 #[KEn.v x, KEn.v y] w fun e w' => e = .returned (.bool (decide (x.e = y.e))) ∧ Below w.heap.size w w' := by
 have S0 := PEn2.new w x y
 have X1 := EnA.below hx (S0.below.mono (Nat.le_refl _))
 have Y1 := EnA.below hy (S0.below.mono (Nat.le_refl _))
 have HV := Lib.hid (pen_eq x.e y.e)
 have a0 := en_c0 (Kind.at_blk S0.a)
 have a1 := en_c1 (Kind.at_blk S0.a)
 have a2 := en_c2 (Kind.at_blk S0.a)
 have a3 := en_c3 (Kind.at_blk S0.a)
 have a4 := en_c36 (Kind.at_blk S0.a) hx.2.2.2.2.1
 have b0 := en_c0 (Kind.at_blk S0.b)
 have b1 := en_c1 (Kind.at_blk S0.b)
 have b2 := en_c2 (Kind.at_blk S0.b)
 have b3 := en_c3 (Kind.at_blk S0.b)
 have b4 := en_c36 (Kind.at_blk S0.b) hy.2.2.2.2.1
 simp only [Nat.zero_add] at a0 a1 a2 a3 a4 b0 b1 b2 b3 b4
 have L1 := Lib.hid (load_dig (en_dig (Kind.at_blk S0.a) hx.2.2.2.2.1) hx.2.2.2.2.1)
 have L2 := Lib.hid (load_dig (en_dig (Kind.at_blk S0.b) hy.2.2.2.2.1) hy.2.2.2.2.1)
 rw [Nat.zero_add] at L1 L2
 have HQS := Lib.hid (fun X => eq_st (n := x.e.n) (r := x.e.r) (m := y.e.n) (s := y.e.r) X)
 have HQD := Lib.hid (show ∀ X, (Op.equalIn 10000 23 (.agg (bvals x.e.ds)) (.agg (bvals y.e.ds))).run Tryd.prog X = .ok (decide (x.e.ds = y.e.ds)) X from fun X => by
  rw [eq_dig hx.2.2.2.2.2.1 hy.2.2.2.2.2.1 hx.2.2.2.2.1 hy.2.2.2.2.1 X]; congr 1; rw [Bool.eq_iff_iff]; simp)
 have HC := Lib.hid (equalS_any x.A y.A x.c y.c x.e.bs y.e.bs _ X1.2.2.2.2.2.2 Y1.2.2.2.2.2.2 hbd)
 have BB := Lib.hid S0.below
 have hv1 : KEn.v x = .agg (KEn.cs x).toArray := rfl
 have hv2 : KEn.v y = .agg (KEn.cs y).toArray := rfl
 rw [hv1, hv2]
 generalize decide (x.e = y.e) = V at *
 obtain ⟨⟨n1, s1, r1, l1, d1, g1⟩, A1, c1⟩ := x
 obtain ⟨⟨n2, s2, r2, l2, d2, g2⟩, A2, c2⟩ := y
 dsimp only at a0 a1 a2 a3 a4 b0 b1 b2 b3 b4 L1 L2 HQS HQD HC HV
 generalize (KEn.cs ⟨⟨n1, s1, r1, l1, d1, g1⟩, A1, c1⟩).toArray = Ex at *
 generalize (KEn.cs ⟨⟨n2, s2, r2, l2, d2, g2⟩, A2, c2⟩).toArray = Ey at *
 generalize g1.length = m1 at *
 generalize g2.length = m2 at *
 clear S0 X1 Y1 hv1 hv2 hx hy hbd
 go_enter Tryd.func42, Tryd.ntmps42
 by_cases t1 : n1 = n2
 case neg =>
  have HF := Lib.hid (show V = false by rw [HV.out, decide_eq_false t1]; rfl)
  go_wp2
  go_ret
  exact ⟨by rw [HF.out]; try rfl, BB.out⟩
 by_cases t2 : s1 = s2 ∧ r1 = r2
 case neg =>
  have HF := Lib.hid (show V = false by rw [HV.out, decide_eq_false t2]; simp)
  rw [decide_eq_false t2] at HQS
  clear t2
  go_wp2_with (first | ((with_reducible refine wpList_eqlM (o := ⟨some 15, .binOp .eql 46 (.tmp 12) (.tmp 14) 46, _, _, _, _⟩) ?e1 46 (.tmp 12) (.tmp 14) 46 ?e2 ?e3 ?e4 guardStM (HQS.out _) ?_); (case e1 => rfl); (case e2 => rfl); (case e3 => rfl); (case e4 => rfl)))
  go_ret
  exact ⟨by rw [HF.out]; try rfl, BB.out⟩
 rw [decide_eq_true t2] at HQS
 by_cases t3 : l1 = l2
 case neg =>
  have HF := Lib.hid (show V = false by rw [HV.out, decide_eq_false t3]; simp)
  clear t2
  go_wp2_with (first | ((with_reducible refine wpList_eqlM (o := ⟨some 15, .binOp .eql 46 (.tmp 12) (.tmp 14) 46, _, _, _, _⟩) ?e1 46 (.tmp 12) (.tmp 14) 46 ?e2 ?e3 ?e4 guardStM (HQS.out _) ?_); (case e1 => rfl); (case e2 => rfl); (case e3 => rfl); (case e4 => rfl)))
  go_ret
  exact ⟨by rw [HF.out]; try rfl, BB.out⟩
 by_cases t4 : d1 = d2
 case neg =>
  have HF := Lib.hid (show V = false by rw [HV.out, decide_eq_false t4]; simp)
  rw [decide_eq_false t4] at HQD
  clear t2
  go_wp2_with (first | ((with_reducible refine wpList_eqlM (o := ⟨some 15, .binOp .eql 46 (.tmp 12) (.tmp 14) 46, _, _, _, _⟩) ?e1 46 (.tmp 12) (.tmp 14) 46 ?e2 ?e3 ?e4 guardStM (HQS.out _) ?_); (case e1 => rfl); (case e2 => rfl); (case e3 => rfl); (case e4 => rfl)) | ((with_reducible refine wpList_load_at (o := ⟨some 26, .load 23 (.tmp 25), _, _, _, _⟩) ?e1 23 (.tmp 25) ?e2 ⟨w.heap.size, 4, none⟩ ?e3 _ L1.out ?_); (case e1 => rfl); (case e2 => rfl); (case e3 => rfl)) | ((with_reducible refine wpList_load_at (o := ⟨some 28, .load 23 (.tmp 27), _, _, _, _⟩) ?e1 23 (.tmp 27) ?e2 ⟨(w.heap.size + 1), 4, none⟩ ?e3 _ L2.out ?_); (case e1 => rfl); (case e2 => rfl); (case e3 => rfl)) | ((with_reducible refine wpList_eqlM (o := ⟨some 29, .binOp .eql 23 (.tmp 26) (.tmp 28) 23, _, _, _, _⟩) ?e1 23 (.tmp 26) (.tmp 28) 23 ?e2 ?e3 ?e4 guardDig (HQD.out _) ?_); (case e1 => rfl); (case e2 => rfl); (case e3 => rfl); (case e4 => rfl)))
  go_ret
  exact ⟨by rw [HF.out]; try rfl, BB.out⟩
 rw [decide_eq_true t4] at HQD
 have HF := Lib.hid (show V = decide (g1 = g2) by rw [HV.out, decide_eq_true t1, decide_eq_true t2, decide_eq_true t3, decide_eq_true t4]; rfl)
 generalize decide (g1 = g2) = b9 at *
 clear t2 t4
 go_wp2_with (first | ((with_reducible refine wpList_eqlM (o := ⟨some 15, .binOp .eql 46 (.tmp 12) (.tmp 14) 46, _, _, _, _⟩) ?e1 46 (.tmp 12) (.tmp 14) 46 ?e2 ?e3 ?e4 guardStM (HQS.out _) ?_); (case e1 => rfl); (case e2 => rfl); (case e3 => rfl); (case e4 => rfl)) | ((with_reducible refine wpList_load_at (o := ⟨some 26, .load 23 (.tmp 25), _, _, _, _⟩) ?e1 23 (.tmp 25) ?e2 ⟨w.heap.size, 4, none⟩ ?e3 _ L1.out ?_); (case e1 => rfl); (case e2 => rfl); (case e3 => rfl)) | ((with_reducible refine wpList_load_at (o := ⟨some 28, .load 23 (.tmp 27), _, _, _, _⟩) ?e1 23 (.tmp 27) ?e2 ⟨(w.heap.size + 1), 4, none⟩ ?e3 _ L2.out ?_); (case e1 => rfl); (case e2 => rfl); (case e3 => rfl)) | ((with_reducible refine wpList_eqlM (o := ⟨some 29, .binOp .eql 23 (.tmp 26) (.tmp 28) 23, _, _, _, _⟩) ?e1 23 (.tmp 26) (.tmp 28) 23 ?e2 ?e3 ?e4 guardDig (HQD.out _) ?_); (case e1 => rfl); (case e2 => rfl); (case e3 => rfl); (case e4 => rfl)))
 refine HC.out.mono ?_
 rintro e w4 ⟨rfl, hb4⟩
 have BB := Lib.hid (BB.out.trans (hb4.mono BB.out.size))
 clear hb4
 go_wp2
 go_ret
 exact ⟨by rw [HF.out]; try rfl, BB.out⟩
set_option maxHeartbeats 8000000 in
theorem eqfE_any (A B : Option Addr) (c d : Nat) (xs ys : List EnA) (w : World) (h1 : KEn.row w A c xs) (h2 : KEn.row w B d ys) (hbd : ∀ e ∈ xs, e.e.bs.length ≤ 1000000) : Calls Tryd.prog 41 #[.slice A xs.length c, .slice B ys.length d, .func (.func 42) #[] #[]] w fun e w' => e = .returned (.bool (decide (xs.map (·.e) = ys.map (·.e)))) ∧ Below w.heap.size w w' := by
 have HB := Lib.hid (Below.refl w.heap.size w)
 have R1 := Lib.hid (fun h => en_row h1 h)
 have R2 := Lib.hid (fun h => en_row h2 h)
 have O1 := Lib.hid (fun k (hk : k < xs.length) => show EnA.Ok w (xs.getD k enA0) from Kind.row_ok h1 hk)
 have O2 := Lib.hid (fun k (hk : k < ys.length) => show EnA.Ok w (ys.getD k enA0) from Kind.row_ok h2 hk)
 have HBD := Lib.hid (fun k (hk : k < xs.length) => hbd (xs.getD k enA0) (by rw [List.getD_eq_getElem?_getD, List.getElem?_eq_getElem hk]; exact List.getElem_mem _))
 have HV := Lib.hid (show decide (xs.map (·.e) = ys.map (·.e)) = decide ((xs.map (·.e)).drop 0 = (ys.map (·.e)).drop 0) from rfl)
 have HNE : Hid (¬ xs.length = ys.length → decide (xs.map (·.e) = ys.map (·.e)) = false) := Lib.hid (fun hne => decide_eq_false (fun e => hne (by have := congrArg List.length e; simpa using this)))
 have hc1 := h1.1
 have hc2 := h2.1
 have hm1 := h1.2.1
 have hm2 := h2.2.1
 simp only [maxLen] at hm1 hm2
 have hz := zeroEn
 rw [show KEn.v enA0 = .agg (KEn.cs enA0).toArray from rfl] at hz
 have hzne : ¬ (KEn.cs enA0).toArray = #[] := by decide
 have hzs := enA0_size
 generalize decide (xs.map (·.e) = ys.map (·.e)) = V at *
 clear h1 h2 hbd
 by_cases hl2 : xs.length = ys.length
 ·clear HNE
  generalize hn1 : xs.length = n at *
  generalize hn2 : ys.length = n2 at *
  subst hl2
  have HL1 := Lib.hid hn1
  have HL2 := Lib.hid hn2
  clear hn1 hn2
  go_enter Tryd.func41, Tryd.ntmps41
  go_wp2
  go_loopw [17] (fun i wr => ∃ k : Nat, k ≤ n ∧ i = .int .i64 k ∧ Below w.heap.size w wr ∧ V = decide ((xs.map (·.e)).drop k = (ys.map (·.e)).drop k)) (fun i _ => n - (intOf i).toNat)
  case atStart => exact ⟨0, Nat.zero_le _, rfl, HB.out, HV.out⟩
  case round =>
   obtain ⟨k, hk, rfl, hb, hf⟩ := hrel
   have BB := Lib.hid hb
   by_cases hlt : k < n
   ·have t1 : (k : Int) < (n : Int) := by omega
    obtain ⟨b1, off1, hA1, hb1w, hx1, hi1⟩ := R1.out (by omega)
    obtain ⟨b2, off2, hA2, hb2w, hx2, hi2⟩ := R2.out (by omega)
    have ix1 := hi1 k hlt k rfl
    have ix2 := hi2 k hlt k rfl
    rw [← hA1] at ix1
    rw [← hA2] at ix2
    rw [drop_map9 (·.e) enA0 (xs := xs) (by rw [HL1.out]; exact hlt), drop_map9 (·.e) enA0 (xs := ys) (by rw [HL2.out]; exact hlt)] at hf
    have okx : EnA.Ok wr (xs.getD k enA0) := EnA.below (O1.out k hlt) (hb.mono (Nat.le_refl _))
    have oky : EnA.Ok wr (ys.getD k enA0) := EnA.below (O2.out k hlt) (hb.mono (Nat.le_refl _))
    have LX := Lib.hid (load_en (Kind.at_same (hx1 k hlt) (hb.block b1 hb1w)) okx)
    have LYW := Lib.hid (fun w9 (h9 : Below wr.heap.size wr w9) => load_en (Kind.at_same (hx2 k hlt) ((hb.trans (h9.mono hb.size)).block b2 hb2w)) (EnA.below oky h9))
    have HLX := Lib.hid (HBD.out k hlt)
    generalize xs.getD k enA0 = x at *
    generalize ys.getD k enA0 = y at *
    generalize off1 + k * 37 = o1 at *
    generalize off2 + k * 37 = o2 at *
    have hb1 : Below wr.heap.size wr (wr.alloc (.cells (KEn.cs x).toArray 52)) := (Below.refl _ _).alloc (Nat.le_refl _) _
    have hb2 : Below wr.heap.size wr ((wr.alloc (.cells (KEn.cs x).toArray 52)).alloc (.cells (KEn.cs y).toArray 52)) := hb1.alloc hb1.size _
    have LY := Lib.hid (LYW.out _ hb1)
    have kx := Kind.blk_old (Kind.blk_new (K := KEn) wr x 52) (.cells (KEn.cs y).toArray 52)
    have ky := Kind.blk_new (K := KEn) (wr.alloc (.cells (KEn.cs x).toArray 52)) y 52
    rw [World.size_alloc] at ky
    have L27 := Lib.hid (load_en (Kind.at_blk kx) (EnA.below okx hb2))
    have L28 := Lib.hid (load_en (Kind.at_blk ky) (EnA.below oky hb2))
    have HC := Lib.hid (psameE_any x y _ (EnA.below okx hb2) (EnA.below oky hb2) HLX.out)
    rw [show KEn.v x = .agg (KEn.cs x).toArray from rfl] at LX L27
    rw [show KEn.v y = .agg (KEn.cs y).toArray from rfl] at LY L28
    rw [show KEn.v x = .agg (KEn.cs x).toArray from rfl, show KEn.v y = .agg (KEn.cs y).toArray from rfl] at HC
    have SZX := Lib.hid (en_size okx)
    have SZY := Lib.hid (en_size oky)
    have SQX := Lib.hid (show (KEn.cs enA0).toArray.size = (KEn.cs x).toArray.size by rw [enA0_size, List.size_toArray]; exact (EnA.len okx).symm)
    have SQY := Lib.hid (show (KEn.cs enA0).toArray.size = (KEn.cs y).toArray.size by rw [enA0_size, List.size_toArray]; exact (EnA.len oky).symm)
    have SOX := Lib.hid (en_ones x)
    have SOY := Lib.hid (en_ones y)
    have BB := Lib.hid (hb.trans (hb2.mono hb.size))
    have HF := Lib.hid (show V = (decide (x.e = y.e) && decide ((xs.map (·.e)).drop (k + 1) = (ys.map (·.e)).drop (k + 1))) by rw [hf, Bool.eq_iff_iff]; simp)
    generalize (KEn.cs x).toArray = Ex at *
    generalize (KEn.cs y).toArray = Ey at *
    generalize hd : decide (x.e = y.e) = b9 at *
    clear hx1 hx2 hi1 hi2 hA1 hA2 hf hb hb1w hb2w okx oky hb1 hb2 kx ky hd LYW
    cases b9
    ·have HF := Lib.hid (show V = false from HF.out)
     go_wp2_with (first | ((with_reducible refine wpList_load_at (o := ⟨some 21, .load 52 (.tmp 20), _, _, _, _⟩) ?e1 52 (.tmp 20) ?e2 ⟨b1, o1, none⟩ ?e3 _ LX.out ?_); (case e1 => rfl); (case e2 => rfl); (case e3 => rfl)) | ((with_reducible refine wpList_store_new (o := ⟨none, .store 52 (.tmp 8) (.tmp 21), _, _, _, _⟩) ?e1 52 (.tmp 8) (.tmp 21) ?e2 ?e3 (KEn.cs enA0).toArray Ex ?e4 SZX.out SQX.out SOX.out ?_); (case e1 => rfl); (case e2 => rfl); (case e3 => (first | rfl | exact congrArg (fun q => Value.pointer (some ⟨q, 0, none⟩)) (World.size_alloc _ _).symm)); (case e4 => rfl)) | ((with_reducible refine wpList_load_at (o := ⟨some 25, .load 52 (.tmp 24), _, _, _, _⟩) ?e1 52 (.tmp 24) ?e2 ⟨b2, o2, none⟩ ?e3 _ LY.out ?_); (case e1 => rfl); (case e2 => rfl); (case e3 => rfl)) | ((with_reducible refine wpList_store_new (o := ⟨none, .store 52 (.tmp 9) (.tmp 25), _, _, _, _⟩) ?e1 52 (.tmp 9) (.tmp 25) ?e2 ?e3 (KEn.cs enA0).toArray Ey ?e4 SZY.out SQY.out SOY.out ?_); (case e1 => rfl); (case e2 => rfl); (case e3 => (first | rfl | exact congrArg (fun q => Value.pointer (some ⟨q, 0, none⟩)) (World.size_alloc _ _).symm)); (case e4 => rfl)) | ((with_reducible refine wpList_load_at (o := ⟨some 27, .load 52 (.tmp 8), _, _, _, _⟩) ?e1 52 (.tmp 8) ?e2 ⟨wr.heap.size, 0, none⟩ ?e3 _ L27.out ?_); (case e1 => rfl); (case e2 => rfl); (case e3 => rfl)) | ((with_reducible refine wpList_load_at (o := ⟨some 28, .load 52 (.tmp 9), _, _, _, _⟩) ?e1 52 (.tmp 9) ?e2 ⟨(wr.heap.size + 1), 0, none⟩ ?e3 _ L28.out ?_); (case e1 => rfl); (case e2 => rfl); (case e3 => rfl)))
     refine HC.out.mono ?_
     rintro e w4 ⟨rfl, hb4⟩
     have BB := Lib.hid (BB.out.trans (hb4.mono BB.out.size))
     clear hb4
     go_wp2
     go_ret
     exact ⟨by rw [HF.out]; try rfl, BB.out⟩
    ·have HF := Lib.hid (show V = decide ((xs.map (·.e)).drop (k + 1) = (ys.map (·.e)).drop (k + 1)) from HF.out)
     go_wp2_with (first | ((with_reducible refine wpList_load_at (o := ⟨some 21, .load 52 (.tmp 20), _, _, _, _⟩) ?e1 52 (.tmp 20) ?e2 ⟨b1, o1, none⟩ ?e3 _ LX.out ?_); (case e1 => rfl); (case e2 => rfl); (case e3 => rfl)) | ((with_reducible refine wpList_store_new (o := ⟨none, .store 52 (.tmp 8) (.tmp 21), _, _, _, _⟩) ?e1 52 (.tmp 8) (.tmp 21) ?e2 ?e3 (KEn.cs enA0).toArray Ex ?e4 SZX.out SQX.out SOX.out ?_); (case e1 => rfl); (case e2 => rfl); (case e3 => (first | rfl | exact congrArg (fun q => Value.pointer (some ⟨q, 0, none⟩)) (World.size_alloc _ _).symm)); (case e4 => rfl)) | ((with_reducible refine wpList_load_at (o := ⟨some 25, .load 52 (.tmp 24), _, _, _, _⟩) ?e1 52 (.tmp 24) ?e2 ⟨b2, o2, none⟩ ?e3 _ LY.out ?_); (case e1 => rfl); (case e2 => rfl); (case e3 => rfl)) | ((with_reducible refine wpList_store_new (o := ⟨none, .store 52 (.tmp 9) (.tmp 25), _, _, _, _⟩) ?e1 52 (.tmp 9) (.tmp 25) ?e2 ?e3 (KEn.cs enA0).toArray Ey ?e4 SZY.out SQY.out SOY.out ?_); (case e1 => rfl); (case e2 => rfl); (case e3 => (first | rfl | exact congrArg (fun q => Value.pointer (some ⟨q, 0, none⟩)) (World.size_alloc _ _).symm)); (case e4 => rfl)) | ((with_reducible refine wpList_load_at (o := ⟨some 27, .load 52 (.tmp 8), _, _, _, _⟩) ?e1 52 (.tmp 8) ?e2 ⟨wr.heap.size, 0, none⟩ ?e3 _ L27.out ?_); (case e1 => rfl); (case e2 => rfl); (case e3 => rfl)) | ((with_reducible refine wpList_load_at (o := ⟨some 28, .load 52 (.tmp 9), _, _, _, _⟩) ?e1 52 (.tmp 9) ?e2 ⟨(wr.heap.size + 1), 0, none⟩ ?e3 _ L28.out ?_); (case e1 => rfl); (case e2 => rfl); (case e3 => rfl)))
     refine HC.out.mono ?_
     rintro e w4 ⟨rfl, hb4⟩
     have BB := Lib.hid (BB.out.trans (hb4.mono BB.out.size))
     clear hb4
     go_wp2
     go_roundw
     case rel => exact ⟨k + 1, by omega, by go_num, BB.out, HF.out⟩
     case measure => simp [intOf]; omega
   ·obtain rfl : k = n := by omega
    have t1 : ¬ (k : Int) < (k : Int) := by omega
    have HF := Lib.hid (show V = true by rw [hf, List.drop_eq_nil_of_le (by rw [List.length_map, HL1.out]; exact Nat.le_refl _), List.drop_eq_nil_of_le (by rw [List.length_map, HL2.out]; exact Nat.le_refl _)]; simp)
    clear hf hb
    go_wp2
    go_ret
    exact ⟨by rw [HF.out]; try rfl, BB.out⟩
 ·have HF := Lib.hid (HNE.out hl2)
  have hne : ¬ (xs.length : Int) = (ys.length : Int) := by omega
  have BB := HB
  generalize xs.length = n1 at *
  generalize ys.length = n2 at *
  go_enter Tryd.func41, Tryd.ntmps41
  go_wp2
  go_ret
  exact ⟨by rw [HF.out]; try rfl, BB.out⟩
end
end Go.Proofs.YtkjimhlpbgeagaaDoor
