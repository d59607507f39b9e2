import Derived.Test.YtkjimhlpbgeagaaDoorC0
import Derived.Test.YtkjimhlpbgeagaaDoorC25
import Derived.Test.YtkjimhlpbgeagaaDoorC22
import Derived.Test.YtkjimhlpbgeagaaDoorC24
import Derived.Test.YtkjimhlpbgeagaaDoorC18
import Derived.Test.YtkjimhlpbgeagaaDoorC5
import Derived.Test.YtkjimhlpbgeagaaDoorC2
import Derived.ProofKit
import Derived.OpenShut
import Derived.Deep.Slices
import Derived.Deep.Strs
import Derived.Test.YtkjimhlpbgeagaaDoorC9
import Derived.Test.YtkjimhlpbgeagaaDoorC1
import Derived.Test.YtkjimhlpbgeagaaDoorC10
import Derived.Test.YtkjimhlpbgeagaaDoorC11
import Derived.ChangeSame
import Derived.Lib.SmallJoins
/-
  What the functions that a law of this layer reaches answer, part 26. Nothing that was there is written.
-/
namespace Go.Proofs.YtkjimhlpbgeagaaDoor
set_option linter.unusedVariables false
set_option linter.unusedSimpArgs false
section
open Go.RowKit WM
set_option maxRecDepth 100000
set_option maxHeartbeats 8000000 in
theorem psameL_any (x y : LnA) (w : World) (hx : x.Ok w) (hy : y.Ok w) (hbd : ∀ e ∈ x.es, e.e.bs.length ≤ 1000000) : Calls Tryd.prog 22 #[KLn.v x, KLn.v y] w fun e w' => e = .returned (.bool (decide (x.x = y.x))) ∧ Below w.heap.size w w' := by
 have S0 := Ln2.new w x y
 have X1 := LnA.below hx (S0.below.mono (Nat.le_refl _))
 have Y1 := LnA.below hy (S0.below.mono (Nat.le_refl _))
 have HV := Lib.hid (ln_eq x.x y.x)
 have L1 := Lib.hid (load_idM (ln_id (Kind.at_blk S0.a) hx.1) hx.1)
 have L2 := Lib.hid (load_idM (ln_id (Kind.at_blk S0.b) hy.1) hy.1)
 have HQI := Lib.hid (show ∀ X, (Op.equalIn 10000 44 (.agg (bvals x.z)) (.agg (bvals y.z))).run Tryd.prog X = .ok (decide (x.z = y.z)) X from fun X => by
  rw [eq_id hx.2.1 hy.2.1 hx.1 hy.1 X]; congr 1; rw [Bool.eq_iff_iff]; simp)
 have HQS := Lib.hid (fun X => eq_st (n := x.n) (r := x.r) (m := y.n) (s := y.r) X)
 have a1 := ln_c16 (Kind.at_blk S0.a) hx.1
 have a2 := ln_c17 (Kind.at_blk S0.a) hx.1
 have a3 := ln_c18 (Kind.at_blk S0.a) hx.1
 have b1 := ln_c16 (Kind.at_blk S0.b) hy.1
 have b2 := ln_c17 (Kind.at_blk S0.b) hy.1
 have b3 := ln_c18 (Kind.at_blk S0.b) hy.1
 simp only [Nat.zero_add] at a1 a2 a3 b1 b2 b3
 have HC := Lib.hid (eqfE_any x.A y.A x.c y.c x.es y.es _ X1.2.2.2.2 Y1.2.2.2.2 hbd)
 have BB := Lib.hid S0.below
 have hv1 : KLn.v x = .agg (KLn.cs x).toArray := rfl
 have hv2 : KLn.v y = .agg (KLn.cs y).toArray := rfl
 rw [hv1, hv2]
 generalize decide (x.x = y.x) = V at *
 obtain ⟨z1, n1, r1, A1, c1, e1⟩ := x
 obtain ⟨z2, n2, r2, A2, c2, e2⟩ := y
 unfold LnA.x at HV
 dsimp only at a1 a2 a3 b1 b2 b3 L1 L2 HQS HQI HC HV
 generalize (KLn.cs ⟨z1, n1, r1, A1, c1, e1⟩).toArray = Ex at *
 generalize (KLn.cs ⟨z2, n2, r2, A2, c2, e2⟩).toArray = Ey at *
 generalize e1.length = m1 at *
 generalize e2.length = m2 at *
 clear S0 X1 Y1 hv1 hv2 hx hy hbd
 go_enter Tryd.func22, Tryd.ntmps22
 by_cases t1 : z1 = z2
 case neg =>
  have HF := Lib.hid (show V = false by rw [HV.out, decide_eq_false t1]; rfl)
  rw [decide_eq_false t1] at HQI
  clear t1
  go_wp2_with (first | ((with_reducible refine wpList_load_at (o := ⟨some 6, .load 44 (.tmp 5), _, _, _, _⟩) ?e1 44 (.tmp 5) ?e2 ⟨w.heap.size, 0, none⟩ ?e3 _ L1.out ?_); (case e1 => rfl); (case e2 => rfl); (case e3 => rfl)) | ((with_reducible refine wpList_load_at (o := ⟨some 8, .load 44 (.tmp 7), _, _, _, _⟩) ?e1 44 (.tmp 7) ?e2 ⟨(w.heap.size + 1), 0, none⟩ ?e3 _ L2.out ?_); (case e1 => rfl); (case e2 => rfl); (case e3 => rfl)) | ((with_reducible refine wpList_eqlM (o := ⟨some 9, .binOp .eql 44 (.tmp 6) (.tmp 8) 44, _, _, _, _⟩) ?e1 44 (.tmp 6) (.tmp 8) 44 ?e2 ?e3 ?e4 guardIdM (HQI.out _) ?_); (case e1 => rfl); (case e2 => rfl); (case e3 => rfl); (case e4 => rfl)))
  go_ret
  exact ⟨by rw [HF.out]; try rfl, BB.out⟩
 rw [decide_eq_true t1] at HQI
 by_cases t2 : n1 = n2 ∧ r1 = r2
 case neg =>
  have HF := Lib.hid (show V = false by rw [HV.out, decide_eq_false t2]; simp)
  rw [decide_eq_false t2] at HQS
  clear t1 t2
  go_wp2_with (first | ((with_reducible refine wpList_load_at (o := ⟨some 6, .load 44 (.tmp 5), _, _, _, _⟩) ?e1 44 (.tmp 5) ?e2 ⟨w.heap.size, 0, none⟩ ?e3 _ L1.out ?_); (case e1 => rfl); (case e2 => rfl); (case e3 => rfl)) | ((with_reducible refine wpList_load_at (o := ⟨some 8, .load 44 (.tmp 7), _, _, _, _⟩) ?e1 44 (.tmp 7) ?e2 ⟨(w.heap.size + 1), 0, none⟩ ?e3 _ L2.out ?_); (case e1 => rfl); (case e2 => rfl); (case e3 => rfl)) | ((with_reducible refine wpList_eqlM (o := ⟨some 9, .binOp .eql 44 (.tmp 6) (.tmp 8) 44, _, _, _, _⟩) ?e1 44 (.tmp 6) (.tmp 8) 44 ?e2 ?e3 ?e4 guardIdM (HQI.out _) ?_); (case e1 => rfl); (case e2 => rfl); (case e3 => rfl); (case e4 => rfl)) | ((with_reducible refine wpList_eqlM (o := ⟨some 15, .binOp .eql 46 (.tmp 12) (.tmp 14) 46, _, _, _, _⟩) ?e1 46 (.tmp 12) (.tmp 14) 46 ?e2 ?e3 ?e4 guardStM (HQS.out _) ?_); (case e1 => rfl); (case e2 => rfl); (case e3 => rfl); (case e4 => rfl)))
  go_ret
  exact ⟨by rw [HF.out]; try rfl, BB.out⟩
 rw [decide_eq_true t2] at HQS
 have HF := Lib.hid (show V = decide (e1.map (·.e) = e2.map (·.e)) by rw [HV.out, decide_eq_true t1, decide_eq_true t2]; rfl)
 generalize decide (e1.map (·.e) = e2.map (·.e)) = b9 at *
 clear t1 t2
 go_wp2_with (first | ((with_reducible refine wpList_load_at (o := ⟨some 6, .load 44 (.tmp 5), _, _, _, _⟩) ?e1 44 (.tmp 5) ?e2 ⟨w.heap.size, 0, none⟩ ?e3 _ L1.out ?_); (case e1 => rfl); (case e2 => rfl); (case e3 => rfl)) | ((with_reducible refine wpList_load_at (o := ⟨some 8, .load 44 (.tmp 7), _, _, _, _⟩) ?e1 44 (.tmp 7) ?e2 ⟨(w.heap.size + 1), 0, none⟩ ?e3 _ L2.out ?_); (case e1 => rfl); (case e2 => rfl); (case e3 => rfl)) | ((with_reducible refine wpList_eqlM (o := ⟨some 9, .binOp .eql 44 (.tmp 6) (.tmp 8) 44, _, _, _, _⟩) ?e1 44 (.tmp 6) (.tmp 8) 44 ?e2 ?e3 ?e4 guardIdM (HQI.out _) ?_); (case e1 => rfl); (case e2 => rfl); (case e3 => rfl); (case e4 => rfl)) | ((with_reducible refine wpList_eqlM (o := ⟨some 15, .binOp .eql 46 (.tmp 12) (.tmp 14) 46, _, _, _, _⟩) ?e1 46 (.tmp 12) (.tmp 14) 46 ?e2 ?e3 ?e4 guardStM (HQS.out _) ?_); (case e1 => rfl); (case e2 => rfl); (case e3 => rfl); (case e4 => rfl)))
 refine HC.out.mono ?_
 rintro e w4 ⟨rfl, hb4⟩
 have BB := Lib.hid (BB.out.trans (hb4.mono BB.out.size))
 clear hb4
 go_wp2
 go_ret
 exact ⟨by rw [HF.out]; try rfl, BB.out⟩
set_option maxHeartbeats 8000000 in
theorem eqfL_any (A B : Option Addr) (c d : Nat) (xs ys : List LnA) (w : World) (h1 : KLn.row w A c xs) (h2 : KLn.row w B d ys) (hbd : ∀ e ∈ xs, ∀ y ∈ e.es, y.e.bs.length ≤ 1000000) : Calls Tryd.prog 21 #[.slice A xs.length c, .slice B ys.length d, .func (.func 22) #[] #[]] w fun e w' => e = .returned (.bool (decide (xs.map (·.x) = ys.map (·.x)))) ∧ Below w.heap.size w w' := by
 have HB := Lib.hid (Below.refl w.heap.size w)
 have R1 := Lib.hid (fun h => ln_row h1 h)
 have R2 := Lib.hid (fun h => ln_row h2 h)
 have O1 := Lib.hid (fun k (hk : k < xs.length) => show LnA.Ok w (xs.getD k lnA0) from Kind.row_ok h1 hk)
 have O2 := Lib.hid (fun k (hk : k < ys.length) => show LnA.Ok w (ys.getD k lnA0) from Kind.row_ok h2 hk)
 have HBD := Lib.hid (fun k (hk : k < xs.length) => hbd (xs.getD k lnA0) (by rw [List.getD_eq_getElem?_getD, List.getElem?_eq_getElem hk]; exact List.getElem_mem _))
 have HV := Lib.hid (show decide (xs.map (·.x) = ys.map (·.x)) = decide ((xs.map (·.x)).drop 0 = (ys.map (·.x)).drop 0) from rfl)
 have HNE : Hid (¬ xs.length = ys.length → decide (xs.map (·.x) = ys.map (·.x)) = false) := Lib.hid (fun hne => decide_eq_false (fun e => hne (by have := congrArg List.length e; simpa using this)))
 have hc1 := h1.1
 have hc2 := h2.1
 have hm1 := h1.2.1
 have hm2 := h2.2.1
 simp only [maxLen] at hm1 hm2
 have hz := zeroLn
 rw [show KLn.v lnA0 = .agg (KLn.cs lnA0).toArray from rfl] at hz
 have hzne : ¬ (KLn.cs lnA0).toArray = #[] := by decide
 have hzs := lnA0_size
 generalize decide (xs.map (·.x) = ys.map (·.x)) = V at *
 clear h1 h2 hbd
 by_cases hl2 : xs.length = ys.length
 ·clear HNE
  generalize hn1 : xs.length = n at *
  generalize hn2 : ys.length = n2 at *
  subst hl2
  have HL1 := Lib.hid hn1
  have HL2 := Lib.hid hn2
  clear hn1 hn2
  go_enter Tryd.func21, Tryd.ntmps21
  go_wp2
  go_loopw [17] (fun i wr => ∃ k : Nat, k ≤ n ∧ i = .int .i64 k ∧ Below w.heap.size w wr ∧ V = decide ((xs.map (·.x)).drop k = (ys.map (·.x)).drop k)) (fun i _ => n - (intOf i).toNat)
  case atStart => exact ⟨0, Nat.zero_le _, rfl, HB.out, HV.out⟩
  case round =>
   obtain ⟨k, hk, rfl, hb, hf⟩ := hrel
   have BB := Lib.hid hb
   by_cases hlt : k < n
   ·have t1 : (k : Int) < (n : Int) := by omega
    obtain ⟨b1, off1, hA1, hb1w, hx1, hi1⟩ := R1.out (by omega)
    obtain ⟨b2, off2, hA2, hb2w, hx2, hi2⟩ := R2.out (by omega)
    have ix1 := hi1 k hlt k rfl
    have ix2 := hi2 k hlt k rfl
    rw [← hA1] at ix1
    rw [← hA2] at ix2
    rw [drop_map9 (·.x) lnA0 (xs := xs) (by rw [HL1.out]; exact hlt), drop_map9 (·.x) lnA0 (xs := ys) (by rw [HL2.out]; exact hlt)] at hf
    have okx : LnA.Ok wr (xs.getD k lnA0) := LnA.below (O1.out k hlt) (hb.mono (Nat.le_refl _))
    have oky : LnA.Ok wr (ys.getD k lnA0) := LnA.below (O2.out k hlt) (hb.mono (Nat.le_refl _))
    have LX := Lib.hid (load_ln (Kind.at_same (hx1 k hlt) (hb.block b1 hb1w)) okx)
    have LYW := Lib.hid (fun w9 (h9 : Below wr.heap.size wr w9) => load_ln (Kind.at_same (hx2 k hlt) ((hb.trans (h9.mono hb.size)).block b2 hb2w)) (LnA.below oky h9))
    have HLX := Lib.hid (HBD.out k hlt)
    generalize xs.getD k lnA0 = x at *
    generalize ys.getD k lnA0 = y at *
    generalize off1 + k * 19 = o1 at *
    generalize off2 + k * 19 = o2 at *
    have hb1 : Below wr.heap.size wr (wr.alloc (.cells (KLn.cs x).toArray 49)) := (Below.refl _ _).alloc (Nat.le_refl _) _
    have hb2 : Below wr.heap.size wr ((wr.alloc (.cells (KLn.cs x).toArray 49)).alloc (.cells (KLn.cs y).toArray 49)) := hb1.alloc hb1.size _
    have LY := Lib.hid (LYW.out _ hb1)
    have kx := Kind.blk_old (Kind.blk_new (K := KLn) wr x 49) (.cells (KLn.cs y).toArray 49)
    have ky := Kind.blk_new (K := KLn) (wr.alloc (.cells (KLn.cs x).toArray 49)) y 49
    rw [World.size_alloc] at ky
    have L27 := Lib.hid (load_ln (Kind.at_blk kx) (LnA.below okx hb2))
    have L28 := Lib.hid (load_ln (Kind.at_blk ky) (LnA.below oky hb2))
    have HC := Lib.hid (psameL_any x y _ (LnA.below okx hb2) (LnA.below oky hb2) HLX.out)
    rw [show KLn.v x = .agg (KLn.cs x).toArray from rfl] at LX L27
    rw [show KLn.v y = .agg (KLn.cs y).toArray from rfl] at LY L28
    rw [show KLn.v x = .agg (KLn.cs x).toArray from rfl, show KLn.v y = .agg (KLn.cs y).toArray from rfl] at HC
    have SZX := Lib.hid (ln_size okx)
    have SZY := Lib.hid (ln_size oky)
    have SQX := Lib.hid (show (KLn.cs lnA0).toArray.size = (KLn.cs x).toArray.size by rw [lnA0_size, List.size_toArray]; exact (LnA.len okx).symm)
    have SQY := Lib.hid (show (KLn.cs lnA0).toArray.size = (KLn.cs y).toArray.size by rw [lnA0_size, List.size_toArray]; exact (LnA.len oky).symm)
    have SOX := Lib.hid (ln_ones x)
    have SOY := Lib.hid (ln_ones y)
    have BB := Lib.hid (hb.trans (hb2.mono hb.size))
    have HF := Lib.hid (show V = (decide (x.x = y.x) && decide ((xs.map (·.x)).drop (k + 1) = (ys.map (·.x)).drop (k + 1))) by rw [hf, Bool.eq_iff_iff]; simp)
    generalize (KLn.cs x).toArray = Ex at *
    generalize (KLn.cs y).toArray = Ey at *
    generalize hd : decide (x.x = y.x) = b9 at *
    clear hx1 hx2 hi1 hi2 hA1 hA2 hf hb hb1w hb2w okx oky hb1 hb2 kx ky hd LYW
    cases b9
    ·have HF := Lib.hid (show V = false from HF.out)
     go_wp2_with (first | ((with_reducible refine wpList_load_at (o := ⟨some 21, .load 49 (.tmp 20), _, _, _, _⟩) ?e1 49 (.tmp 20) ?e2 ⟨b1, o1, none⟩ ?e3 _ LX.out ?_); (case e1 => rfl); (case e2 => rfl); (case e3 => rfl)) | ((with_reducible refine wpList_store_new (o := ⟨none, .store 49 (.tmp 8) (.tmp 21), _, _, _, _⟩) ?e1 49 (.tmp 8) (.tmp 21) ?e2 ?e3 (KLn.cs lnA0).toArray Ex ?e4 SZX.out SQX.out SOX.out ?_); (case e1 => rfl); (case e2 => rfl); (case e3 => (first | rfl | exact congrArg (fun q => Value.pointer (some ⟨q, 0, none⟩)) (World.size_alloc _ _).symm)); (case e4 => rfl)) | ((with_reducible refine wpList_load_at (o := ⟨some 25, .load 49 (.tmp 24), _, _, _, _⟩) ?e1 49 (.tmp 24) ?e2 ⟨b2, o2, none⟩ ?e3 _ LY.out ?_); (case e1 => rfl); (case e2 => rfl); (case e3 => rfl)) | ((with_reducible refine wpList_store_new (o := ⟨none, .store 49 (.tmp 9) (.tmp 25), _, _, _, _⟩) ?e1 49 (.tmp 9) (.tmp 25) ?e2 ?e3 (KLn.cs lnA0).toArray Ey ?e4 SZY.out SQY.out SOY.out ?_); (case e1 => rfl); (case e2 => rfl); (case e3 => (first | rfl | exact congrArg (fun q => Value.pointer (some ⟨q, 0, none⟩)) (World.size_alloc _ _).symm)); (case e4 => rfl)) | ((with_reducible refine wpList_load_at (o := ⟨some 27, .load 49 (.tmp 8), _, _, _, _⟩) ?e1 49 (.tmp 8) ?e2 ⟨wr.heap.size, 0, none⟩ ?e3 _ L27.out ?_); (case e1 => rfl); (case e2 => rfl); (case e3 => rfl)) | ((with_reducible refine wpList_load_at (o := ⟨some 28, .load 49 (.tmp 9), _, _, _, _⟩) ?e1 49 (.tmp 9) ?e2 ⟨(wr.heap.size + 1), 0, none⟩ ?e3 _ L28.out ?_); (case e1 => rfl); (case e2 => rfl); (case e3 => rfl)))
     refine HC.out.mono ?_
     rintro e w4 ⟨rfl, hb4⟩
     have BB := Lib.hid (BB.out.trans (hb4.mono BB.out.size))
     clear hb4
     go_wp2
     go_ret
     exact ⟨by rw [HF.out]; try rfl, BB.out⟩
    ·have HF := Lib.hid (show V = decide ((xs.map (·.x)).drop (k + 1) = (ys.map (·.x)).drop (k + 1)) from HF.out)
     go_wp2_with (first | ((with_reducible refine wpList_load_at (o := ⟨some 21, .load 49 (.tmp 20), _, _, _, _⟩) ?e1 49 (.tmp 20) ?e2 ⟨b1, o1, none⟩ ?e3 _ LX.out ?_); (case e1 => rfl); (case e2 => rfl); (case e3 => rfl)) | ((with_reducible refine wpList_store_new (o := ⟨none, .store 49 (.tmp 8) (.tmp 21), _, _, _, _⟩) ?e1 49 (.tmp 8) (.tmp 21) ?e2 ?e3 (KLn.cs lnA0).toArray Ex ?e4 SZX.out SQX.out SOX.out ?_); (case e1 => rfl); (case e2 => rfl); (case e3 => (first | rfl | exact congrArg (fun q => Value.pointer (some ⟨q, 0, none⟩)) (World.size_alloc _ _).symm)); (case e4 => rfl)) | ((with_reducible refine wpList_load_at (o := ⟨some 25, .load 49 (.tmp 24), _, _, _, _⟩) ?e1 49 (.tmp 24) ?e2 ⟨b2, o2, none⟩ ?e3 _ LY.out ?_); (case e1 => rfl); (case e2 => rfl); (case e3 => rfl)) | ((with_reducible refine wpList_store_new (o := ⟨none, .store 49 (.tmp 9) (.tmp 25), _, _, _, _⟩) ?e1 49 (.tmp 9) (.tmp 25) ?e2 ?e3 (KLn.cs lnA0).toArray Ey ?e4 SZY.out SQY.out SOY.out ?_); (case e1 => rfl); (case e2 => rfl); (case e3 => (first | rfl | exact congrArg (fun q => Value.pointer (some ⟨q, 0, none⟩)) (World.size_alloc _ _).symm)); (case e4 => rfl)) | ((with_reducible refine wpList_load_at (o := ⟨some 27, .load 49 (.tmp 8), _, _, _, _⟩) ?e1 49 (.tmp 8) ?e2 ⟨wr.heap.size, 0, none⟩ ?e3 _ L27.out ?_); (case e1 => rfl); (case e2 => rfl); (case e3 => rfl)) | ((with_reducible refine wpList_load_at (o := ⟨some 28, .load 49 (.tmp 9), _, _, _, _⟩) ?e1 49 (.tmp 9) ?e2 ⟨(wr.heap.size + 1), 0, none⟩ ?e3 _ L28.out ?_); (case e1 => rfl); (case e2 => rfl); (case e3 => rfl)))
     refine HC.out.mono ?_
     rintro e w4 ⟨rfl, hb4⟩
     have BB := Lib.hid (BB.out.trans (hb4.mono BB.out.size))
     clear hb4
     go_wp2
     go_roundw
     case rel => exact ⟨k + 1, by omega, by go_num, BB.out, HF.out⟩
     case measure => simp [intOf]; omega
   ·obtain rfl : k = n := by omega
    have t1 : ¬ (k : Int) < (k : Int) := by omega
    have HF := Lib.hid (show V = true by rw [hf, List.drop_eq_nil_of_le (by rw [List.length_map, HL1.out]; exact Nat.le_refl _), List.drop_eq_nil_of_le (by rw [List.length_map, HL2.out]; exact Nat.le_refl _)]; simp)
    clear hf hb
    go_wp2
    go_ret
    exact ⟨by rw [HF.out]; try rfl, BB.out⟩
 ·have HF := Lib.hid (HNE.out hl2)
  have hne : ¬ (xs.length : Int) = (ys.length : Int) := by omega
  have BB := HB
  generalize xs.length = n1 at *
  generalize ys.length = n2 at *
  go_enter Tryd.func21, Tryd.ntmps21
  go_wp2
  go_ret
  exact ⟨by rw [HF.out]; try rfl, BB.out⟩
set_option maxHeartbeats 8000000 in
theorem psame12_any (a b : MnA) (w : World) (ha : a.Ok w) (hb : b.Ok w) (hbd : ∀ x ∈ a.ls, ∀ y ∈ x.es, y.e.bs.length ≤ 1000000) : Calls Tryd.prog 11 #[a.v, b.v] w fun e w' => e = .returned (.bool (decide (a.m = b.m))) ∧ Below w.heap.size w w' := by
 have BB := Lib.hid (((Below.refl w.heap.size w).alloc (Nat.le_refl _) (.cells a.cs.toArray 26)).alloc (by rw [World.size_alloc]; omega) (.cells b.cs.toArray 26))
 have S1 := (MnAt.new w a).below ((Below.refl _ _).alloc (Nat.le_refl _) (.cells b.cs.toArray 26)) (MnAt.new w a).lt
 have S2 := MnAt.new (w.alloc (.cells a.cs.toArray 26)) b
 rw [World.size_alloc] at S2
 have HA1 := MnA.below ha (BB.out.mono (Nat.le_refl _))
 have HB1 := MnA.below hb (BB.out.mono (Nat.le_refl _))
 have HV := Lib.hid (show decide (a.m = b.m) = (decide (a.base = b.base) && decide (a.ls.map (·.x) = b.ls.map (·.x))) by unfold MnA.m; rw [Bool.eq_iff_iff]; simp)
 have L1 := Lib.hid (load_dig (S1.dig ha.1) ha.1)
 have L2 := Lib.hid (load_dig (S2.dig hb.1) hb.1)
 have a3 := S1.c32 ha.1
 have b3 := S2.c32 hb.1
 have HQD := Lib.hid (show ∀ X, (Op.equalIn 10000 23 (.agg (bvals a.base)) (.agg (bvals b.base))).run Tryd.prog X = .ok (decide (a.base = b.base)) X from fun X => by
  rw [eq_dig ha.2.1 hb.2.1 ha.1 hb.1 X]; congr 1; rw [Bool.eq_iff_iff]; simp)
 have HC := Lib.hid (eqfL_any a.A b.A a.c b.c a.ls b.ls _ HA1.2.2 HB1.2.2 hbd)
 have hv1 : a.v = .agg a.cs.toArray := rfl
 have hv2 : b.v = .agg b.cs.toArray := rfl
 rw [hv1, hv2]
 generalize decide (a.m = b.m) = V at *
 generalize a.cs.toArray = Ex at *
 generalize b.cs.toArray = Ey at *
 obtain ⟨z1, A1, c1, e1⟩ := a
 obtain ⟨z2, A2, c2, e2⟩ := b
 dsimp only at a3 b3 L1 L2 HQD HC HV
 generalize e1.length = m1 at *
 generalize e2.length = m2 at *
 clear S1 S2 HA1 HB1 hv1 hv2 ha hb hbd
 go_enter Tryd.func11, Tryd.ntmps11
 by_cases t1 : z1 = z2
 case neg =>
  have HF := Lib.hid (show V = false by rw [HV.out, decide_eq_false t1]; rfl)
  rw [decide_eq_false t1] at HQD
  clear t1
  go_wp2_with (first | ((with_reducible refine wpList_load_at (o := ⟨some 6, .load 23 (.tmp 5), _, _, _, _⟩) ?e1 23 (.tmp 5) ?e2 ⟨w.heap.size, 0, none⟩ ?e3 _ L1.out ?_); (case e1 => rfl); (case e2 => rfl); (case e3 => rfl)) | ((with_reducible refine wpList_load_at (o := ⟨some 8, .load 23 (.tmp 7), _, _, _, _⟩) ?e1 23 (.tmp 7) ?e2 ⟨(w.heap.size + 1), 0, none⟩ ?e3 _ L2.out ?_); (case e1 => rfl); (case e2 => rfl); (case e3 => rfl)) | ((with_reducible refine wpList_eqlM (o := ⟨some 9, .binOp .eql 23 (.tmp 6) (.tmp 8) 23, _, _, _, _⟩) ?e1 23 (.tmp 6) (.tmp 8) 23 ?e2 ?e3 ?e4 guardDig (HQD.out _) ?_); (case e1 => rfl); (case e2 => rfl); (case e3 => rfl); (case e4 => rfl)))
  go_ret
  exact ⟨by rw [HF.out]; try rfl, BB.out⟩
 rw [decide_eq_true t1] at HQD
 have HF := Lib.hid (show V = decide (e1.map (·.x) = e2.map (·.x)) by rw [HV.out, decide_eq_true t1]; rfl)
 generalize decide (e1.map (·.x) = e2.map (·.x)) = b9 at *
 clear t1
 go_wp2_with (first | ((with_reducible refine wpList_load_at (o := ⟨some 6, .load 23 (.tmp 5), _, _, _, _⟩) ?e1 23 (.tmp 5) ?e2 ⟨w.heap.size, 0, none⟩ ?e3 _ L1.out ?_); (case e1 => rfl); (case e2 => rfl); (case e3 => rfl)) | ((with_reducible refine wpList_load_at (o := ⟨some 8, .load 23 (.tmp 7), _, _, _, _⟩) ?e1 23 (.tmp 7) ?e2 ⟨(w.heap.size + 1), 0, none⟩ ?e3 _ L2.out ?_); (case e1 => rfl); (case e2 => rfl); (case e3 => rfl)) | ((with_reducible refine wpList_eqlM (o := ⟨some 9, .binOp .eql 23 (.tmp 6) (.tmp 8) 23, _, _, _, _⟩) ?e1 23 (.tmp 6) (.tmp 8) 23 ?e2 ?e3 ?e4 guardDig (HQD.out _) ?_); (case e1 => rfl); (case e2 => rfl); (case e3 => rfl); (case e4 => rfl)))
 refine HC.out.mono ?_
 rintro e w4 ⟨rfl, hb4⟩
 have BB := Lib.hid (BB.out.trans (hb4.mono BB.out.size))
 clear hb4
 go_wp2
 go_ret
 exact ⟨by rw [HF.out]; try rfl, BB.out⟩
end
section
open Go.RowKit Go.Shelf WM
set_option maxRecDepth 100000
theorem build_bookM (w : World) : (Instr.build 42 #[]).run Tryd.prog w = .ok (.agg #[.slice none 0 0]) w := run_build w _ _ _ (by kernel_rfl)
theorem bbs_nilM : bbs [] = [0] := rfl
set_option maxHeartbeats 16000000 in
theorem mcAwake (w : World) (hlaid : Laid w) : Calls Tryd.prog 6 #[] w fun e w' => e = .returned (.bool true) ∧ Below w.heap.size w w' := by
 have HLA := Lib.hid (fun (X : World) (hX : Below w.heap.size w X) => hlaid.below hX (Nat.le_refl _))
 have HO1 := pof12_any bk0 w hlaid (BkAt.zero w)
 unfold MofPost mofB at HO1
 rw [show bk0.rs = [] from rfl, bbs_nilM] at HO1
 simp only [show bmay [] = true from rfl, if_true, Option.isSome_some, Option.getD_some] at HO1
 rw [show mof SH.sum (SH.sum [0]) [] = ⟨SH.sum [0], []⟩ from rfl] at HO1
 have HO1 := Lib.hid (show Calls Tryd.prog 12 #[.agg #[.slice none 0 0]] w _ from HO1)
 have HDL := Lib.hid (SH.sum_len [0])
 have HDB := Lib.hid (SH.sum_bytes [0])
 generalize SH.sum [0] = D at *
 have H0M := Lib.hid (show mmay ⟨D, []⟩ = true from rfl)
 have H0G := Lib.hid (show mnGood ⟨D, []⟩ from ⟨HDL.out, HDB.out, fun x hx => by cases hx⟩)
 have h0w := mmay_wf H0M.out H0G.out
 have HGE := Lib.hid (mget_put H0M.out h0w)
 have HZB := Lib.hid (pack_bytes (k := 1) (by decide) (by decide) (mnB_ok h0w).1)
 have HZ39 := Lib.hid (show (packL 1 (mnB ⟨D, []⟩)).length = 39 by rw [pack_len, show (mnB ⟨D, []⟩).length = 33 by unfold mnB; rw [List.length_append, HDL.out]; show 32 + (enc ((0 : Nat) : Int) ++ ([] : List Int)).length = 33; decide]; rfl)
 obtain ⟨Z, hZ⟩ : ∃ Z, packL 1 (mnB ⟨D, []⟩) = Z := ⟨_, rfl⟩
 have HZ := Lib.hid hZ
 rw [hZ] at HGE HZB HZ39
 have hzb : ∀ w : World, (zeroValue 42).run Tryd.prog w = .ok (.agg #[.slice none 0 0]) w := zeroBook
 have hb0 := build_bookM
 have hzm := zeroMn
 rw [show mnA0.v = .agg mnA0.cs.toArray from rfl] at hzm
 have hzne1 : ¬ mnA0.cs.toArray = #[] := by decide
 clear hlaid h0w hZ
 go_enter Tryd.func6, Tryd.ntmps6
 have B1 := Lib.hid (Below.refl w.heap.size w)
 go_wp2_with fail
 refine HO1.out.mono ?_
 rintro e w5 ⟨d2, rfl, hd3, hk4, hb6⟩
 have B7 := Lib.hid (B1.out.trans (hb6.mono B1.out.size))
 clear hb6
 have E8 := Lib.hid (hd3)
 have F9 := Lib.hid (hk4)
 clear hd3 hk4
 have HMM := Lib.hid (show mmay d2.m = true by rw [E8.out]; exact H0M.out)
 have HMG := Lib.hid (show mnGood d2.m by rw [E8.out]; exact H0G.out)
 have HMZ := Lib.hid (show packL 1 (mnB d2.m) = Z by rw [E8.out]; exact HZ.out)
 have SZ9 := Lib.hid (mn_size F9.out)
 have SQ9 := Lib.hid (show mnA0.cs.toArray.size = d2.cs.toArray.size by rw [mnA0_size, List.size_toArray]; exact (MnA.len F9.out).symm)
 have SO9 := Lib.hid (mn_ones d2)
 have L11 := Lib.hid (MnA.len F9.out)
 have hb12 := (Below.refl w5.heap.size w5).alloc (Nat.le_refl _) (.cells d2.cs.toArray 26)
 have T13 := Lib.hid (RowAt.new w5 d2.cs.toArray 26)
 have F14 := Lib.hid (F9.out.below hb12 (Nat.le_refl _))
 have B15 := Lib.hid (B7.out.trans (hb12.mono B7.out.size))
 clear hb12
 have M20 := Lib.hid (T13.out.mn L11.out)
 have C21 := Lib.hid (put13_any d2 (w5.alloc (.cells d2.cs.toArray 26)) F14.out HMG.out)
 unfold MPutPost at C21
 simp only [HMM.out, if_true] at C21
 unfold GivesT at C21
 rw [HMZ.out] at C21
 go_wp2_with (first | ((with_reducible refine wpList_load_at (o := ⟨some 13, .load 26 (.tmp 1), _, _, _, _⟩) ?e1 26 (.tmp 1) ?e2 ⟨w5.heap.size, 0, none⟩ ?e3 _ M20.out ?_); (case e1 => rfl); (case e2 => rfl); (case e3 => rfl)) | ((with_reducible refine wpList_store_new (o := ⟨none, .store 26 (.tmp 1) (.tmp 10), _, _, _, _⟩) ?e1 26 (.tmp 1) (.tmp 10) ?e2 ?e3 mnA0.cs.toArray d2.cs.toArray ?e4 SZ9.out SQ9.out SO9.out ?_); (case e1 => rfl); (case e2 => rfl); (case e3 => (first | rfl | exact congrArg (fun q => Value.pointer (some ⟨q, 0, none⟩)) (World.size_alloc _ _).symm)); (case e4 => rfl)))
 refine C21.out.mono ?_
 rintro e w22 ⟨A1, n1, c1, rfl, hn16, h17, h18, ho19, hb23⟩
 have T24 := Lib.hid (T13.out.below hb23 T13.out.lt)
 have F25 := Lib.hid (F14.out.below hb23 (Nat.le_refl _))
 have B26 := Lib.hid (B15.out.trans (hb23.mono B15.out.size))
 clear hb23
 have Y27 := Lib.hid (BsAt.own ho19)
 have N28 := Lib.hid (hn16)
 have N29 := Lib.hid (And.intro h17 h18)
 clear hn16 h17 h18 ho19
 obtain rfl : n1 = 39 := N28.out.symm.trans HZ39.out
 have C33 := Lib.hid (get13_any A1 39 c1 Z w22 Y27.out.1 (Nat.le_refl _) N28.out HZB.out N29.out.1 N29.out.2)
 unfold MGetPost at C33
 rw [HGE.out] at C33
 try dsimp only at C33
 go_wp2_with fail
 refine C33.out.mono ?_
 rintro e w34 ⟨d30, rfl, hd31, hk32, hb35⟩
 have T36 := Lib.hid (T24.out.below hb35 T24.out.lt)
 have F37 := Lib.hid (F25.out.below hb35 (Nat.le_refl _))
 have F38 := Lib.hid (Y27.out.below hb35 (Nat.le_refl _))
 have B39 := Lib.hid (B26.out.trans (hb35.mono B26.out.size))
 clear hb35
 have E40 := Lib.hid (hd31)
 have F41 := Lib.hid (hk32)
 clear hd31 hk32
 have SZ41 := Lib.hid (mn_size F41.out)
 have SQ41 := Lib.hid (show mnA0.cs.toArray.size = d30.cs.toArray.size by rw [mnA0_size, List.size_toArray]; exact (MnA.len F41.out).symm)
 have SO41 := Lib.hid (mn_ones d30)
 have L43 := Lib.hid (MnA.len F41.out)
 have hb44 := (Below.refl w34.heap.size w34).alloc (Nat.le_refl _) (.cells d30.cs.toArray 26)
 have T45 := Lib.hid (RowAt.new w34 d30.cs.toArray 26)
 have T46 := Lib.hid (T36.out.below hb44 T36.out.lt)
 have F47 := Lib.hid (F37.out.below hb44 (Nat.le_refl _))
 have F48 := Lib.hid (F38.out.below hb44 (Nat.le_refl _))
 have F49 := Lib.hid (F41.out.below hb44 (Nat.le_refl _))
 have B50 := Lib.hid (B39.out.trans (hb44.mono B39.out.size))
 clear hb44
 have HEQ := Lib.hid (show decide (d2.m = d30.m) = true by rw [E8.out, E40.out]; exact decide_eq_true rfl)
 have HBD := Lib.hid (show ∀ x ∈ d2.ls, ∀ y ∈ x.es, y.e.bs.length ≤ 1000000 from fun x hx => by have h := congrArg Mn.ls E8.out; have h2 : d2.ls.map (·.x) = [] := h; rw [List.map_eq_nil_iff.1 h2] at hx; cases hx)
 have M51 := Lib.hid (T46.out.mn L11.out)
 have M52 := Lib.hid (T45.out.mn L43.out)
 have C53 := Lib.hid (show Calls Tryd.prog 11 #[.agg d2.cs.toArray, .agg d30.cs.toArray] _ _ from psame12_any d2 d30 (w34.alloc (.cells d30.cs.toArray 26)) F47.out F49.out HBD.out)
 rw [HEQ.out] at C53
 go_wp2_with (first | ((with_reducible refine wpList_load_at (o := ⟨some 33, .load 26 (.tmp 1), _, _, _, _⟩) ?e1 26 (.tmp 1) ?e2 ⟨w5.heap.size, 0, none⟩ ?e3 _ M51.out ?_); (case e1 => rfl); (case e2 => rfl); (case e3 => rfl)) | ((with_reducible refine wpList_load_at (o := ⟨some 34, .load 26 (.tmp 5), _, _, _, _⟩) ?e1 26 (.tmp 5) ?e2 ⟨w34.heap.size, 0, none⟩ ?e3 _ M52.out ?_); (case e1 => rfl); (case e2 => rfl); (case e3 => rfl)) | ((with_reducible refine wpList_store_new (o := ⟨none, .store 26 (.tmp 5) (.tmp 20), _, _, _, _⟩) ?e1 26 (.tmp 5) (.tmp 20) ?e2 ?e3 mnA0.cs.toArray d30.cs.toArray ?e4 SZ41.out SQ41.out SO41.out ?_); (case e1 => rfl); (case e2 => rfl); (case e3 => (first | rfl | exact congrArg (fun q => Value.pointer (some ⟨q, 0, none⟩)) (World.size_alloc _ _).symm)); (case e4 => rfl)))
 refine C53.out.mono ?_
 rintro e w54 ⟨rfl, hb55⟩
 have T56 := Lib.hid (T46.out.below hb55 T46.out.lt)
 have T57 := Lib.hid (T45.out.below hb55 T45.out.lt)
 have F58 := Lib.hid (F47.out.below hb55 (Nat.le_refl _))
 have F59 := Lib.hid (F48.out.below hb55 (Nat.le_refl _))
 have F60 := Lib.hid (F49.out.below hb55 (Nat.le_refl _))
 have B61 := Lib.hid (B50.out.trans (hb55.mono B50.out.size))
 clear hb55
 go_wp2
 go_ret
 exact ⟨rfl, B61.out⟩
end
section
open Go.ChangeShapes Go.WideShapes Go.ChangeAt Go.RowKit Go.Deep WM
set_option maxRecDepth 40000
section
variable {H : Type} {enc : TypeId × Value → H} {W : World} {P : Program}
theorem open_rowK {α : Type} (K : Kind α) {ts te : TypeId} (ht : P.underlying ts = some (.slice te)) (hk : P.cellsOf te = K.n)
  (hel : ∀ {fuel : Nat} {l : List Value} {x : DataW H × List MemPlace}, l.length = K.n → DataW.trod enc P W 0 (fun _ => true) true fuel te l = some x → ∃ e : α, l = K.cs e ∧ K.ok W e)
  {fuel : Nat} {A : Option Addr} {len c : Nat} {x : DataW H × List MemPlace} (h : DataW.trod enc P W 0 (fun _ => true) true fuel ts [.slice A len c] = some x) : ∃ xs : List α, xs.length = len ∧ K.row W A c xs := by
 rcases open_slice ht h with ⟨hcs, _⟩ | ⟨ad, len', cap', m, n, D, Pl, hcs, _, hl, hm, hmm, _, hall⟩
 ·simp at hcs
  obtain ⟨rfl, rfl, rfl⟩ := hcs
  exact ⟨[], rfl, Kind.row_nil _ _ _ (by decide) (fun _ => rfl)⟩
 ·simp at hcs
  obtain ⟨rfl, rfl, rfl⟩ := hcs
  have key : ∀ i, ∃ e : α, i < len → K.ok W e ∧ ∀ j, j < K.n → W.cell? (ad.add (i * K.n + j)) = (K.cs e)[j]? := fun i => by
   by_cases hi : i < len
   ·obtain ⟨us, hc, hd⟩ := hall i (by rw [hmm]; simp; omega)
    rw [hk] at hc
    obtain ⟨_, hlen, hat⟩ := World.cells?_some hc
    obtain ⟨e, he, hok⟩ := hel hlen hd
    refine ⟨e, fun _ => ⟨hok, fun j hj => ?_⟩⟩
    have := hat j hj
    rw [add_add] at this
    rw [this, he]
   ·exact ⟨K.d, fun h => absurd h hi⟩
  obtain ⟨F, hF⟩ : ∃ F : Nat → α, ∀ i, i < len → K.ok W (F i) ∧ ∀ j, j < K.n → W.cell? (ad.add (i * K.n + j)) = (K.cs (F i))[j]? := ⟨fun i => (key i).choose, fun i hi => (key i).choose_spec hi⟩
  clear key
  have hln : ((List.range len).map F).length = len := by simp
  have hg : ∀ i, i < len → ((List.range len).map F).getD i K.d = F i := fun i hi => by simp [List.getD, hi]
  refine ⟨(List.range len).map F, hln, by rw [hln]; exact hl, hm, (fun h => by cases h), fun h0 => ?_, fun e he => ?_⟩
  ·rw [hln] at h0
   obtain ⟨b, off, spot⟩ := ad
   obtain ⟨h1, h2⟩ := hF 0 h0
   have h3 := h2 0 K.pos
   obtain ⟨u, hu⟩ : ∃ u, (K.cs (F 0))[0]? = some u := ⟨_, List.getElem?_eq_getElem (by rw [K.len h1]; exact K.pos)⟩
   rw [hu] at h3
   have hspot : spot = none := by simpa [Addr.add] using World.cell?_spot h3
   subst hspot
   have hlt : b < W.heap.size := by
    rcases Nat.lt_or_ge b W.heap.size with h4 | h4
    ·exact h4
    ·rw [Addr.add_lit, World.cell?] at h3
     rw [Array.getElem?_eq_none h4] at h3
     cases h3
   refine ⟨b, off, rfl, hlt, fun i hi j hj => ?_⟩
   rw [hln] at hi
   rw [hg i hi]
   have := (hF i hi).2 j hj
   rw [Addr.add_lit] at this
   rw [Nat.add_assoc]
   exact this
  ·obtain ⟨i, hi, rfl⟩ := List.mem_map.1 he
   exact (hF i (by simpa using hi)).1
theorem bytes_trod {base : Nat} {spare : Nat → Bool} {held : Bool} {t e : TypeId} {n : Nat} (ht : P.underlying t = some (.array n e)) (he : P.underlying e = some (.int .u8)) (ce : P.cellsOf e = 1) (ct : P.cellsOf t = n)
  {fuel : Nat} {cs : List Value} {x : DataW H × List MemPlace} (hf : DataW.trod enc P W base spare held fuel t cs = some x) : ∃ z : List Int, cs = z.map (Value.int .u8) ∧ z.length = n ∧ AllBytes z := by
 obtain ⟨ys, m, rfl, hx, hcl, hyl, hall⟩ := DataW.trod_array ht hf
 have hlen : cs.length = n := by rw [hcl, ct]
 have key : ∀ (i : Nat) (hi : i < cs.length), ∃ n : Int, cs[i] = .int .u8 n ∧ 0 ≤ n ∧ n ≤ 255 := fun i hi => by
  have h1 := hall i (by omega)
  rw [ce, Nat.mul_one, List.getElem?_eq_getElem (by omega)] at h1
  obtain ⟨n, hc, _, hw⟩ := DataW.trod_int he h1
  refine ⟨n, ?_, (bounds_u8 hw).1, (bounds_u8 hw).2⟩
  have h2 := congrArg (fun l => l[0]?) hc
  have h3 : cs[i]? = some (.int .u8 n) := by simpa [Value.cells, List.getElem?_take, List.getElem?_drop] using h2
  exact (List.getElem?_eq_some_iff.1 h3).2
 refine ⟨cs.map intOf, ?_, by rw [List.length_map, hlen], fun z hz => ?_⟩
 ·rw [List.map_map]
  apply List.ext_getElem
  ·simp
  ·intro i h1 h2
   obtain ⟨n, hn, _⟩ := key i h1
   simp only [List.getElem_map, Function.comp]
   rw [hn]
   rfl
 ·obtain ⟨v, hv, rfl⟩ := List.mem_map.1 hz
  obtain ⟨i, hi, rfl⟩ := List.getElem_of_mem hv
  obtain ⟨n, hn, h0, h1⟩ := key i hi
  rw [hn]
  exact ⟨h0, h1⟩
end
end
section
open Go.ChangeShapes Go.WideShapes Go.ChangeAt Go.RowKit Go.Deep WM
set_option maxRecDepth 40000
section
variable {H : Type} {enc : TypeId × Value → H} {W : World}
theorem sig_trod {base : Nat} {spare : Nat → Bool} {held : Bool} {fuel : Nat} {l : List Value} {x : DataW H × List MemPlace} (hl : l.length = 33) (hf : DataW.trod enc Tryd.prog W base spare held fuel 107 l = some x) :
  ∃ e : Sg, l = KSig.cs e ∧ KSig.ok W e := by
 have k1 : Tryd.prog.cellsOf 81 = 1 := by kernel_rfl
 have k32 : Tryd.prog.cellsOf 23 = 32 := by kernel_rfl
 obtain ⟨y0, y1, m, _, _, h0, h1⟩ := trod_struct2 Tryd.underlying107 hf
 dsimp only at h0 h1
 rw [k1, List.drop_zero] at h0
 rw [k32] at h1
 match l, hl with
 | c0 :: cs, hl =>
  have hcl : cs.length = 32 := by simpa using hl
  obtain ⟨n, e0, _, w0⟩ := DataW.trod_int Tryd.underlying81 h0
  simp at e0
  subst e0
  rw [List.drop_one, List.tail_cons, List.take_of_length_le (by omega)] at h1
  obtain ⟨z, rfl, hz, hb⟩ := bytes_trod Tryd.underlying23 Tryd.underlying5 (by kernel_rfl) k32 h1
  have hw : 0 ≤ n ∧ n ≤ 4294967295 := by
   simp [Lit.wf, IntKind.min, IntKind.max, IntKind.bits, IntKind.signed] at w0
   omega
  exact ⟨⟨n, z⟩, rfl, hw.1, hw.2, hz, hb⟩
end
end
section
section
open Go.ChangeShapes Go.WideShapes Go.ChangeAt Go.RowKit Go.Joins WM
set_option maxRecDepth 40000
end
section
open Go.ChangeShapes Go.WideShapes Go.ChangeAt Go.RowKit Go.Deep WM
set_option maxRecDepth 40000
end
section
open Go.ChangeShapes Go.WideShapes Go.ChangeAt Go.RowKit Go.Joins Go.Deep WM
section
variable {H : Type} {enc : TypeId × Value → H} {W : World} {base : Nat} {spare : Nat → Bool} {held : Bool}
theorem id_trod {fuel : Nat} {cs : List Value} {x : DataW H × List MemPlace} (hf : DataW.trod enc Tryd.prog W base spare held fuel 44 cs = some x) : ∃ z : List Int, cs = z.map (Value.int .u8) ∧ z.length = 16 ∧ AllBytes z := by
 have ce : Tryd.prog.cellsOf 5 = 1 := by kernel_rfl
 have ct : Tryd.prog.cellsOf 44 = 16 := by kernel_rfl
 obtain ⟨ys, m, rfl, hx, hcl, hyl, hall⟩ := DataW.trod_array Tryd.underlying44 hf
 have hlen : cs.length = 16 := by rw [hcl, ct]
 have key : ∀ (i : Nat) (hi : i < cs.length), ∃ n : Int, cs[i] = .int .u8 n ∧ 0 ≤ n ∧ n ≤ 255 := fun i hi => by
  have h1 := hall i (by omega)
  rw [ce, Nat.mul_one, List.getElem?_eq_getElem (by omega)] at h1
  obtain ⟨n, hc, _, hw⟩ := DataW.trod_int Tryd.underlying5 h1
  refine ⟨n, ?_, (bounds_u8 hw).1, (bounds_u8 hw).2⟩
  have h2 := congrArg (fun l => l[0]?) hc
  have h3 : cs[i]? = some (.int .u8 n) := by simpa [Value.cells, List.getElem?_take, List.getElem?_drop] using h2
  exact (List.getElem?_eq_some_iff.1 h3).2
 refine ⟨cs.map intOf, ?_, by rw [List.length_map, hlen], fun z hz => ?_⟩
 ·rw [List.map_map]
  apply List.ext_getElem
  ·simp
  ·intro i h1 h2
   obtain ⟨n, hn, _⟩ := key i h1
   simp only [List.getElem_map, Function.comp]
   rw [hn]
   rfl
 ·obtain ⟨v, hv, rfl⟩ := List.mem_map.1 hz
  obtain ⟨i, hi, rfl⟩ := List.getElem_of_mem hv
  obtain ⟨n, hn, h0, h1⟩ := key i hi
  rw [hn]
  exact ⟨h0, h1⟩
theorem st_trod {fuel : Nat} {c0 c1 : Value} {x : DataW H × List MemPlace} (hf : DataW.trod enc Tryd.prog W base spare held fuel 46 [c0, c1] = some x) :
  ∃ n r : Int, c0 = .int .i64 n ∧ c1 = .int .i64 r ∧ (Lit.int .i64 n).wf = true ∧ (Lit.int .i64 r).wf = true := by
 have k2 : Tryd.prog.cellsOf 3 = 1 := by kernel_rfl
 obtain ⟨z0, z1, m', _, _, g0, g1⟩ := trod_struct2 Tryd.underlying46 hf
 dsimp only at g0 g1
 rw [k2] at g0 g1
 obtain ⟨n0, e0, _, w0⟩ := DataW.trod_int Tryd.underlying3 g0
 obtain ⟨n1, e1, _, w1⟩ := DataW.trod_int Tryd.underlying3 g1
 simp at e0 e1
 subst e0 e1
 exact ⟨n0, n1, rfl, rfl, w0, w1⟩
end
end
section
open Go.ChangeShapes Go.WideShapes Go.ChangeAt Go.RowKit Go.Joins Go.Deep WM
set_option maxRecDepth 40000
end
end
end Go.Proofs.YtkjimhlpbgeagaaDoor
