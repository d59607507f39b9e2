import Derived.Test.YtkjimhlpbgeagaaGreatDoorF0
import Derived.Test.YtkjimhlpbgeagaaGreatDoorF31
import Derived.Test.YtkjimhlpbgeagaaGreatDoorF23
import Derived.Test.YtkjimhlpbgeagaaGreatDoorF14
import Derived.Test.YtkjimhlpbgeagaaGreatDoorF15
import Derived.Test.YtkjimhlpbgeagaaGreatDoorF8
import Derived.Test.YtkjimhlpbgeagaaGreatDoorF7
import Derived.Test.YtkjimhlpbgeagaaGreatDoorF6
import Derived.Test.YtkjimhlpbgeagaaGreatDoorF1
import Derived.Test.YtkjimhlpbgeagaaGreatDoorF3
import Derived.Test.YtkjimhlpbgeagaaGreatDoorF4
import Derived.Test.YtkjimhlpbgeagaaGreatDoorF5
import Derived.Test.YtkjimhlpbgeagaaGreatDoorF11
import Derived.Test.YtkjimhlpbgeagaaGreatDoorF22
import Derived.Test.YtkjimhlpbgeagaaGreatDoorF17
import Derived.Test.YtkjimhlpbgeagaaGreatDoorF19
import Derived.Test.YtkjimhlpbgeagaaGreatDoorF18
import Derived.BigQuiet
import Derived.Deep.RegionHeld3
import Derived.Defers
import Derived.Recover
/-
  What the functions that a law of this layer reaches answer, part 32. Nothing that was there is written.
-/
namespace Go.Proofs.YtkjimhlpbgeagaaGreatDoor
set_option linter.unusedVariables false
set_option linter.unusedSimpArgs false
section
open Go.RowKit WM
set_option maxRecDepth 100000
set_option maxHeartbeats 8000000 in
theorem psameL_any (x y : LnA) (w : World) (hx : x.Ok w) (hy : y.Ok w) (hbd : ∀ e ∈ x.es, e.e.bs.length ≤ 1000000) : Calls Tryz.prog 31 #[KLn.v x, KLn.v y] w fun e w' => e = .returned (.bool (decide (x.x = y.x))) ∧ Below w.heap.size w w' := by
 have S0 := Ln2.new w x y
 have X1 := LnA.below hx (S0.below.mono (Nat.le_refl _))
 have Y1 := LnA.below hy (S0.below.mono (Nat.le_refl _))
 have HV := Lib.hid (ln_eq x.x y.x)
 have L1 := Lib.hid (load_idM (ln_id (Kind.at_blk S0.a) hx.1) hx.1)
 have L2 := Lib.hid (load_idM (ln_id (Kind.at_blk S0.b) hy.1) hy.1)
 have HQI := Lib.hid (show ∀ X, (Op.equalIn 10000 30 (.agg (bvals x.z)) (.agg (bvals y.z))).run Tryz.prog X = .ok (decide (x.z = y.z)) X from fun X => by
  rw [eq_id hx.2.1 hy.2.1 hx.1 hy.1 X]; congr 1; rw [Bool.eq_iff_iff]; simp)
 have HQS := Lib.hid (fun X => eq_st (n := x.n) (r := x.r) (m := y.n) (s := y.r) X)
 have a1 := ln_c16 (Kind.at_blk S0.a) hx.1
 have a2 := ln_c17 (Kind.at_blk S0.a) hx.1
 have a3 := ln_c18 (Kind.at_blk S0.a) hx.1
 have b1 := ln_c16 (Kind.at_blk S0.b) hy.1
 have b2 := ln_c17 (Kind.at_blk S0.b) hy.1
 have b3 := ln_c18 (Kind.at_blk S0.b) hy.1
 simp only [Nat.zero_add] at a1 a2 a3 b1 b2 b3
 have HC := Lib.hid (eqfE_any x.A y.A x.c y.c x.es y.es _ X1.2.2.2.2 Y1.2.2.2.2 hbd)
 have BB := Lib.hid S0.below
 have hv1 : KLn.v x = .agg (KLn.cs x).toArray := rfl
 have hv2 : KLn.v y = .agg (KLn.cs y).toArray := rfl
 rw [hv1, hv2]
 generalize decide (x.x = y.x) = V at *
 obtain ⟨z1, n1, r1, A1, c1, e1⟩ := x
 obtain ⟨z2, n2, r2, A2, c2, e2⟩ := y
 unfold LnA.x at HV
 dsimp only at a1 a2 a3 b1 b2 b3 L1 L2 HQS HQI HC HV
 generalize (KLn.cs ⟨z1, n1, r1, A1, c1, e1⟩).toArray = Ex at *
 generalize (KLn.cs ⟨z2, n2, r2, A2, c2, e2⟩).toArray = Ey at *
 generalize e1.length = m1 at *
 generalize e2.length = m2 at *
 clear S0 X1 Y1 hv1 hv2 hx hy hbd
 go_enter Tryz.func31, Tryz.ntmps31
 by_cases t1 : z1 = z2
 case neg =>
  have HF := Lib.hid (show V = false by rw [HV.out, decide_eq_false t1]; rfl)
  rw [decide_eq_false t1] at HQI
  clear t1
  go_wp2_with (first | ((with_reducible refine wpList_load_at (o := ⟨some 6, .load 30 (.tmp 5), _, _, _, _⟩) ?e1 30 (.tmp 5) ?e2 ⟨w.heap.size, 0, none⟩ ?e3 _ L1.out ?_); (case e1 => rfl); (case e2 => rfl); (case e3 => rfl)) | ((with_reducible refine wpList_load_at (o := ⟨some 8, .load 30 (.tmp 7), _, _, _, _⟩) ?e1 30 (.tmp 7) ?e2 ⟨(w.heap.size + 1), 0, none⟩ ?e3 _ L2.out ?_); (case e1 => rfl); (case e2 => rfl); (case e3 => rfl)) | ((with_reducible refine wpList_eqlM (o := ⟨some 9, .binOp .eql 30 (.tmp 6) (.tmp 8) 30, _, _, _, _⟩) ?e1 30 (.tmp 6) (.tmp 8) 30 ?e2 ?e3 ?e4 guardIdM (HQI.out _) ?_); (case e1 => rfl); (case e2 => rfl); (case e3 => rfl); (case e4 => rfl)))
  go_ret
  exact ⟨by rw [HF.out]; try rfl, BB.out⟩
 rw [decide_eq_true t1] at HQI
 by_cases t2 : n1 = n2 ∧ r1 = r2
 case neg =>
  have HF := Lib.hid (show V = false by rw [HV.out, decide_eq_false t2]; simp)
  rw [decide_eq_false t2] at HQS
  clear t1 t2
  go_wp2_with (first | ((with_reducible refine wpList_load_at (o := ⟨some 6, .load 30 (.tmp 5), _, _, _, _⟩) ?e1 30 (.tmp 5) ?e2 ⟨w.heap.size, 0, none⟩ ?e3 _ L1.out ?_); (case e1 => rfl); (case e2 => rfl); (case e3 => rfl)) | ((with_reducible refine wpList_load_at (o := ⟨some 8, .load 30 (.tmp 7), _, _, _, _⟩) ?e1 30 (.tmp 7) ?e2 ⟨(w.heap.size + 1), 0, none⟩ ?e3 _ L2.out ?_); (case e1 => rfl); (case e2 => rfl); (case e3 => rfl)) | ((with_reducible refine wpList_eqlM (o := ⟨some 9, .binOp .eql 30 (.tmp 6) (.tmp 8) 30, _, _, _, _⟩) ?e1 30 (.tmp 6) (.tmp 8) 30 ?e2 ?e3 ?e4 guardIdM (HQI.out _) ?_); (case e1 => rfl); (case e2 => rfl); (case e3 => rfl); (case e4 => rfl)) | ((with_reducible refine wpList_eqlM (o := ⟨some 15, .binOp .eql 32 (.tmp 12) (.tmp 14) 32, _, _, _, _⟩) ?e1 32 (.tmp 12) (.tmp 14) 32 ?e2 ?e3 ?e4 guardStM (HQS.out _) ?_); (case e1 => rfl); (case e2 => rfl); (case e3 => rfl); (case e4 => rfl)))
  go_ret
  exact ⟨by rw [HF.out]; try rfl, BB.out⟩
 rw [decide_eq_true t2] at HQS
 have HF := Lib.hid (show V = decide (e1.map (·.e) = e2.map (·.e)) by rw [HV.out, decide_eq_true t1, decide_eq_true t2]; rfl)
 generalize decide (e1.map (·.e) = e2.map (·.e)) = b9 at *
 clear t1 t2
 go_wp2_with (first | ((with_reducible refine wpList_load_at (o := ⟨some 6, .load 30 (.tmp 5), _, _, _, _⟩) ?e1 30 (.tmp 5) ?e2 ⟨w.heap.size, 0, none⟩ ?e3 _ L1.out ?_); (case e1 => rfl); (case e2 => rfl); (case e3 => rfl)) | ((with_reducible refine wpList_load_at (o := ⟨some 8, .load 30 (.tmp 7), _, _, _, _⟩) ?e1 30 (.tmp 7) ?e2 ⟨(w.heap.size + 1), 0, none⟩ ?e3 _ L2.out ?_); (case e1 => rfl); (case e2 => rfl); (case e3 => rfl)) | ((with_reducible refine wpList_eqlM (o := ⟨some 9, .binOp .eql 30 (.tmp 6) (.tmp 8) 30, _, _, _, _⟩) ?e1 30 (.tmp 6) (.tmp 8) 30 ?e2 ?e3 ?e4 guardIdM (HQI.out _) ?_); (case e1 => rfl); (case e2 => rfl); (case e3 => rfl); (case e4 => rfl)) | ((with_reducible refine wpList_eqlM (o := ⟨some 15, .binOp .eql 32 (.tmp 12) (.tmp 14) 32, _, _, _, _⟩) ?e1 32 (.tmp 12) (.tmp 14) 32 ?e2 ?e3 ?e4 guardStM (HQS.out _) ?_); (case e1 => rfl); (case e2 => rfl); (case e3 => rfl); (case e4 => rfl)))
 refine HC.out.mono ?_
 rintro e w4 ⟨rfl, hb4⟩
 have BB := Lib.hid (BB.out.trans (hb4.mono BB.out.size))
 clear hb4
 go_wp2
 go_ret
 exact ⟨by rw [HF.out]; try rfl, BB.out⟩
set_option maxHeartbeats 8000000 in
theorem eqfL_any (A B : Option Addr) (c d : Nat) (xs ys : List LnA) (w : World) (h1 : KLn.row w A c xs) (h2 : KLn.row w B d ys) (hbd : ∀ e ∈ xs, ∀ y ∈ e.es, y.e.bs.length ≤ 1000000) : Calls Tryz.prog 30 #[.slice A xs.length c, .slice B ys.length d, .func (.func 31) #[] #[]] w fun e w' => e = .returned (.bool (decide (xs.map (·.x) = ys.map (·.x)))) ∧ Below w.heap.size w w' := by
 have HB := Lib.hid (Below.refl w.heap.size w)
 have R1 := Lib.hid (fun h => ln_row h1 h)
 have R2 := Lib.hid (fun h => ln_row h2 h)
 have O1 := Lib.hid (fun k (hk : k < xs.length) => show LnA.Ok w (xs.getD k lnA0) from Kind.row_ok h1 hk)
 have O2 := Lib.hid (fun k (hk : k < ys.length) => show LnA.Ok w (ys.getD k lnA0) from Kind.row_ok h2 hk)
 have HBD := Lib.hid (fun k (hk : k < xs.length) => hbd (xs.getD k lnA0) (by rw [List.getD_eq_getElem?_getD, List.getElem?_eq_getElem hk]; exact List.getElem_mem _))
 have HV := Lib.hid (show decide (xs.map (·.x) = ys.map (·.x)) = decide ((xs.map (·.x)).drop 0 = (ys.map (·.x)).drop 0) from rfl)
 have HNE : Hid (¬ xs.length = ys.length → decide (xs.map (·.x) = ys.map (·.x)) = false) := Lib.hid (fun hne => decide_eq_false (fun e => hne (by have := congrArg List.length e; simpa using this)))
 have hc1 := h1.1
 have hc2 := h2.1
 have hm1 := h1.2.1
 have hm2 := h2.2.1
 simp only [maxLen] at hm1 hm2
 have hz := zeroLn
 rw [show KLn.v lnA0 = .agg (KLn.cs lnA0).toArray from rfl] at hz
 have hzne : ¬ (KLn.cs lnA0).toArray = #[] := by decide
 have hzs := lnA0_size
 generalize decide (xs.map (·.x) = ys.map (·.x)) = V at *
 clear h1 h2 hbd
 by_cases hl2 : xs.length = ys.length
 ·clear HNE
  generalize hn1 : xs.length = n at *
  generalize hn2 : ys.length = n2 at *
  subst hl2
  have HL1 := Lib.hid hn1
  have HL2 := Lib.hid hn2
  clear hn1 hn2
  go_enter Tryz.func30, Tryz.ntmps30
  go_wp2
  go_loopw [17] (fun i wr => ∃ k : Nat, k ≤ n ∧ i = .int .i64 k ∧ Below w.heap.size w wr ∧ V = decide ((xs.map (·.x)).drop k = (ys.map (·.x)).drop k)) (fun i _ => n - (intOf i).toNat)
  case atStart => exact ⟨0, Nat.zero_le _, rfl, HB.out, HV.out⟩
  case round =>
   obtain ⟨k, hk, rfl, hb, hf⟩ := hrel
   have BB := Lib.hid hb
   by_cases hlt : k < n
   ·have t1 : (k : Int) < (n : Int) := by omega
    obtain ⟨b1, off1, hA1, hb1w, hx1, hi1⟩ := R1.out (by omega)
    obtain ⟨b2, off2, hA2, hb2w, hx2, hi2⟩ := R2.out (by omega)
    have ix1 := hi1 k hlt k rfl
    have ix2 := hi2 k hlt k rfl
    rw [← hA1] at ix1
    rw [← hA2] at ix2
    rw [drop_map9 (·.x) lnA0 (xs := xs) (by rw [HL1.out]; exact hlt), drop_map9 (·.x) lnA0 (xs := ys) (by rw [HL2.out]; exact hlt)] at hf
    have okx : LnA.Ok wr (xs.getD k lnA0) := LnA.below (O1.out k hlt) (hb.mono (Nat.le_refl _))
    have oky : LnA.Ok wr (ys.getD k lnA0) := LnA.below (O2.out k hlt) (hb.mono (Nat.le_refl _))
    have LX := Lib.hid (load_ln (Kind.at_same (hx1 k hlt) (hb.block b1 hb1w)) okx)
    have LYW := Lib.hid (fun w9 (h9 : Below wr.heap.size wr w9) => load_ln (Kind.at_same (hx2 k hlt) ((hb.trans (h9.mono hb.size)).block b2 hb2w)) (LnA.below oky h9))
    have HLX := Lib.hid (HBD.out k hlt)
    generalize xs.getD k lnA0 = x at *
    generalize ys.getD k lnA0 = y at *
    generalize off1 + k * 19 = o1 at *
    generalize off2 + k * 19 = o2 at *
    have hb1 : Below wr.heap.size wr (wr.alloc (.cells (KLn.cs x).toArray 35)) := (Below.refl _ _).alloc (Nat.le_refl _) _
    have hb2 : Below wr.heap.size wr ((wr.alloc (.cells (KLn.cs x).toArray 35)).alloc (.cells (KLn.cs y).toArray 35)) := hb1.alloc hb1.size _
    have LY := Lib.hid (LYW.out _ hb1)
    have kx := Kind.blk_old (Kind.blk_new (K := KLn) wr x 35) (.cells (KLn.cs y).toArray 35)
    have ky := Kind.blk_new (K := KLn) (wr.alloc (.cells (KLn.cs x).toArray 35)) y 35
    rw [World.size_alloc] at ky
    have L27 := Lib.hid (load_ln (Kind.at_blk kx) (LnA.below okx hb2))
    have L28 := Lib.hid (load_ln (Kind.at_blk ky) (LnA.below oky hb2))
    have HC := Lib.hid (psameL_any x y _ (LnA.below okx hb2) (LnA.below oky hb2) HLX.out)
    rw [show KLn.v x = .agg (KLn.cs x).toArray from rfl] at LX L27
    rw [show KLn.v y = .agg (KLn.cs y).toArray from rfl] at LY L28
    rw [show KLn.v x = .agg (KLn.cs x).toArray from rfl, show KLn.v y = .agg (KLn.cs y).toArray from rfl] at HC
    have SZX := Lib.hid (ln_size okx)
    have SZY := Lib.hid (ln_size oky)
    have SQX := Lib.hid (show (KLn.cs lnA0).toArray.size = (KLn.cs x).toArray.size by rw [lnA0_size, List.size_toArray]; exact (LnA.len okx).symm)
    have SQY := Lib.hid (show (KLn.cs lnA0).toArray.size = (KLn.cs y).toArray.size by rw [lnA0_size, List.size_toArray]; exact (LnA.len oky).symm)
    have SOX := Lib.hid (ln_ones x)
    have SOY := Lib.hid (ln_ones y)
    have BB := Lib.hid (hb.trans (hb2.mono hb.size))
    have HF := Lib.hid (show V = (decide (x.x = y.x) && decide ((xs.map (·.x)).drop (k + 1) = (ys.map (·.x)).drop (k + 1))) by rw [hf, Bool.eq_iff_iff]; simp)
    generalize (KLn.cs x).toArray = Ex at *
    generalize (KLn.cs y).toArray = Ey at *
    generalize hd : decide (x.x = y.x) = b9 at *
    clear hx1 hx2 hi1 hi2 hA1 hA2 hf hb hb1w hb2w okx oky hb1 hb2 kx ky hd LYW
    cases b9
    ·have HF := Lib.hid (show V = false from HF.out)
     go_wp2_with (first | ((with_reducible refine wpList_load_at (o := ⟨some 21, .load 35 (.tmp 20), _, _, _, _⟩) ?e1 35 (.tmp 20) ?e2 ⟨b1, o1, none⟩ ?e3 _ LX.out ?_); (case e1 => rfl); (case e2 => rfl); (case e3 => rfl)) | ((with_reducible refine wpList_store_new (o := ⟨none, .store 35 (.tmp 8) (.tmp 21), _, _, _, _⟩) ?e1 35 (.tmp 8) (.tmp 21) ?e2 ?e3 (KLn.cs lnA0).toArray Ex ?e4 SZX.out SQX.out SOX.out ?_); (case e1 => rfl); (case e2 => rfl); (case e3 => (first | rfl | exact congrArg (fun q => Value.pointer (some ⟨q, 0, none⟩)) (World.size_alloc _ _).symm)); (case e4 => rfl)) | ((with_reducible refine wpList_load_at (o := ⟨some 25, .load 35 (.tmp 24), _, _, _, _⟩) ?e1 35 (.tmp 24) ?e2 ⟨b2, o2, none⟩ ?e3 _ LY.out ?_); (case e1 => rfl); (case e2 => rfl); (case e3 => rfl)) | ((with_reducible refine wpList_store_new (o := ⟨none, .store 35 (.tmp 9) (.tmp 25), _, _, _, _⟩) ?e1 35 (.tmp 9) (.tmp 25) ?e2 ?e3 (KLn.cs lnA0).toArray Ey ?e4 SZY.out SQY.out SOY.out ?_); (case e1 => rfl); (case e2 => rfl); (case e3 => (first | rfl | exact congrArg (fun q => Value.pointer (some ⟨q, 0, none⟩)) (World.size_alloc _ _).symm)); (case e4 => rfl)) | ((with_reducible refine wpList_load_at (o := ⟨some 27, .load 35 (.tmp 8), _, _, _, _⟩) ?e1 35 (.tmp 8) ?e2 ⟨wr.heap.size, 0, none⟩ ?e3 _ L27.out ?_); (case e1 => rfl); (case e2 => rfl); (case e3 => rfl)) | ((with_reducible refine wpList_load_at (o := ⟨some 28, .load 35 (.tmp 9), _, _, _, _⟩) ?e1 35 (.tmp 9) ?e2 ⟨(wr.heap.size + 1), 0, none⟩ ?e3 _ L28.out ?_); (case e1 => rfl); (case e2 => rfl); (case e3 => rfl)))
     refine HC.out.mono ?_
     rintro e w4 ⟨rfl, hb4⟩
     have BB := Lib.hid (BB.out.trans (hb4.mono BB.out.size))
     clear hb4
     go_wp2
     go_ret
     exact ⟨by rw [HF.out]; try rfl, BB.out⟩
    ·have HF := Lib.hid (show V = decide ((xs.map (·.x)).drop (k + 1) = (ys.map (·.x)).drop (k + 1)) from HF.out)
     go_wp2_with (first | ((with_reducible refine wpList_load_at (o := ⟨some 21, .load 35 (.tmp 20), _, _, _, _⟩) ?e1 35 (.tmp 20) ?e2 ⟨b1, o1, none⟩ ?e3 _ LX.out ?_); (case e1 => rfl); (case e2 => rfl); (case e3 => rfl)) | ((with_reducible refine wpList_store_new (o := ⟨none, .store 35 (.tmp 8) (.tmp 21), _, _, _, _⟩) ?e1 35 (.tmp 8) (.tmp 21) ?e2 ?e3 (KLn.cs lnA0).toArray Ex ?e4 SZX.out SQX.out SOX.out ?_); (case e1 => rfl); (case e2 => rfl); (case e3 => (first | rfl | exact congrArg (fun q => Value.pointer (some ⟨q, 0, none⟩)) (World.size_alloc _ _).symm)); (case e4 => rfl)) | ((with_reducible refine wpList_load_at (o := ⟨some 25, .load 35 (.tmp 24), _, _, _, _⟩) ?e1 35 (.tmp 24) ?e2 ⟨b2, o2, none⟩ ?e3 _ LY.out ?_); (case e1 => rfl); (case e2 => rfl); (case e3 => rfl)) | ((with_reducible refine wpList_store_new (o := ⟨none, .store 35 (.tmp 9) (.tmp 25), _, _, _, _⟩) ?e1 35 (.tmp 9) (.tmp 25) ?e2 ?e3 (KLn.cs lnA0).toArray Ey ?e4 SZY.out SQY.out SOY.out ?_); (case e1 => rfl); (case e2 => rfl); (case e3 => (first | rfl | exact congrArg (fun q => Value.pointer (some ⟨q, 0, none⟩)) (World.size_alloc _ _).symm)); (case e4 => rfl)) | ((with_reducible refine wpList_load_at (o := ⟨some 27, .load 35 (.tmp 8), _, _, _, _⟩) ?e1 35 (.tmp 8) ?e2 ⟨wr.heap.size, 0, none⟩ ?e3 _ L27.out ?_); (case e1 => rfl); (case e2 => rfl); (case e3 => rfl)) | ((with_reducible refine wpList_load_at (o := ⟨some 28, .load 35 (.tmp 9), _, _, _, _⟩) ?e1 35 (.tmp 9) ?e2 ⟨(wr.heap.size + 1), 0, none⟩ ?e3 _ L28.out ?_); (case e1 => rfl); (case e2 => rfl); (case e3 => rfl)))
     refine HC.out.mono ?_
     rintro e w4 ⟨rfl, hb4⟩
     have BB := Lib.hid (BB.out.trans (hb4.mono BB.out.size))
     clear hb4
     go_wp2
     go_roundw
     case rel => exact ⟨k + 1, by omega, by go_num, BB.out, HF.out⟩
     case measure => simp [intOf]; omega
   ·obtain rfl : k = n := by omega
    have t1 : ¬ (k : Int) < (k : Int) := by omega
    have HF := Lib.hid (show V = true by rw [hf, List.drop_eq_nil_of_le (by rw [List.length_map, HL1.out]; exact Nat.le_refl _), List.drop_eq_nil_of_le (by rw [List.length_map, HL2.out]; exact Nat.le_refl _)]; simp)
    clear hf hb
    go_wp2
    go_ret
    exact ⟨by rw [HF.out]; try rfl, BB.out⟩
 ·have HF := Lib.hid (HNE.out hl2)
  have hne : ¬ (xs.length : Int) = (ys.length : Int) := by omega
  have BB := HB
  generalize xs.length = n1 at *
  generalize ys.length = n2 at *
  go_enter Tryz.func30, Tryz.ntmps30
  go_wp2
  go_ret
  exact ⟨by rw [HF.out]; try rfl, BB.out⟩
set_option maxHeartbeats 8000000 in
theorem psame12_any (a b : MnA) (w : World) (ha : a.Ok w) (hb : b.Ok w) (hbd : ∀ x ∈ a.ls, ∀ y ∈ x.es, y.e.bs.length ≤ 1000000) : Calls Tryz.prog 13 #[a.v, b.v] w fun e w' => e = .returned (.bool (decide (a.m = b.m))) ∧ Below w.heap.size w w' := by
 have BB := Lib.hid (((Below.refl w.heap.size w).alloc (Nat.le_refl _) (.cells a.cs.toArray 26)).alloc (by rw [World.size_alloc]; omega) (.cells b.cs.toArray 26))
 have S1 := (MnAt.new w a).below ((Below.refl _ _).alloc (Nat.le_refl _) (.cells b.cs.toArray 26)) (MnAt.new w a).lt
 have S2 := MnAt.new (w.alloc (.cells a.cs.toArray 26)) b
 rw [World.size_alloc] at S2
 have HA1 := MnA.below ha (BB.out.mono (Nat.le_refl _))
 have HB1 := MnA.below hb (BB.out.mono (Nat.le_refl _))
 have HV := Lib.hid (show decide (a.m = b.m) = (decide (a.base = b.base) && decide (a.ls.map (·.x) = b.ls.map (·.x))) by unfold MnA.m; rw [Bool.eq_iff_iff]; simp)
 have L1 := Lib.hid (load_dig (S1.dig ha.1) ha.1)
 have L2 := Lib.hid (load_dig (S2.dig hb.1) hb.1)
 have a3 := S1.c32 ha.1
 have b3 := S2.c32 hb.1
 have HQD := Lib.hid (show ∀ X, (Op.equalIn 10000 23 (.agg (bvals a.base)) (.agg (bvals b.base))).run Tryz.prog X = .ok (decide (a.base = b.base)) X from fun X => by
  rw [eq_dig ha.2.1 hb.2.1 ha.1 hb.1 X]; congr 1; rw [Bool.eq_iff_iff]; simp)
 have HC := Lib.hid (eqfL_any a.A b.A a.c b.c a.ls b.ls _ HA1.2.2 HB1.2.2 hbd)
 have hv1 : a.v = .agg a.cs.toArray := rfl
 have hv2 : b.v = .agg b.cs.toArray := rfl
 rw [hv1, hv2]
 generalize decide (a.m = b.m) = V at *
 generalize a.cs.toArray = Ex at *
 generalize b.cs.toArray = Ey at *
 obtain ⟨z1, A1, c1, e1⟩ := a
 obtain ⟨z2, A2, c2, e2⟩ := b
 dsimp only at a3 b3 L1 L2 HQD HC HV
 generalize e1.length = m1 at *
 generalize e2.length = m2 at *
 clear S1 S2 HA1 HB1 hv1 hv2 ha hb hbd
 go_enter Tryz.func13, Tryz.ntmps13
 by_cases t1 : z1 = z2
 case neg =>
  have HF := Lib.hid (show V = false by rw [HV.out, decide_eq_false t1]; rfl)
  rw [decide_eq_false t1] at HQD
  clear t1
  go_wp2_with (first | ((with_reducible refine wpList_load_at (o := ⟨some 6, .load 23 (.tmp 5), _, _, _, _⟩) ?e1 23 (.tmp 5) ?e2 ⟨w.heap.size, 0, none⟩ ?e3 _ L1.out ?_); (case e1 => rfl); (case e2 => rfl); (case e3 => rfl)) | ((with_reducible refine wpList_load_at (o := ⟨some 8, .load 23 (.tmp 7), _, _, _, _⟩) ?e1 23 (.tmp 7) ?e2 ⟨(w.heap.size + 1), 0, none⟩ ?e3 _ L2.out ?_); (case e1 => rfl); (case e2 => rfl); (case e3 => rfl)) | ((with_reducible refine wpList_eqlM (o := ⟨some 9, .binOp .eql 23 (.tmp 6) (.tmp 8) 23, _, _, _, _⟩) ?e1 23 (.tmp 6) (.tmp 8) 23 ?e2 ?e3 ?e4 guardDig (HQD.out _) ?_); (case e1 => rfl); (case e2 => rfl); (case e3 => rfl); (case e4 => rfl)))
  go_ret
  exact ⟨by rw [HF.out]; try rfl, BB.out⟩
 rw [decide_eq_true t1] at HQD
 have HF := Lib.hid (show V = decide (e1.map (·.x) = e2.map (·.x)) by rw [HV.out, decide_eq_true t1]; rfl)
 generalize decide (e1.map (·.x) = e2.map (·.x)) = b9 at *
 clear t1
 go_wp2_with (first | ((with_reducible refine wpList_load_at (o := ⟨some 6, .load 23 (.tmp 5), _, _, _, _⟩) ?e1 23 (.tmp 5) ?e2 ⟨w.heap.size, 0, none⟩ ?e3 _ L1.out ?_); (case e1 => rfl); (case e2 => rfl); (case e3 => rfl)) | ((with_reducible refine wpList_load_at (o := ⟨some 8, .load 23 (.tmp 7), _, _, _, _⟩) ?e1 23 (.tmp 7) ?e2 ⟨(w.heap.size + 1), 0, none⟩ ?e3 _ L2.out ?_); (case e1 => rfl); (case e2 => rfl); (case e3 => rfl)) | ((with_reducible refine wpList_eqlM (o := ⟨some 9, .binOp .eql 23 (.tmp 6) (.tmp 8) 23, _, _, _, _⟩) ?e1 23 (.tmp 6) (.tmp 8) 23 ?e2 ?e3 ?e4 guardDig (HQD.out _) ?_); (case e1 => rfl); (case e2 => rfl); (case e3 => rfl); (case e4 => rfl)))
 refine HC.out.mono ?_
 rintro e w4 ⟨rfl, hb4⟩
 have BB := Lib.hid (BB.out.trans (hb4.mono BB.out.size))
 clear hb4
 go_wp2
 go_ret
 exact ⟨by rw [HF.out]; try rfl, BB.out⟩
end
section
section
open Go.RowKit WM
set_option maxRecDepth 20000
theorem byt_one' (w : World) (c : Int) : Byt (w.alloc (.cells #[.int .u8 c] 5)) (w.alloc (.cells #[.int .u8 c] 5)).heap.size (some ⟨w.heap.size, 0, none⟩) [c] := fun _ => ⟨w.heap.size, 0, rfl, by rw [World.size_alloc]; omega, fun i hi => by
 obtain rfl : i = 0 := by simpa using hi
 have hh : (w.alloc (.cells #[.int .u8 c] 5)).heap[w.heap.size]? = some (.cells #[.int .u8 c] 5) := heap_alloc_new w _
 rw [cell_of_row _ _ _ _ _ _ hh]; rfl⟩
end
section
open Go.RowKit WM
set_option maxRecDepth 20000
end
section
open Go.RowKit Go.Shelf WM
set_option maxRecDepth 100000
end
end
end Go.Proofs.YtkjimhlpbgeagaaGreatDoor
