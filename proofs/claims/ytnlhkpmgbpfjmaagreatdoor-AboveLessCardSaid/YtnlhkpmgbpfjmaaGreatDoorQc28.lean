import Derived.Test.YtnlhkpmgbpfjmaaGreatDoorQc0
import Derived.Test.YtnlhkpmgbpfjmaaGreatDoorQc27
import Derived.Test.YtnlhkpmgbpfjmaaGreatDoorQc12
/-
  What the functions that a law of this layer reaches answer, part 28. Nothing that was there is written.
-/
namespace Go.Proofs.YtnlhkpmgbpfjmaaGreatDoor
set_option linter.unusedVariables false
set_option linter.unusedSimpArgs false
section
open Go.RowKit WM
set_option maxRecDepth 100000
set_option maxHeartbeats 16000000 in
theorem pmay12_any (m : MnA) (w : World) (h : m.Ok w) : Calls Tryz.prog 39 #[m.v] w fun e w' => e = .returned (.bool (mmay m.m)) ∧ Below w.heap.size w w' := by
 have HV0 := Lib.hid (show mmay m.m = (lsOk (prevA m.ls 0) ((m.ls.drop 0).map (·.x)) && decide (m.ls.length ≤ 10)) by simp [mmay, MnA.m, prevA])
 have hmn := MnAt.new w m
 obtain ⟨w1, hw1⟩ : ∃ w1, w1 = w.alloc (.cells m.cs.toArray 29) := ⟨_, rfl⟩
 rw [← hw1] at hmn
 have hb1 : Below w.heap.size w w1 := by rw [hw1]; exact (Below.refl _ _).alloc (Nat.le_refl _) _
 have h1 := MnA.below h (hb1.mono (Nat.le_refl _))
 have HB1 := Lib.hid hb1
 have HC := Lib.hid (fun X (hX : Below w1.heap.size w1 X) => (hmn.below hX hmn.lt).c32 h1.1)
 have HR := Lib.hid (fun h0 => ln_row h1.2.2 h0)
 have HOK := Lib.hid (fun k (hk : k < m.ls.length) => show LnA.Ok w1 (m.ls.getD k lnA0) from Kind.row_ok h1.2.2 hk)
 have hnb : m.ls.length ≤ 9223372036854775807 := by
  have a1 := h1.2.2.1
  have a2 := h1.2.2.2.1
  simp only [maxLen] at a2
  omega
 have c32 := HC.out w1 (Below.refl _ _)
 have hv : m.v = .agg m.cs.toArray := rfl
 rw [hv]
 generalize mmay m.m = V at *
 generalize m.cs.toArray = E at *
 obtain ⟨base, A, c, ls⟩ := m
 dsimp only at *
 have HLS := Lib.hid (fun k (hk : k < ls.length) => lsOk_step hk)
 generalize hn : ls.length = n at *
 have HN := Lib.hid hn
 have hz := zeroLn
 rw [show KLn.v lnA0 = .agg (KLn.cs lnA0).toArray from rfl] at hz
 have hzne : ¬ (KLn.cs lnA0).toArray = #[] := by decide
 clear h h1 hmn hv hb1 hn
 subst hw1
 go_enter Tryz.func39, Tryz.ntmps39
 by_cases t0 : (10 : Int) < (n : Int)
 ·have HF := Lib.hid (show V = false by rw [HV0.out, decide_eq_false (p := n ≤ 10) (by omega)]; simp)
  go_wp2
  go_ret
  exact ⟨by rw [HF.out]; try rfl, HB1.out⟩
 have HV := Lib.hid (show V = lsOk (prevA ls 0) ((ls.drop 0).map (·.x)) by rw [HV0.out, decide_eq_true (p := n ≤ 10) (by omega), Bool.and_true])
 clear HV0
 go_wp2
 clear c32
 generalize w.alloc (.cells E 29) = w1 at *
 go_loopw [12] (fun i wr => ∃ k : Nat, k ≤ n ∧ i = .int .i64 k ∧ Below w1.heap.size w1 wr ∧ V = lsOk (prevA ls k) ((ls.drop k).map (·.x))) (fun i _ => n - (intOf i).toNat)
 case atStart => exact ⟨0, Nat.zero_le _, rfl, Below.refl _ _, HV.out⟩
 case round =>
  obtain ⟨k, hk, rfl, hb, hf⟩ := hrel
  by_cases hlt : k < n
  ·have t1 : (k : Int) < (n : Int) := by omega
   obtain ⟨b1, off1, hA1, hb1w, hx1, hi1⟩ := HR.out (by omega)
   have ix1 := hi1 k hlt k rfl
   rw [← hA1] at ix1
   have hok := LnA.below (HOK.out k hlt) (hb.mono (Nat.le_refl _))
   have LL := Lib.hid (load_ln (Kind.at_same (hx1 k hlt) (hb.block b1 hb1w)) hok)
   rw [show KLn.v (ls.getD k lnA0) = .agg (KLn.cs (ls.getD k lnA0)).toArray from rfl] at LL
   rw [HLS.out k hlt] at hf
   have HPRV := Lib.hid (show prevA ls k = if k = 0 then none else some (ls.getD (k - 1) lnA0).z from rfl)
   have HPID : Hid (0 < k → ∀ X, Below w1.heap.size w1 X → KId.at X b1 (off1 + (k - 1) * 19) (ls.getD (k - 1) lnA0).z ∧ (ls.getD (k - 1) lnA0).z.length = 16 ∧ AllBytes (ls.getD (k - 1) lnA0).z) := Lib.hid (fun h0 X hX => by
    have ho := HOK.out (k - 1) (by omega)
    exact ⟨ln_id (Kind.at_same (hx1 (k - 1) (by omega)) (hX.block b1 hb1w)) ho.1, ho.1, ho.2.1⟩)
   have HIXP := Lib.hid (fun (h0 : 0 < k) X => by have h := hi1 (k - 1) (by omega) ((k : Int) - 1) (by omega) X; rw [← hA1] at h; exact h)
   generalize (ls.getD (k - 1) lnA0).z = pz at *
   generalize prevA ls k = PV at *
   generalize hrst : lsOk (prevA ls (k + 1)) ((ls.drop (k + 1)).map (·.x)) = rest at *
   have HRST := Lib.hid hrst
   generalize ls.getD k lnA0 = x at *
   have hxb := Kind.blk_new (K := KLn) wr x 63
   have hba : Below wr.heap.size wr (wr.alloc (.cells (KLn.cs x).toArray 63)) := (Below.refl _ _).alloc (Nat.le_refl _) _
   have HBX := Lib.hid (hb.trans (hba.mono hb.size))
   have SZX := Lib.hid (ln_size hok)
   have SQX := Lib.hid (show (KLn.cs lnA0).toArray.size = (KLn.cs x).toArray.size by rw [lnA0_size, List.size_toArray]; exact (LnA.len hok).symm)
   have SOX := Lib.hid (ln_ones x)
   have HOKX := Lib.hid (LnA.below hok hba)
   have L17 := Lib.hid (fun X (hX : Below (wr.alloc (.cells (KLn.cs x).toArray 63)).heap.size (wr.alloc (.cells (KLn.cs x).toArray 63)) X) => load_ln (Kind.at_blk (Kind.blk_below hxb hX (Kind.blk_lt hxb))) (LnA.below HOKX.out hX))
   have LZ := Lib.hid (fun X (hX : Below (wr.alloc (.cells (KLn.cs x).toArray 63)).heap.size (wr.alloc (.cells (KLn.cs x).toArray 63)) X) => ln_id (Kind.at_blk (Kind.blk_below hxb hX (Kind.blk_lt hxb))) hok.1)
   have HML := Lib.hid (fun X (hX : Below (wr.alloc (.cells (KLn.cs x).toArray 63)).heap.size (wr.alloc (.cells (KLn.cs x).toArray 63)) X) => pmayL_any x X (LnA.below HOKX.out hX))
   have HS32 := Lib.hid (fun X (hX : Below (wr.alloc (.cells (KLn.cs x).toArray 63)).heap.size (wr.alloc (.cells (KLn.cs x).toArray 63)) X) => HC.out X (HBX.out.trans (hX.mono HBX.out.size)))
   have HZ16 := Lib.hid hok.1
   have HZB := Lib.hid hok.2.1
   rw [show KLn.v x = .agg (KLn.cs x).toArray from rfl] at L17 HML
   generalize lnOk x.x = b0 at *
   have HFF := Lib.hid hf
   generalize hW : wr.alloc (.cells (KLn.cs x).toArray 63) = wx at *
   generalize (KLn.cs x).toArray = EX at *
   clear hx1 hi1 hA1 hok hf hb hb1w hba hxb hrst
   subst hW
   cases b0
   ·have HF := Lib.hid (show V = false by rw [HFF.out]; rfl)
    clear HFF
    go_wp2_with (first | ((with_reducible refine wpList_load_at (o := ⟨some 16, .load 63 (.tmp 15), _, _, _, _⟩) ?e1 63 (.tmp 15) ?e2 ⟨b1, off1 + k * 19, none⟩ ?e3 _ LL.out ?_); (case e1 => rfl); (case e2 => rfl); (case e3 => rfl)) | ((with_reducible refine wpList_store_new (o := ⟨none, .store 63 (.tmp 4) (.tmp 16), _, _, _, _⟩) ?e1 63 (.tmp 4) (.tmp 16) ?e2 ?e3 (KLn.cs lnA0).toArray EX ?e4 SZX.out SQX.out SOX.out ?_); (case e1 => rfl); (case e2 => rfl); (case e3 => rfl); (case e4 => rfl)))
    refine wp_region_G _ (by kernel_rfl) ?_
    refine wpGv (i := 0) (oi := ⟨some 17, _, _, _, _, _⟩) (v := (.agg EX)) rfl ?_ ?_; (focus (intro w9 hSw; exact exec_load_at 63 _ rfl _ rfl (L17.out w9 hSw))); simp only [Act.put, Z2, Z3, Z4]
    refine wpG_take (i := 1) (oi := ⟨some 18, _, _, _, _, _⟩) rfl (by kernel_rfl) (by kernel_rfl) (by kernel_rfl) (Or.inl ⟨by rfl, unib_call_if ?_ HML.out⟩) ?_; (focus (intro w9 hSw; go_simp; try with_reducible rfl)); simp only [Act.put, Z2, Z3, Z4]
    refine wpGv (i := 2) (oi := ⟨some 19, _, _, _, _, _⟩) (v := ?_) rfl ?_ ?_; rotate_left; (focus (intro w9 hSw; go_simp; try with_reducible rfl)); simp only [Act.put, Z2, Z3, Z4]
    refine wpGv (i := 3) (oi := ⟨some 20, _, _, _, _, _⟩) (v := ?_) rfl ?_ ?_; rotate_left; (focus (intro w9 hSw; go_simp; try with_reducible rfl)); simp only [Act.put, Z2, Z3, Z4]
    refine wpGo (i := 4) (oi := ⟨some 21, _, _, _, _, _⟩) rfl ?_; simp only [Act.put, Z2, Z3, Z4]
    refine wpGo (i := 5) (oi := ⟨some 22, _, _, _, _, _⟩) rfl ?_; simp only [Act.put, Z2, Z3, Z4]
    refine wpGo (i := 6) (oi := ⟨some 23, _, _, _, _, _⟩) rfl ?_; simp only [Act.put, Z2, Z3, Z4]
    refine wpGo (i := 7) (oi := ⟨some 24, _, _, _, _, _⟩) rfl ?_; simp only [Act.put, Z2, Z3, Z4]
    refine wpGo (i := 8) (oi := ⟨some 25, _, _, _, _, _⟩) rfl ?_; simp only [Act.put, Z2, Z3, Z4]
    refine wpGo (i := 9) (oi := ⟨some 26, _, _, _, _, _⟩) rfl ?_; simp only [Act.put, Z2, Z3, Z4]
    refine wpGo (i := 10) (oi := ⟨some 27, _, _, _, _, _⟩) rfl ?_; simp only [Act.put, Z2, Z3, Z4]
    refine wpGo (i := 11) (oi := ⟨some 28, _, _, _, _, _⟩) rfl ?_; simp only [Act.put, Z2, Z3, Z4]
    refine wpGo (i := 12) (oi := ⟨some 29, _, _, _, _, _⟩) rfl ?_; simp only [Act.put, Z2, Z3, Z4]
    refine wpGo (i := 13) (oi := ⟨some 30, _, _, _, _, _⟩) rfl ?_; simp only [Act.put, Z2, Z3, Z4]
    refine wpGo (i := 14) (oi := ⟨some 31, _, _, _, _, _⟩) rfl ?_; simp only [Act.put, Z2, Z3, Z4]
    refine wpGo (i := 15) (oi := ⟨some 32, _, _, _, _, _⟩) rfl ?_; simp only [Act.put, Z2, Z3, Z4]
    refine wpGo (i := 16) (oi := ⟨some 33, _, _, _, _, _⟩) rfl ?_; simp only [Act.put, Z2, Z3, Z4]
    refine wpGo (i := 17) (oi := ⟨some 34, _, _, _, _, _⟩) rfl ?_; simp only [Act.put, Z2, Z3, Z4]
    refine wpGo (i := 18) (oi := ⟨some 35, _, _, _, _, _⟩) rfl ?_; simp only [Act.put, Z2, Z3, Z4]
    refine wpGv (i := 19) (oi := ⟨some 36, _, _, _, _, _⟩) (v := ?_) rfl ?_ ?_; rotate_left; (focus (intro w9 hSw; go_simp; try with_reducible rfl)); simp only [Act.put, Z2, Z3, Z4]
    refine wpG_done (by kernel_rfl) ?_ _
    intro w9 hSw _
    have BB := Lib.hid (HB1.out.trans (((HBX.out).trans (hSw.mono HBX.out.size)).mono HB1.out.size))
    clear hSw
    go_wp2
    go_ret
    exact ⟨by rw [HF.out]; try rfl, BB.out⟩
   by_cases hk0 : k = 0
   ·have HF := Lib.hid (show V = rest by rw [HFF.out, HPRV.out, if_pos hk0]; rfl)
    have d0 : decide (0 < k) = false := decide_eq_false (by omega)
    have d1 : decide ((0 : Int) < (k : Int)) = false := decide_eq_false (by omega)
    clear HFF hk0
    go_wp2_with (first | ((with_reducible refine wpList_load_at (o := ⟨some 16, .load 63 (.tmp 15), _, _, _, _⟩) ?e1 63 (.tmp 15) ?e2 ⟨b1, off1 + k * 19, none⟩ ?e3 _ LL.out ?_); (case e1 => rfl); (case e2 => rfl); (case e3 => rfl)) | ((with_reducible refine wpList_store_new (o := ⟨none, .store 63 (.tmp 4) (.tmp 16), _, _, _, _⟩) ?e1 63 (.tmp 4) (.tmp 16) ?e2 ?e3 (KLn.cs lnA0).toArray EX ?e4 SZX.out SQX.out SOX.out ?_); (case e1 => rfl); (case e2 => rfl); (case e3 => rfl); (case e4 => rfl)))
    refine wp_region_G _ (by kernel_rfl) ?_
    refine wpGv (i := 0) (oi := ⟨some 17, _, _, _, _, _⟩) (v := (.agg EX)) rfl ?_ ?_; (focus (intro w9 hSw; exact exec_load_at 63 _ rfl _ rfl (L17.out w9 hSw))); simp only [Act.put, Z2, Z3, Z4]
    refine wpG_take (i := 1) (oi := ⟨some 18, _, _, _, _, _⟩) rfl (by kernel_rfl) (by kernel_rfl) (by kernel_rfl) (Or.inl ⟨by rfl, unib_call_if ?_ HML.out⟩) ?_; (focus (intro w9 hSw; go_simp; try with_reducible rfl)); simp only [Act.put, Z2, Z3, Z4]
    refine wpGv (i := 2) (oi := ⟨some 19, _, _, _, _, _⟩) (v := ?_) rfl ?_ ?_; rotate_left; (focus (intro w9 hSw; go_simp; try with_reducible rfl)); simp only [Act.put, Z2, Z3, Z4]
    refine wpGv (i := 3) (oi := ⟨some 20, _, _, _, _, _⟩) (v := ?_) rfl ?_ ?_; rotate_left; (focus (intro w9 hSw; go_simp; try with_reducible rfl)); simp only [Act.put, Z2, Z3, Z4]
    refine wpGv (i := 4) (oi := ⟨some 21, _, _, _, _, _⟩) (v := ?_) rfl ?_ ?_; rotate_left; (focus (intro w9 hSw; go_simp; try with_reducible rfl)); simp only [Act.put, Z2, Z3, Z4]
    refine wpGv (i := 5) (oi := ⟨some 22, _, _, _, _, _⟩) (v := ?_) rfl ?_ ?_; rotate_left; (focus (intro w9 hSw; go_simp; try with_reducible rfl)); simp only [Act.put, Z2, Z3, Z4]
    refine wpGv (i := 6) (oi := ⟨some 23, _, _, _, _, _⟩) (v := ?_) rfl ?_ ?_; rotate_left; (focus (intro w9 hSw; go_simp; try with_reducible rfl)); simp only [Act.put, Z2, Z3, Z4]
    refine wpGo (i := 7) (oi := ⟨some 24, _, _, _, _, _⟩) rfl ?_; simp only [Act.put, Z2, Z3, Z4]
    refine wpGo (i := 8) (oi := ⟨some 25, _, _, _, _, _⟩) rfl ?_; simp only [Act.put, Z2, Z3, Z4]
    refine wpGo (i := 9) (oi := ⟨some 26, _, _, _, _, _⟩) rfl ?_; simp only [Act.put, Z2, Z3, Z4]
    refine wpGo (i := 10) (oi := ⟨some 27, _, _, _, _, _⟩) rfl ?_; simp only [Act.put, Z2, Z3, Z4]
    refine wpGo (i := 11) (oi := ⟨some 28, _, _, _, _, _⟩) rfl ?_; simp only [Act.put, Z2, Z3, Z4]
    refine wpGo (i := 12) (oi := ⟨some 29, _, _, _, _, _⟩) rfl ?_; simp only [Act.put, Z2, Z3, Z4]
    refine wpGo (i := 13) (oi := ⟨some 30, _, _, _, _, _⟩) rfl ?_; simp only [Act.put, Z2, Z3, Z4]
    refine wpGo (i := 14) (oi := ⟨some 31, _, _, _, _, _⟩) rfl ?_; simp only [Act.put, Z2, Z3, Z4]
    refine wpGo (i := 15) (oi := ⟨some 32, _, _, _, _, _⟩) rfl ?_; simp only [Act.put, Z2, Z3, Z4]
    refine wpGo (i := 16) (oi := ⟨some 33, _, _, _, _, _⟩) rfl ?_; simp only [Act.put, Z2, Z3, Z4]
    refine wpGo (i := 17) (oi := ⟨some 34, _, _, _, _, _⟩) rfl ?_; simp only [Act.put, Z2, Z3, Z4]
    refine wpGv (i := 18) (oi := ⟨some 35, _, _, _, _, _⟩) (v := ?_) rfl ?_ ?_; rotate_left; (focus (intro w9 hSw; go_simp; try with_reducible rfl)); simp only [Act.put, Z2, Z3, Z4]
    refine wpGv (i := 19) (oi := ⟨some 36, _, _, _, _, _⟩) (v := ?_) rfl ?_ ?_; rotate_left; (focus (intro w9 hSw; go_simp; try with_reducible rfl)); simp only [Act.put, Z2, Z3, Z4]
    refine wpG_done (by kernel_rfl) ?_ _
    intro w9 hSw _
    have BB := Lib.hid (HBX.out.trans (hSw.mono HBX.out.size))
    clear hSw
    go_wp2
    go_roundw
    case rel => exact ⟨k + 1, by omega, by go_num, BB.out, by rw [HRST.out]; exact HF.out⟩
    case measure => simp [intOf]; omega
   ·have hk1 : 0 < k := by omega
    have t5 : (0 : Int) < (k : Int) := by omega
    have hp := HPID.out hk1
    have LP := Lib.hid (fun w9 (h9 : Below (wr.alloc (.cells EX 63)).heap.size (wr.alloc (.cells EX 63)) w9) => (hp w9 (HBX.out.trans (h9.mono HBX.out.size))).1)
    have HPZ := Lib.hid (hp _ HBX.out).2.1
    have IXP := Lib.hid (HIXP.out hk1)
    have HLE := Lib.hid (fun X => bless_any pz x.z X (hp _ HBX.out).2.2 HZB.out (hp _ HBX.out).2.1 HZ16.out)
    have HF3 := Lib.hid (show V = (lessL pz x.z && rest) by rw [HFF.out, HPRV.out, if_neg hk0]; rfl)
    clear HFF hp
    generalize lessL pz x.z = b8 at *
    cases b8
    ·have HF := Lib.hid (show V = false by rw [HF3.out]; rfl)
     clear HF3
     go_wp2_with (first | ((with_reducible refine wpList_load_at (o := ⟨some 16, .load 63 (.tmp 15), _, _, _, _⟩) ?e1 63 (.tmp 15) ?e2 ⟨b1, off1 + k * 19, none⟩ ?e3 _ LL.out ?_); (case e1 => rfl); (case e2 => rfl); (case e3 => rfl)) | ((with_reducible refine wpList_store_new (o := ⟨none, .store 63 (.tmp 4) (.tmp 16), _, _, _, _⟩) ?e1 63 (.tmp 4) (.tmp 16) ?e2 ?e3 (KLn.cs lnA0).toArray EX ?e4 SZX.out SQX.out SOX.out ?_); (case e1 => rfl); (case e2 => rfl); (case e3 => rfl); (case e4 => rfl)))
     refine wp_region_G _ (by kernel_rfl) ?_
     refine wpGv (i := 0) (oi := ⟨some 17, _, _, _, _, _⟩) (v := (.agg EX)) rfl ?_ ?_; (focus (intro w9 hSw; exact exec_load_at 63 _ rfl _ rfl (L17.out w9 hSw))); simp only [Act.put, Z2, Z3, Z4]
     refine wpG_take (i := 1) (oi := ⟨some 18, _, _, _, _, _⟩) rfl (by kernel_rfl) (by kernel_rfl) (by kernel_rfl) (Or.inl ⟨by rfl, unib_call_if ?_ HML.out⟩) ?_; (focus (intro w9 hSw; go_simp; try with_reducible rfl)); simp only [Act.put, Z2, Z3, Z4]
     refine wpGv (i := 2) (oi := ⟨some 19, _, _, _, _, _⟩) (v := ?_) rfl ?_ ?_; rotate_left; (focus (intro w9 hSw; go_simp; try with_reducible rfl)); simp only [Act.put, Z2, Z3, Z4]
     refine wpGv (i := 3) (oi := ⟨some 20, _, _, _, _, _⟩) (v := ?_) rfl ?_ ?_; rotate_left; (focus (intro w9 hSw; go_simp; try with_reducible rfl)); simp only [Act.put, Z2, Z3, Z4]
     refine wpGv (i := 4) (oi := ⟨some 21, _, _, _, _, _⟩) (v := ?_) rfl ?_ ?_; rotate_left; (focus (intro w9 hSw; go_simp; try with_reducible rfl)); simp only [Act.put, Z2, Z3, Z4]
     refine wpGv (i := 5) (oi := ⟨some 22, _, _, _, _, _⟩) (v := ?_) rfl ?_ ?_; rotate_left; (focus (intro w9 hSw; go_simp; try with_reducible rfl)); simp only [Act.put, Z2, Z3, Z4]
     refine wpGv (i := 6) (oi := ⟨some 23, _, _, _, _, _⟩) (v := ?_) rfl ?_ ?_; rotate_left; (focus (intro w9 hSw; go_simp; try with_reducible rfl)); simp only [Act.put, Z2, Z3, Z4]
     refine wpGv (i := 7) (oi := ⟨some 24, _, _, _, _, _⟩) (v := ?_) rfl ?_ ?_; rotate_left; (focus (intro w9 hSw; go_simp; try with_reducible rfl)); simp only [Act.put, Z2, Z3, Z4]
     refine wpGv (i := 8) (oi := ⟨some 25, _, _, _, _, _⟩) (v := ?_) rfl ?_ ?_; rotate_left; (focus (intro w9 hSw; have q0 := HS32.out w9 hSw; go_simp; try with_reducible rfl)); simp only [Act.put, Z2, Z3, Z4]
     refine wpGv (i := 9) (oi := ⟨some 26, _, _, _, _, _⟩) (v := ?_) rfl ?_ ?_; rotate_left; (focus (intro w9 hSw; go_simp; try with_reducible rfl)); simp only [Act.put, Z2, Z3, Z4]
     refine wpGv (i := 10) (oi := ⟨some 27, _, _, _, _, _⟩) (v := ?_) rfl ?_ ?_; rotate_left; (focus (intro w9 hSw; have x1 : IntKind.i64.wrap ((k : Int) - 1) = (k : Int) - 1 := IntWalk.i64_in _ (by omega); go_simp; try with_reducible rfl)); simp only [Act.put, Z2, Z3, Z4]
     refine wpGv (i := 11) (oi := ⟨some 28, _, _, _, _, _⟩) (v := ?_) rfl ?_ ?_; rotate_left; (focus (intro w9 hSw; have q0 := IXP.out w9; go_simp; try with_reducible rfl)); simp only [Act.put, Z2, Z3, Z4]
     refine wpGv (i := 12) (oi := ⟨some 29, _, _, _, _, _⟩) (v := ?_) rfl ?_ ?_; rotate_left; (focus (intro w9 hSw; go_simp; try with_reducible rfl)); simp only [Act.put, Z2, Z3, Z4]
     refine wpGv (i := 13) (oi := ⟨some 30, _, _, _, _, _⟩) (v := (.agg (bvals pz))) rfl ?_ ?_; (focus (intro w9 hSw; exact exec_load_at 31 _ rfl _ rfl (load_idM (LP.out w9 hSw) HPZ.out))); simp only [Act.put, Z2, Z3, Z4]
     refine wpGv (i := 14) (oi := ⟨some 31, _, _, _, _, _⟩) (v := ?_) rfl ?_ ?_; rotate_left; (focus (intro w9 hSw; go_simp; try with_reducible rfl)); simp only [Act.put, Z2, Z3, Z4]
     refine wpGv (i := 15) (oi := ⟨some 32, _, _, _, _, _⟩) (v := (.agg (bvals x.z))) rfl ?_ ?_; (focus (intro w9 hSw; exact exec_load_at 31 _ rfl _ rfl (load_idM (LZ.out w9 hSw) HZ16.out))); simp only [Act.put, Z2, Z3, Z4]
     refine wpG_take (i := 16) (oi := ⟨some 33, _, _, _, _, _⟩) rfl (by kernel_rfl) (by kernel_rfl) (by kernel_rfl) (Or.inl ⟨by rfl, unib_call ?_ HLE.out⟩) ?_; (focus (intro w9 hSw; go_simp; try with_reducible rfl)); simp only [Act.put, Z2, Z3, Z4]
     refine wpGv (i := 17) (oi := ⟨some 34, _, _, _, _, _⟩) (v := ?_) rfl ?_ ?_; rotate_left; (focus (intro w9 hSw; go_simp; try with_reducible rfl)); simp only [Act.put, Z2, Z3, Z4]
     refine wpGv (i := 18) (oi := ⟨some 35, _, _, _, _, _⟩) (v := ?_) rfl ?_ ?_; rotate_left; (focus (intro w9 hSw; go_simp; try with_reducible rfl)); simp only [Act.put, Z2, Z3, Z4]
     refine wpGv (i := 19) (oi := ⟨some 36, _, _, _, _, _⟩) (v := ?_) rfl ?_ ?_; rotate_left; (focus (intro w9 hSw; go_simp; try with_reducible rfl)); simp only [Act.put, Z2, Z3, Z4]
     refine wpG_done (by kernel_rfl) ?_ _
     intro w9 hSw _
     have BB := Lib.hid (HB1.out.trans (((HBX.out).trans (hSw.mono HBX.out.size)).mono HB1.out.size))
     clear hSw
     go_wp2
     go_ret
     exact ⟨by rw [HF.out]; try rfl, BB.out⟩
    ·have HF := Lib.hid (show V = rest by rw [HF3.out]; rfl)
     clear HF3
     go_wp2_with (first | ((with_reducible refine wpList_load_at (o := ⟨some 16, .load 63 (.tmp 15), _, _, _, _⟩) ?e1 63 (.tmp 15) ?e2 ⟨b1, off1 + k * 19, none⟩ ?e3 _ LL.out ?_); (case e1 => rfl); (case e2 => rfl); (case e3 => rfl)) | ((with_reducible refine wpList_store_new (o := ⟨none, .store 63 (.tmp 4) (.tmp 16), _, _, _, _⟩) ?e1 63 (.tmp 4) (.tmp 16) ?e2 ?e3 (KLn.cs lnA0).toArray EX ?e4 SZX.out SQX.out SOX.out ?_); (case e1 => rfl); (case e2 => rfl); (case e3 => rfl); (case e4 => rfl)))
     refine wp_region_G _ (by kernel_rfl) ?_
     refine wpGv (i := 0) (oi := ⟨some 17, _, _, _, _, _⟩) (v := (.agg EX)) rfl ?_ ?_; (focus (intro w9 hSw; exact exec_load_at 63 _ rfl _ rfl (L17.out w9 hSw))); simp only [Act.put, Z2, Z3, Z4]
     refine wpG_take (i := 1) (oi := ⟨some 18, _, _, _, _, _⟩) rfl (by kernel_rfl) (by kernel_rfl) (by kernel_rfl) (Or.inl ⟨by rfl, unib_call_if ?_ HML.out⟩) ?_; (focus (intro w9 hSw; go_simp; try with_reducible rfl)); simp only [Act.put, Z2, Z3, Z4]
     refine wpGv (i := 2) (oi := ⟨some 19, _, _, _, _, _⟩) (v := ?_) rfl ?_ ?_; rotate_left; (focus (intro w9 hSw; go_simp; try with_reducible rfl)); simp only [Act.put, Z2, Z3, Z4]
     refine wpGv (i := 3) (oi := ⟨some 20, _, _, _, _, _⟩) (v := ?_) rfl ?_ ?_; rotate_left; (focus (intro w9 hSw; go_simp; try with_reducible rfl)); simp only [Act.put, Z2, Z3, Z4]
     refine wpGv (i := 4) (oi := ⟨some 21, _, _, _, _, _⟩) (v := ?_) rfl ?_ ?_; rotate_left; (focus (intro w9 hSw; go_simp; try with_reducible rfl)); simp only [Act.put, Z2, Z3, Z4]
     refine wpGv (i := 5) (oi := ⟨some 22, _, _, _, _, _⟩) (v := ?_) rfl ?_ ?_; rotate_left; (focus (intro w9 hSw; go_simp; try with_reducible rfl)); simp only [Act.put, Z2, Z3, Z4]
     refine wpGv (i := 6) (oi := ⟨some 23, _, _, _, _, _⟩) (v := ?_) rfl ?_ ?_; rotate_left; (focus (intro w9 hSw; go_simp; try with_reducible rfl)); simp only [Act.put, Z2, Z3, Z4]
     refine wpGv (i := 7) (oi := ⟨some 24, _, _, _, _, _⟩) (v := ?_) rfl ?_ ?_; rotate_left; (focus (intro w9 hSw; go_simp; try with_reducible rfl)); simp only [Act.put, Z2, Z3, Z4]
     refine wpGv (i := 8) (oi := ⟨some 25, _, _, _, _, _⟩) (v := ?_) rfl ?_ ?_; rotate_left; (focus (intro w9 hSw; have q0 := HS32.out w9 hSw; go_simp; try with_reducible rfl)); simp only [Act.put, Z2, Z3, Z4]
     refine wpGv (i := 9) (oi := ⟨some 26, _, _, _, _, _⟩) (v := ?_) rfl ?_ ?_; rotate_left; (focus (intro w9 hSw; go_simp; try with_reducible rfl)); simp only [Act.put, Z2, Z3, Z4]
     refine wpGv (i := 10) (oi := ⟨some 27, _, _, _, _, _⟩) (v := ?_) rfl ?_ ?_; rotate_left; (focus (intro w9 hSw; have x1 : IntKind.i64.wrap ((k : Int) - 1) = (k : Int) - 1 := IntWalk.i64_in _ (by omega); go_simp; try with_reducible rfl)); simp only [Act.put, Z2, Z3, Z4]
     refine wpGv (i := 11) (oi := ⟨some 28, _, _, _, _, _⟩) (v := ?_) rfl ?_ ?_; rotate_left; (focus (intro w9 hSw; have q0 := IXP.out w9; go_simp; try with_reducible rfl)); simp only [Act.put, Z2, Z3, Z4]
     refine wpGv (i := 12) (oi := ⟨some 29, _, _, _, _, _⟩) (v := ?_) rfl ?_ ?_; rotate_left; (focus (intro w9 hSw; go_simp; try with_reducible rfl)); simp only [Act.put, Z2, Z3, Z4]
     refine wpGv (i := 13) (oi := ⟨some 30, _, _, _, _, _⟩) (v := (.agg (bvals pz))) rfl ?_ ?_; (focus (intro w9 hSw; exact exec_load_at 31 _ rfl _ rfl (load_idM (LP.out w9 hSw) HPZ.out))); simp only [Act.put, Z2, Z3, Z4]
     refine wpGv (i := 14) (oi := ⟨some 31, _, _, _, _, _⟩) (v := ?_) rfl ?_ ?_; rotate_left; (focus (intro w9 hSw; go_simp; try with_reducible rfl)); simp only [Act.put, Z2, Z3, Z4]
     refine wpGv (i := 15) (oi := ⟨some 32, _, _, _, _, _⟩) (v := (.agg (bvals x.z))) rfl ?_ ?_; (focus (intro w9 hSw; exact exec_load_at 31 _ rfl _ rfl (load_idM (LZ.out w9 hSw) HZ16.out))); simp only [Act.put, Z2, Z3, Z4]
     refine wpG_take (i := 16) (oi := ⟨some 33, _, _, _, _, _⟩) rfl (by kernel_rfl) (by kernel_rfl) (by kernel_rfl) (Or.inl ⟨by rfl, unib_call ?_ HLE.out⟩) ?_; (focus (intro w9 hSw; go_simp; try with_reducible rfl)); simp only [Act.put, Z2, Z3, Z4]
     refine wpGv (i := 17) (oi := ⟨some 34, _, _, _, _, _⟩) (v := ?_) rfl ?_ ?_; rotate_left; (focus (intro w9 hSw; go_simp; try with_reducible rfl)); simp only [Act.put, Z2, Z3, Z4]
     refine wpGv (i := 18) (oi := ⟨some 35, _, _, _, _, _⟩) (v := ?_) rfl ?_ ?_; rotate_left; (focus (intro w9 hSw; go_simp; try with_reducible rfl)); simp only [Act.put, Z2, Z3, Z4]
     refine wpGv (i := 19) (oi := ⟨some 36, _, _, _, _, _⟩) (v := ?_) rfl ?_ ?_; rotate_left; (focus (intro w9 hSw; go_simp; try with_reducible rfl)); simp only [Act.put, Z2, Z3, Z4]
     refine wpG_done (by kernel_rfl) ?_ _
     intro w9 hSw _
     have BB := Lib.hid (HBX.out.trans (hSw.mono HBX.out.size))
     clear hSw
     go_wp2
     go_roundw
     case rel => exact ⟨k + 1, by omega, by go_num, BB.out, by rw [HRST.out]; exact HF.out⟩
     case measure => simp [intOf]; omega
  ·obtain rfl : k = n := by omega
   have t1 : ¬ (k : Int) < (k : Int) := by omega
   have HF := Lib.hid (show V = true by rw [hf, List.drop_eq_nil_of_le (by rw [HN.out]; exact Nat.le_refl _)]; simp [lsOk])
   have B9 := Lib.hid (HB1.out.trans (hb.mono HB1.out.size))
   clear hf hb
   go_wp2
   go_ret
   exact ⟨by rw [HF.out]; try rfl, B9.out⟩
end
end Go.Proofs.YtnlhkpmgbpfjmaaGreatDoor
