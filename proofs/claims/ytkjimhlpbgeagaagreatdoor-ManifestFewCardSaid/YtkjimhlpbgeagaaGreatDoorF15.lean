import Derived.Test.YtkjimhlpbgeagaaGreatDoorF0
import Derived.Test.YtkjimhlpbgeagaaGreatDoorF14
import Derived.Test.YtkjimhlpbgeagaaGreatDoorF13
import Derived.Test.YtkjimhlpbgeagaaGreatDoorF8
import Derived.Test.YtkjimhlpbgeagaaGreatDoorF7
import Derived.Test.YtkjimhlpbgeagaaGreatDoorF6
import Derived.Test.YtkjimhlpbgeagaaGreatDoorF1
import Derived.Test.YtkjimhlpbgeagaaGreatDoorF3
import Derived.Test.YtkjimhlpbgeagaaGreatDoorF4
import Derived.Test.YtkjimhlpbgeagaaGreatDoorF5
import Derived.Test.YtkjimhlpbgeagaaGreatDoorF11
import Derived.BigQuiet
import Derived.Deep.RegionHeld3
/-
  What the functions that a law of this layer reaches answer, part 15. Nothing that was there is written.
-/
namespace Go.Proofs.YtkjimhlpbgeagaaGreatDoor
set_option linter.unusedVariables false
set_option linter.unusedSimpArgs false
section
open Go.RowKit WM
set_option maxRecDepth 100000
def prevZ (xs : List RcA) (k : Nat) : Option (List Int) := if k = 0 then none else some (xs.getD (k - 1) rcA0).R.z
theorem okB_drop {xs : List RcA} {k : Nat} (p : Option (List Int)) (hk : k < xs.length) : okB p ((xs.drop k).map (·.R)) =
  ((xs.getD k rcA0).R.may && pzok p (xs.getD k rcA0).R.z && okB (some (xs.getD k rcA0).R.z) ((xs.drop (k + 1)).map (·.R))) := by
 rw [List.drop_eq_getElem_cons hk, List.map_cons, okB]
 simp only [List.getD, List.getElem?_eq_getElem hk, Option.getD_some]
theorem prevZ_succ (xs : List RcA) (k : Nat) : prevZ xs (k + 1) = some (xs.getD k rcA0).R.z := by
 unfold prevZ
 rw [if_neg (by omega), Nat.add_sub_cancel]
set_option maxHeartbeats 8000000 in
theorem bmay_any (b : Bk) (w : World) (h : BkAt w b) :
  Calls Tryz.prog 16 #[.agg #[.slice b.A b.xs.length b.c]] w fun e w' => e = .returned (.bool (bmay b.rs)) ∧ Below w.heap.size w w' := by
 obtain ⟨xs, A, c⟩ := b
 dsimp only
 have S0 := Lib.hid (BoAt.new w (.slice A xs.length c))
 have HB := Lib.hid ((Below.refl w.heap.size w).alloc (Nat.le_refl _) (.cells #[.slice A xs.length c] 40))
 have s0 := S0.out.c0
 have HRV := Lib.hid (fun i (hi : i < xs.length) => RsAt.rv h hi)
 obtain ⟨hc1, hc2, hc3, hcell, _⟩ := h
 dsimp only at hc1 hc2 hc3 hcell HRV
 simp only [maxLen] at hc2
 have HC := Lib.hid hcell
 have HV : Hid (bmay (Bk.rs ⟨xs, A, c⟩) = (decide (xs.length ≤ 10) && okB (prevZ xs 0) ((xs.drop 0).map (·.R)))) := Lib.hid (by unfold bmay Bk.rs; rw [List.length_map]; rfl)
 clear hcell
 have hz := zeroX
 generalize bmay (Bk.rs ⟨xs, A, c⟩) = V at HV ⊢
 by_cases h10 : xs.length ≤ 10
 ·have hV2 := HV.out
  rw [decide_eq_true h10, Bool.true_and] at hV2
  have HV2 := Lib.hid hV2
  generalize hlen : xs.length = len at *
  have HLN := Lib.hid hlen
  have t1 : ¬ 10 < (len : Int) := by omega
  clear hV2 hlen
  go_enter Tryz.func16, Tryz.ntmps16
  go_wp2
  clear s0
  go_loopw [12] (fun i wr => ∃ k : Nat, k ≤ len ∧ i = .int .i64 k ∧ BoAt wr w.heap.size (.slice A len c) ∧ Below w.heap.size w wr ∧ V = okB (prevZ xs k) ((xs.drop k).map (·.R))) (fun i _ => len - (intOf i).toNat)
  case atStart => exact ⟨0, Nat.zero_le _, rfl, S0.out, HB.out, HV2.out⟩
  case round =>
   obtain ⟨k, hk, rfl, hs, hb, hf⟩ := hrel
   by_cases hlt : k < len
   ·obtain ⟨b0, off, rfl, hb0, hcc⟩ := HC.out (by omega)
    have hx := (hcc k hlt).same (hb.block b0 hb0)
    have IX := ix_rec b0 off len c k hlt k rfl
    have HXV := Lib.hid ((HRV.out k hlt).below hb (Nat.le_refl _))
    rw [okB_drop _ (by rw [HLN.out]; exact hlt), ← prevZ_succ] at hf
    have HZ16 := Lib.hid HXV.out.len
    have HBS := Lib.hid (And.intro hs hb)
    have hb02 := Nat.lt_of_lt_of_le hb0 hb.size
    have LX := Lib.hid hx.load
    have HPZ := Lib.hid (show prevZ xs (k + 1) = some (xs.getD k rcA0).R.z from prevZ_succ _ _)
    have HY : Hid (0 < k → ∃ y : RcA, prevZ xs k = some y.R.z ∧ RvAt wr y ∧ RecAt wr b0 (off + (k - 1) * 19) y) := Lib.hid (fun h0 => ⟨xs.getD (k - 1) rcA0, by unfold prevZ; rw [if_neg (by omega)], (HRV.out (k - 1) (by omega)).below hb (Nat.le_refl _), (hcc (k - 1) (by omega)).same (hb.block b0 hb0)⟩)
    generalize xs.getD k rcA0 = x at *
    generalize hpzq : prevZ xs (k + 1) = pz at *
    have HPQ := Lib.hid hpzq
    generalize hox : off + k * 19 = ox at *
    clear hcc hs hb hx hox hpzq
    have hS3 := HBS.out.1.c0
    cases hm : x.R.may
    ·rw [hm] at hf
     simp only [Bool.false_and] at hf
     have HF := Lib.hid hf
     have HMY := Lib.hid hm
     clear hf hm
     go_wp2_with (first | ((with_reducible refine wpList_load_by (o := ⟨some 16, .load 61 (.tmp 15), _, _, _, _⟩) ?e1 61 (.tmp 15) ?e2 ⟨b0, ox, none⟩ ?e3 _ LX.out ?_); (case e1 => rfl); (case e2 => rfl); (case e3 => rfl)) | ((with_reducible refine wpList_store_newx (o := ⟨none, .store 61 (.tmp 4) (.tmp 16), _, _, _, _⟩) (w := wr) ?e1 (.tmp 4) (.tmp 16) ?e2 wr.heap.size ?e0 ?e3 x ?e4 HZ16.out ?_); (case e1 => rfl); (case e2 => rfl); (case e0 => rfl); (case e3 => rfl); (case e4 => rfl); intro w2 hb2 hx2 hs2; have X2 := Lib.hid hx2; have HS2 := Lib.hid hs2; have HW2 := Lib.hid hb2; have HB2 := Lib.hid (HBS.out.2.trans (hb2.mono HBS.out.2.size)); have B2 := Lib.hid (HBS.out.1.below hb2 HBS.out.1.lt); have HM := Lib.hid (fun (w9 : World) (hS : Below w2.heap.size w2 w9) => xmay_any x w9 ((HXV.out.below hb2 (Nat.le_refl _)).below hS (Nat.le_refl _))); rw [HMY.out] at HM; clear hb2 hx2 hs2))
     refine wp_region_G _ (by kernel_rfl) ?_
     refine wpGv (i := 0) (oi := ⟨some 17, _, _, _, _, _⟩) (v := (.agg x.cells)) rfl ?_ ?_; (focus (intro w9 hSw; exact exec_load_by 61 _ rfl ⟨wr.heap.size, 0, none⟩ rfl (X2.out.below hSw X2.out.lt).load)); simp only [Act.put, Z2, Z3, Z4]
     refine wpG_take (i := 1) (oi := ⟨some 18, _, _, _, _, _⟩) rfl (by kernel_rfl) (by kernel_rfl) (by kernel_rfl) (Or.inl ⟨by rfl, unib_call_if ?_ HM.out⟩) ?_; (focus (intro w9 hSw; go_simp; try with_reducible rfl)); simp only [Act.put, Z2, Z3, Z4]
     refine wpGv (i := 2) (oi := ⟨some 19, _, _, _, _, _⟩) (v := ?_) rfl ?_ ?_; rotate_left; (focus (intro w9 hSw; go_simp; try with_reducible rfl)); simp only [Act.put, Z2, Z3, Z4]
     refine wpGv (i := 3) (oi := ⟨some 20, _, _, _, _, _⟩) (v := ?_) rfl ?_ ?_; rotate_left; (focus (intro w9 hSw; go_simp; try with_reducible rfl)); simp only [Act.put, Z2, Z3, Z4]
     refine wpGo (i := 4) (oi := ⟨some 21, _, _, _, _, _⟩) rfl ?_; simp only [Act.put, Z2, Z3, Z4]
     refine wpGo (i := 5) (oi := ⟨some 22, _, _, _, _, _⟩) rfl ?_; simp only [Act.put, Z2, Z3, Z4]
     refine wpGo (i := 6) (oi := ⟨some 23, _, _, _, _, _⟩) rfl ?_; simp only [Act.put, Z2, Z3, Z4]
     refine wpGo (i := 7) (oi := ⟨some 24, _, _, _, _, _⟩) rfl ?_; simp only [Act.put, Z2, Z3, Z4]
     refine wpGo (i := 8) (oi := ⟨some 25, _, _, _, _, _⟩) rfl ?_; simp only [Act.put, Z2, Z3, Z4]
     refine wpGo (i := 9) (oi := ⟨some 26, _, _, _, _, _⟩) rfl ?_; simp only [Act.put, Z2, Z3, Z4]
     refine wpGo (i := 10) (oi := ⟨some 27, _, _, _, _, _⟩) rfl ?_; simp only [Act.put, Z2, Z3, Z4]
     refine wpGo (i := 11) (oi := ⟨some 28, _, _, _, _, _⟩) rfl ?_; simp only [Act.put, Z2, Z3, Z4]
     refine wpGo (i := 12) (oi := ⟨some 29, _, _, _, _, _⟩) rfl ?_; simp only [Act.put, Z2, Z3, Z4]
     refine wpGo (i := 13) (oi := ⟨some 30, _, _, _, _, _⟩) rfl ?_; simp only [Act.put, Z2, Z3, Z4]
     refine wpGo (i := 14) (oi := ⟨some 31, _, _, _, _, _⟩) rfl ?_; simp only [Act.put, Z2, Z3, Z4]
     refine wpGo (i := 15) (oi := ⟨some 32, _, _, _, _, _⟩) rfl ?_; simp only [Act.put, Z2, Z3, Z4]
     refine wpGo (i := 16) (oi := ⟨some 33, _, _, _, _, _⟩) rfl ?_; simp only [Act.put, Z2, Z3, Z4]
     refine wpGo (i := 17) (oi := ⟨some 34, _, _, _, _, _⟩) rfl ?_; simp only [Act.put, Z2, Z3, Z4]
     refine wpGo (i := 18) (oi := ⟨some 35, _, _, _, _, _⟩) rfl ?_; simp only [Act.put, Z2, Z3, Z4]
     refine wpGv (i := 19) (oi := ⟨some 36, _, _, _, _, _⟩) (v := ?_) rfl ?_ ?_; rotate_left; (focus (intro w9 hSw; go_simp; try with_reducible rfl)); simp only [Act.put, Z2, Z3, Z4]
     refine wpG_done (by kernel_rfl) ?_ _
     intro w9 hSw _
     have B9 := Lib.hid (HB2.out.trans (hSw.mono HB2.out.size))
     have BO9 := Lib.hid (B2.out.below hSw B2.out.lt)
     clear hSw
     go_wp2
     go_ret
     exact ⟨by rw [HF.out]; rfl, B9.out⟩
    ·rw [hm] at hf
     simp only [Bool.true_and] at hf
     have HMY := Lib.hid hm
     clear hm
     by_cases h0 : k = 0
     ·have HF := Lib.hid (show V = okB pz ((xs.drop (k + 1)).map (·.R)) by rw [hf, prevZ, if_pos h0]; rfl)
      have t3 : ¬ (0 : Int) < (k : Int) := by omega
      clear hf h0
      go_wp2_with (first | ((with_reducible refine wpList_load_by (o := ⟨some 16, .load 61 (.tmp 15), _, _, _, _⟩) ?e1 61 (.tmp 15) ?e2 ⟨b0, ox, none⟩ ?e3 _ LX.out ?_); (case e1 => rfl); (case e2 => rfl); (case e3 => rfl)) | ((with_reducible refine wpList_store_newx (o := ⟨none, .store 61 (.tmp 4) (.tmp 16), _, _, _, _⟩) (w := wr) ?e1 (.tmp 4) (.tmp 16) ?e2 wr.heap.size ?e0 ?e3 x ?e4 HZ16.out ?_); (case e1 => rfl); (case e2 => rfl); (case e0 => rfl); (case e3 => rfl); (case e4 => rfl); intro w2 hb2 hx2 hs2; have X2 := Lib.hid hx2; have HS2 := Lib.hid hs2; have HW2 := Lib.hid hb2; have HB2 := Lib.hid (HBS.out.2.trans (hb2.mono HBS.out.2.size)); have B2 := Lib.hid (HBS.out.1.below hb2 HBS.out.1.lt); have HM := Lib.hid (fun (w9 : World) (hS : Below w2.heap.size w2 w9) => xmay_any x w9 ((HXV.out.below hb2 (Nat.le_refl _)).below hS (Nat.le_refl _))); rw [HMY.out] at HM; clear hb2 hx2 hs2))
      refine wp_region_G _ (by kernel_rfl) ?_
      refine wpGv (i := 0) (oi := ⟨some 17, _, _, _, _, _⟩) (v := (.agg x.cells)) rfl ?_ ?_; (focus (intro w9 hSw; exact exec_load_by 61 _ rfl ⟨wr.heap.size, 0, none⟩ rfl (X2.out.below hSw X2.out.lt).load)); simp only [Act.put, Z2, Z3, Z4]
      refine wpG_take (i := 1) (oi := ⟨some 18, _, _, _, _, _⟩) rfl (by kernel_rfl) (by kernel_rfl) (by kernel_rfl) (Or.inl ⟨by rfl, unib_call_if ?_ HM.out⟩) ?_; (focus (intro w9 hSw; go_simp; try with_reducible rfl)); simp only [Act.put, Z2, Z3, Z4]
      refine wpGv (i := 2) (oi := ⟨some 19, _, _, _, _, _⟩) (v := ?_) rfl ?_ ?_; rotate_left; (focus (intro w9 hSw; go_simp; try with_reducible rfl)); simp only [Act.put, Z2, Z3, Z4]
      refine wpGv (i := 3) (oi := ⟨some 20, _, _, _, _, _⟩) (v := ?_) rfl ?_ ?_; rotate_left; (focus (intro w9 hSw; go_simp; try with_reducible rfl)); simp only [Act.put, Z2, Z3, Z4]
      refine wpGv (i := 4) (oi := ⟨some 21, _, _, _, _, _⟩) (v := ?_) rfl ?_ ?_; rotate_left; (focus (intro w9 hSw; go_simp; try with_reducible rfl)); simp only [Act.put, Z2, Z3, Z4]
      refine wpGv (i := 5) (oi := ⟨some 22, _, _, _, _, _⟩) (v := (.bool false)) rfl ?_ ?_; (focus (intro w9 hSw; have q0 := decide_eq_false (show ¬ (0 : Int) < (k : Int) by omega); first | (go_simp; done) | (go_simp; omega) | (go_simp; rfl) | (simp [go_sem, execOp, q0]; done) | (simp [go_sem, execOp, q0]; rfl))); simp only [Act.put, Z2, Z3, Z4]
      refine wpGv (i := 6) (oi := ⟨some 23, _, _, _, _, _⟩) (v := ?_) rfl ?_ ?_; rotate_left; (focus (intro w9 hSw; go_simp; try with_reducible rfl)); simp only [Act.put, Z2, Z3, Z4]
      refine wpGo (i := 7) (oi := ⟨some 24, _, _, _, _, _⟩) rfl ?_; simp only [Act.put, Z2, Z3, Z4]
      refine wpGo (i := 8) (oi := ⟨some 25, _, _, _, _, _⟩) rfl ?_; simp only [Act.put, Z2, Z3, Z4]
      refine wpGo (i := 9) (oi := ⟨some 26, _, _, _, _, _⟩) rfl ?_; simp only [Act.put, Z2, Z3, Z4]
      refine wpGo (i := 10) (oi := ⟨some 27, _, _, _, _, _⟩) rfl ?_; simp only [Act.put, Z2, Z3, Z4]
      refine wpGo (i := 11) (oi := ⟨some 28, _, _, _, _, _⟩) rfl ?_; simp only [Act.put, Z2, Z3, Z4]
      refine wpGo (i := 12) (oi := ⟨some 29, _, _, _, _, _⟩) rfl ?_; simp only [Act.put, Z2, Z3, Z4]
      refine wpGo (i := 13) (oi := ⟨some 30, _, _, _, _, _⟩) rfl ?_; simp only [Act.put, Z2, Z3, Z4]
      refine wpGo (i := 14) (oi := ⟨some 31, _, _, _, _, _⟩) rfl ?_; simp only [Act.put, Z2, Z3, Z4]
      refine wpGo (i := 15) (oi := ⟨some 32, _, _, _, _, _⟩) rfl ?_; simp only [Act.put, Z2, Z3, Z4]
      refine wpGo (i := 16) (oi := ⟨some 33, _, _, _, _, _⟩) rfl ?_; simp only [Act.put, Z2, Z3, Z4]
      refine wpGo (i := 17) (oi := ⟨some 34, _, _, _, _, _⟩) rfl ?_; simp only [Act.put, Z2, Z3, Z4]
      refine wpGv (i := 18) (oi := ⟨some 35, _, _, _, _, _⟩) (v := ?_) rfl ?_ ?_; rotate_left; (focus (intro w9 hSw; go_simp; try with_reducible rfl)); simp only [Act.put, Z2, Z3, Z4]
      refine wpGv (i := 19) (oi := ⟨some 36, _, _, _, _, _⟩) (v := ?_) rfl ?_ ?_; rotate_left; (focus (intro w9 hSw; go_simp; try with_reducible rfl)); simp only [Act.put, Z2, Z3, Z4]
      refine wpG_done (by kernel_rfl) ?_ _
      intro w9 hSw _
      have B9 := Lib.hid (HB2.out.trans (hSw.mono HB2.out.size))
      have BO9 := Lib.hid (B2.out.below hSw B2.out.lt)
      clear hSw
      go_wp2
      go_roundw
      case rel => exact ⟨k + 1, by omega, by go_num, BO9.out, B9.out, by rw [HPQ.out]; exact HF.out⟩
      case measure => simp [intOf]; omega
     ·obtain ⟨y, hpy, hyv, hya⟩ := HY.out (by omega)
      rw [hpy, pzok] at hf
      have t3 : (0 : Int) < (k : Int) := by omega
      have IXY := Lib.hid (fun w9 => ix_rec b0 off len c (k - 1) (by omega) ((k : Int) - 1) (by omega) w9)
      have HYV := Lib.hid hyv
      generalize hoy : off + (k - 1) * 19 = oy at *
      have HYA := Lib.hid hya
      clear hoy hyv hya hpy
      cases hl : lessL y.R.z x.R.z
      ·rw [hl] at hf
       simp only [Bool.false_and] at hf
       have HF := Lib.hid hf
       have HLS := Lib.hid hl
       clear hf hl
       go_wp2_with (first | ((with_reducible refine wpList_load_by (o := ⟨some 16, .load 61 (.tmp 15), _, _, _, _⟩) ?e1 61 (.tmp 15) ?e2 ⟨b0, ox, none⟩ ?e3 _ LX.out ?_); (case e1 => rfl); (case e2 => rfl); (case e3 => rfl)) | ((with_reducible refine wpList_store_newx (o := ⟨none, .store 61 (.tmp 4) (.tmp 16), _, _, _, _⟩) (w := wr) ?e1 (.tmp 4) (.tmp 16) ?e2 wr.heap.size ?e0 ?e3 x ?e4 HZ16.out ?_); (case e1 => rfl); (case e2 => rfl); (case e0 => rfl); (case e3 => rfl); (case e4 => rfl); intro w2 hb2 hx2 hs2; have X2 := Lib.hid hx2; have HS2 := Lib.hid hs2; have HW2 := Lib.hid hb2; have HB2 := Lib.hid (HBS.out.2.trans (hb2.mono HBS.out.2.size)); have B2 := Lib.hid (HBS.out.1.below hb2 HBS.out.1.lt); have HM := Lib.hid (fun (w9 : World) (hS : Below w2.heap.size w2 w9) => xmay_any x w9 ((HXV.out.below hb2 (Nat.le_refl _)).below hS (Nat.le_refl _))); rw [HMY.out] at HM; have Y2 := Lib.hid (HYA.out.same (hb2.block b0 hb02)); have HL := Lib.hid (fun (w9 : World) (hS : Below w2.heap.size w2 w9) => bless_any y.R.z x.R.z w9 HYV.out.1.2 HXV.out.1.2 HYV.out.len HXV.out.len); rw [HLS.out] at HL; have hb02 := Nat.lt_of_lt_of_le hb02 hb2.size; clear hb2 hx2 hs2))
       refine wp_region_G _ (by kernel_rfl) ?_
       refine wpGv (i := 0) (oi := ⟨some 17, _, _, _, _, _⟩) (v := (.agg x.cells)) rfl ?_ ?_; (focus (intro w9 hSw; exact exec_load_by 61 _ rfl ⟨wr.heap.size, 0, none⟩ rfl (X2.out.below hSw X2.out.lt).load)); simp only [Act.put, Z2, Z3, Z4]
       refine wpG_take (i := 1) (oi := ⟨some 18, _, _, _, _, _⟩) rfl (by kernel_rfl) (by kernel_rfl) (by kernel_rfl) (Or.inl ⟨by rfl, unib_call_if ?_ HM.out⟩) ?_; (focus (intro w9 hSw; go_simp; try with_reducible rfl)); simp only [Act.put, Z2, Z3, Z4]
       refine wpGv (i := 2) (oi := ⟨some 19, _, _, _, _, _⟩) (v := ?_) rfl ?_ ?_; rotate_left; (focus (intro w9 hSw; go_simp; try with_reducible rfl)); simp only [Act.put, Z2, Z3, Z4]
       refine wpGv (i := 3) (oi := ⟨some 20, _, _, _, _, _⟩) (v := ?_) rfl ?_ ?_; rotate_left; (focus (intro w9 hSw; go_simp; try with_reducible rfl)); simp only [Act.put, Z2, Z3, Z4]
       refine wpGv (i := 4) (oi := ⟨some 21, _, _, _, _, _⟩) (v := ?_) rfl ?_ ?_; rotate_left; (focus (intro w9 hSw; go_simp; try with_reducible rfl)); simp only [Act.put, Z2, Z3, Z4]
       refine wpGv (i := 5) (oi := ⟨some 22, _, _, _, _, _⟩) (v := (.bool true)) rfl ?_ ?_; (focus (intro w9 hSw; have q0 := decide_eq_true (show (0 : Int) < (k : Int) by omega); first | (go_simp; done) | (go_simp; omega) | (go_simp; rfl) | (simp [go_sem, execOp, q0]; done) | (simp [go_sem, execOp, q0]; rfl))); simp only [Act.put, Z2, Z3, Z4]
       refine wpGv (i := 6) (oi := ⟨some 23, _, _, _, _, _⟩) (v := ?_) rfl ?_ ?_; rotate_left; (focus (intro w9 hSw; go_simp; try with_reducible rfl)); simp only [Act.put, Z2, Z3, Z4]
       refine wpGv (i := 7) (oi := ⟨some 24, _, _, _, _, _⟩) (v := ?_) rfl ?_ ?_; rotate_left; (focus (intro w9 hSw; go_simp; try with_reducible rfl)); simp only [Act.put, Z2, Z3, Z4]
       refine wpGv (i := 8) (oi := ⟨some 25, _, _, _, _, _⟩) (v := ?_) rfl ?_ ?_; rotate_left; (focus (intro w9 hSw; have q0 := (B2.out.below hSw B2.out.lt).c0; go_simp; try with_reducible rfl)); simp only [Act.put, Z2, Z3, Z4]
       refine wpGv (i := 9) (oi := ⟨some 26, _, _, _, _, _⟩) (v := ?_) rfl ?_ ?_; rotate_left; (focus (intro w9 hSw; go_simp; try with_reducible rfl)); simp only [Act.put, Z2, Z3, Z4]
       refine wpGv (i := 10) (oi := ⟨some 27, _, _, _, _, _⟩) (v := ?_) rfl ?_ ?_; rotate_left; (focus (intro w9 hSw; have x1 : IntKind.i64.wrap ((k : Int) - 1) = (k : Int) - 1 := IntWalk.i64_in _ (by omega); go_simp; try with_reducible rfl)); simp only [Act.put, Z2, Z3, Z4]
       refine wpGv (i := 11) (oi := ⟨some 28, _, _, _, _, _⟩) (v := ?_) rfl ?_ ?_; rotate_left; (focus (intro w9 hSw; have q0 := IXY.out w9; go_simp; try with_reducible rfl)); simp only [Act.put, Z2, Z3, Z4]
       refine wpGv (i := 12) (oi := ⟨some 29, _, _, _, _, _⟩) (v := ?_) rfl ?_ ?_; rotate_left; (focus (intro w9 hSw; go_simp; try with_reducible rfl)); simp only [Act.put, Z2, Z3, Z4]
       refine wpGv (i := 13) (oi := ⟨some 30, _, _, _, _, _⟩) (v := (.agg (bvals y.R.z))) rfl ?_ ?_; (focus (intro w9 hSw; exact exec_load_by 30 _ rfl ⟨b0, oy, none⟩ rfl (Y2.out.same (hSw.block b0 hb02)).load_id)); simp only [Act.put, Z2, Z3, Z4]
       refine wpGv (i := 14) (oi := ⟨some 31, _, _, _, _, _⟩) (v := ?_) rfl ?_ ?_; rotate_left; (focus (intro w9 hSw; go_simp; try with_reducible rfl)); simp only [Act.put, Z2, Z3, Z4]
       refine wpGv (i := 15) (oi := ⟨some 32, _, _, _, _, _⟩) (v := (.agg (bvals x.R.z))) rfl ?_ ?_; (focus (intro w9 hSw; exact exec_load_by 30 _ rfl ⟨wr.heap.size, 0, none⟩ rfl (X2.out.below hSw X2.out.lt).load_id)); simp only [Act.put, Z2, Z3, Z4]
       refine wpG_take (i := 16) (oi := ⟨some 33, _, _, _, _, _⟩) rfl (by kernel_rfl) (by kernel_rfl) (by kernel_rfl) (Or.inl ⟨by rfl, unib_call_if ?_ HL.out⟩) ?_; (focus (intro w9 hSw; go_simp; try with_reducible rfl)); simp only [Act.put, Z2, Z3, Z4]
       refine wpGv (i := 17) (oi := ⟨some 34, _, _, _, _, _⟩) (v := ?_) rfl ?_ ?_; rotate_left; (focus (intro w9 hSw; go_simp; try with_reducible rfl)); simp only [Act.put, Z2, Z3, Z4]
       refine wpGv (i := 18) (oi := ⟨some 35, _, _, _, _, _⟩) (v := ?_) rfl ?_ ?_; rotate_left; (focus (intro w9 hSw; go_simp; try with_reducible rfl)); simp only [Act.put, Z2, Z3, Z4]
       refine wpGv (i := 19) (oi := ⟨some 36, _, _, _, _, _⟩) (v := ?_) rfl ?_ ?_; rotate_left; (focus (intro w9 hSw; go_simp; try with_reducible rfl)); simp only [Act.put, Z2, Z3, Z4]
       refine wpG_done (by kernel_rfl) ?_ _
       intro w9 hSw _
       have B9 := Lib.hid (HB2.out.trans (hSw.mono HB2.out.size))
       have BO9 := Lib.hid (B2.out.below hSw B2.out.lt)
       clear hSw
       go_wp2
       go_ret
       exact ⟨by rw [HF.out]; rfl, B9.out⟩
      ·rw [hl] at hf
       simp only [Bool.true_and] at hf
       have HF := Lib.hid hf
       have HLS := Lib.hid hl
       clear hf hl
       go_wp2_with (first | ((with_reducible refine wpList_load_by (o := ⟨some 16, .load 61 (.tmp 15), _, _, _, _⟩) ?e1 61 (.tmp 15) ?e2 ⟨b0, ox, none⟩ ?e3 _ LX.out ?_); (case e1 => rfl); (case e2 => rfl); (case e3 => rfl)) | ((with_reducible refine wpList_store_newx (o := ⟨none, .store 61 (.tmp 4) (.tmp 16), _, _, _, _⟩) (w := wr) ?e1 (.tmp 4) (.tmp 16) ?e2 wr.heap.size ?e0 ?e3 x ?e4 HZ16.out ?_); (case e1 => rfl); (case e2 => rfl); (case e0 => rfl); (case e3 => rfl); (case e4 => rfl); intro w2 hb2 hx2 hs2; have X2 := Lib.hid hx2; have HS2 := Lib.hid hs2; have HW2 := Lib.hid hb2; have HB2 := Lib.hid (HBS.out.2.trans (hb2.mono HBS.out.2.size)); have B2 := Lib.hid (HBS.out.1.below hb2 HBS.out.1.lt); have HM := Lib.hid (fun (w9 : World) (hS : Below w2.heap.size w2 w9) => xmay_any x w9 ((HXV.out.below hb2 (Nat.le_refl _)).below hS (Nat.le_refl _))); rw [HMY.out] at HM; have Y2 := Lib.hid (HYA.out.same (hb2.block b0 hb02)); have HL := Lib.hid (fun (w9 : World) (hS : Below w2.heap.size w2 w9) => bless_any y.R.z x.R.z w9 HYV.out.1.2 HXV.out.1.2 HYV.out.len HXV.out.len); rw [HLS.out] at HL; have hb02 := Nat.lt_of_lt_of_le hb02 hb2.size; clear hb2 hx2 hs2))
       refine wp_region_G _ (by kernel_rfl) ?_
       refine wpGv (i := 0) (oi := ⟨some 17, _, _, _, _, _⟩) (v := (.agg x.cells)) rfl ?_ ?_; (focus (intro w9 hSw; exact exec_load_by 61 _ rfl ⟨wr.heap.size, 0, none⟩ rfl (X2.out.below hSw X2.out.lt).load)); simp only [Act.put, Z2, Z3, Z4]
       refine wpG_take (i := 1) (oi := ⟨some 18, _, _, _, _, _⟩) rfl (by kernel_rfl) (by kernel_rfl) (by kernel_rfl) (Or.inl ⟨by rfl, unib_call_if ?_ HM.out⟩) ?_; (focus (intro w9 hSw; go_simp; try with_reducible rfl)); simp only [Act.put, Z2, Z3, Z4]
       refine wpGv (i := 2) (oi := ⟨some 19, _, _, _, _, _⟩) (v := ?_) rfl ?_ ?_; rotate_left; (focus (intro w9 hSw; go_simp; try with_reducible rfl)); simp only [Act.put, Z2, Z3, Z4]
       refine wpGv (i := 3) (oi := ⟨some 20, _, _, _, _, _⟩) (v := ?_) rfl ?_ ?_; rotate_left; (focus (intro w9 hSw; go_simp; try with_reducible rfl)); simp only [Act.put, Z2, Z3, Z4]
       refine wpGv (i := 4) (oi := ⟨some 21, _, _, _, _, _⟩) (v := ?_) rfl ?_ ?_; rotate_left; (focus (intro w9 hSw; go_simp; try with_reducible rfl)); simp only [Act.put, Z2, Z3, Z4]
       refine wpGv (i := 5) (oi := ⟨some 22, _, _, _, _, _⟩) (v := (.bool true)) rfl ?_ ?_; (focus (intro w9 hSw; have q0 := decide_eq_true (show (0 : Int) < (k : Int) by omega); first | (go_simp; done) | (go_simp; omega) | (go_simp; rfl) | (simp [go_sem, execOp, q0]; done) | (simp [go_sem, execOp, q0]; rfl))); simp only [Act.put, Z2, Z3, Z4]
       refine wpGv (i := 6) (oi := ⟨some 23, _, _, _, _, _⟩) (v := ?_) rfl ?_ ?_; rotate_left; (focus (intro w9 hSw; go_simp; try with_reducible rfl)); simp only [Act.put, Z2, Z3, Z4]
       refine wpGv (i := 7) (oi := ⟨some 24, _, _, _, _, _⟩) (v := ?_) rfl ?_ ?_; rotate_left; (focus (intro w9 hSw; go_simp; try with_reducible rfl)); simp only [Act.put, Z2, Z3, Z4]
       refine wpGv (i := 8) (oi := ⟨some 25, _, _, _, _, _⟩) (v := ?_) rfl ?_ ?_; rotate_left; (focus (intro w9 hSw; have q0 := (B2.out.below hSw B2.out.lt).c0; go_simp; try with_reducible rfl)); simp only [Act.put, Z2, Z3, Z4]
       refine wpGv (i := 9) (oi := ⟨some 26, _, _, _, _, _⟩) (v := ?_) rfl ?_ ?_; rotate_left; (focus (intro w9 hSw; go_simp; try with_reducible rfl)); simp only [Act.put, Z2, Z3, Z4]
       refine wpGv (i := 10) (oi := ⟨some 27, _, _, _, _, _⟩) (v := ?_) rfl ?_ ?_; rotate_left; (focus (intro w9 hSw; have x1 : IntKind.i64.wrap ((k : Int) - 1) = (k : Int) - 1 := IntWalk.i64_in _ (by omega); go_simp; try with_reducible rfl)); simp only [Act.put, Z2, Z3, Z4]
       refine wpGv (i := 11) (oi := ⟨some 28, _, _, _, _, _⟩) (v := ?_) rfl ?_ ?_; rotate_left; (focus (intro w9 hSw; have q0 := IXY.out w9; go_simp; try with_reducible rfl)); simp only [Act.put, Z2, Z3, Z4]
       refine wpGv (i := 12) (oi := ⟨some 29, _, _, _, _, _⟩) (v := ?_) rfl ?_ ?_; rotate_left; (focus (intro w9 hSw; go_simp; try with_reducible rfl)); simp only [Act.put, Z2, Z3, Z4]
       refine wpGv (i := 13) (oi := ⟨some 30, _, _, _, _, _⟩) (v := (.agg (bvals y.R.z))) rfl ?_ ?_; (focus (intro w9 hSw; exact exec_load_by 30 _ rfl ⟨b0, oy, none⟩ rfl (Y2.out.same (hSw.block b0 hb02)).load_id)); simp only [Act.put, Z2, Z3, Z4]
       refine wpGv (i := 14) (oi := ⟨some 31, _, _, _, _, _⟩) (v := ?_) rfl ?_ ?_; rotate_left; (focus (intro w9 hSw; go_simp; try with_reducible rfl)); simp only [Act.put, Z2, Z3, Z4]
       refine wpGv (i := 15) (oi := ⟨some 32, _, _, _, _, _⟩) (v := (.agg (bvals x.R.z))) rfl ?_ ?_; (focus (intro w9 hSw; exact exec_load_by 30 _ rfl ⟨wr.heap.size, 0, none⟩ rfl (X2.out.below hSw X2.out.lt).load_id)); simp only [Act.put, Z2, Z3, Z4]
       refine wpG_take (i := 16) (oi := ⟨some 33, _, _, _, _, _⟩) rfl (by kernel_rfl) (by kernel_rfl) (by kernel_rfl) (Or.inl ⟨by rfl, unib_call_if ?_ HL.out⟩) ?_; (focus (intro w9 hSw; go_simp; try with_reducible rfl)); simp only [Act.put, Z2, Z3, Z4]
       refine wpGv (i := 17) (oi := ⟨some 34, _, _, _, _, _⟩) (v := ?_) rfl ?_ ?_; rotate_left; (focus (intro w9 hSw; go_simp; try with_reducible rfl)); simp only [Act.put, Z2, Z3, Z4]
       refine wpGv (i := 18) (oi := ⟨some 35, _, _, _, _, _⟩) (v := ?_) rfl ?_ ?_; rotate_left; (focus (intro w9 hSw; go_simp; try with_reducible rfl)); simp only [Act.put, Z2, Z3, Z4]
       refine wpGv (i := 19) (oi := ⟨some 36, _, _, _, _, _⟩) (v := ?_) rfl ?_ ?_; rotate_left; (focus (intro w9 hSw; go_simp; try with_reducible rfl)); simp only [Act.put, Z2, Z3, Z4]
       refine wpG_done (by kernel_rfl) ?_ _
       intro w9 hSw _
       have B9 := Lib.hid (HB2.out.trans (hSw.mono HB2.out.size))
       have BO9 := Lib.hid (B2.out.below hSw B2.out.lt)
       clear hSw
       go_wp2
       go_roundw
       case rel => exact ⟨k + 1, by omega, by go_num, BO9.out, B9.out, by rw [HPQ.out]; exact HF.out⟩
       case measure => simp [intOf]; omega
   ·obtain rfl : k = len := by omega
    rw [List.drop_eq_nil_of_le (by rw [HLN.out]; exact Nat.le_refl _), List.map_nil, okB] at hf
    have HF := Lib.hid hf
    have HBB := Lib.hid hb
    clear hf hb hs
    go_wp2
    go_ret
    exact ⟨by rw [HF.out]; rfl, HBB.out⟩
 ·have hV2 := HV.out
  rw [decide_eq_false h10, Bool.false_and] at hV2
  have HF := Lib.hid hV2
  have t1 : 10 < (xs.length : Int) := by omega
  clear hV2
  go_enter Tryz.func16, Tryz.ntmps16
  go_wp2
  go_ret
  exact ⟨by rw [HF.out]; rfl, HB.out⟩
end
section
open Go.RowKit WM
set_option maxRecDepth 100000
def prevA (ls : List LnA) (k : Nat) : Option (List Int) := if k = 0 then none else some (ls.getD (k - 1) lnA0).z
theorem lsOk_step {ls : List LnA} {k : Nat} (hk : k < ls.length) : lsOk (prevA ls k) ((ls.drop k).map (·.x)) = (lnOk (ls.getD k lnA0).x && (riseOk (prevA ls k) (ls.getD k lnA0).z && lsOk (prevA ls (k + 1)) ((ls.drop (k + 1)).map (·.x)))) := by
 rw [List.drop_eq_getElem_cons hk, List.map_cons]
 have h : ls.getD k lnA0 = ls[k] := by rw [List.getD_eq_getElem?_getD, List.getElem?_eq_getElem hk]; rfl
 have h2 : prevA ls (k + 1) = some ls[k].z := by unfold prevA; rw [if_neg (by omega), Nat.add_sub_cancel, h]
 rw [h, h2]
 simp only [lsOk]
 rw [Bool.and_assoc]
 rfl
def lastA (es : List EnA) (j : Nat) : Int := if j = 0 then -1 else (es.getD (j - 1) enA0).e.no
theorem esOk_step {n r : Int} {es : List EnA} {j : Nat} (hj : j < es.length) : esOk n r (lastA es j) ((es.drop j).map (·.e)) = (enOk n r (lastA es j) (es.getD j enA0).e && esOk n r (lastA es (j + 1)) ((es.drop (j + 1)).map (·.e))) := by
 rw [List.drop_eq_getElem_cons hj, List.map_cons]
 have h : es.getD j enA0 = es[j] := by rw [List.getD_eq_getElem?_getD, List.getElem?_eq_getElem hj]; rfl
 have h2 : lastA es (j + 1) = es[j].e.no := by unfold lastA; rw [if_neg (by omega), Nat.add_sub_cancel, h]
 rw [h, h2]
 rfl
theorem ln_size {x : LnA} {w : World} (h : x.Ok w) : (Tryz.prog.info? 35).map (·.size) = some (KLn.cs x).toArray.size := by
 rw [List.size_toArray, show (KLn.cs x).length = 19 from LnA.len h]
 obtain ⟨i, hi, _, hs, _⟩ := info_parts infoLn
 rw [hi]
 exact congrArg some hs
theorem ln_ones (x : LnA) : (KLn.cs x).toArray.all (·.oneCell') = true := by
 rw [Array.all_eq_true_iff_forall_mem]
 intro u hu
 exact LnA.one x u (List.mem_toArray.1 hu)
theorem lnA0_size : (KLn.cs lnA0).toArray.size = 19 := by decide
end
section
open Go.RowKit WM
set_option maxRecDepth 100000
def lineA (ls : List LnA) (z : List Int) : Option LnA := ls.find? fun x => decide (x.z = z)
theorem lineA_step {ls : List LnA} {k : Nat} (z : List Int) (hk : k < ls.length) : lineA (ls.drop k) z = if (ls.getD k lnA0).z = z then some (ls.getD k lnA0) else lineA (ls.drop (k + 1)) z := by
 rw [List.drop_eq_getElem_cons hk]
 have h : ls.getD k lnA0 = ls[k] := by rw [List.getD_eq_getElem?_getD, List.getElem?_eq_getElem hk]; rfl
 rw [h]
 unfold lineA
 by_cases hz : ls[k].z = z
 ·rw [if_pos hz, List.find?_cons_of_pos (by simpa using hz)]
 ·rw [if_neg hz, List.find?_cons_of_neg (by simpa using hz)]
theorem lineA_x (ls : List LnA) (z : List Int) : (lineA ls z).map (·.x) = lfind (ls.map (·.x)) z := by
 unfold lineA lfind
 induction ls with
 | nil => rfl
 | cons x ls ih =>
  rw [List.map_cons]
  by_cases hz : x.z = z
  ·rw [List.find?_cons_of_pos (by simpa using hz), List.find?_cons_of_pos (by show decide (x.x.z = z) = true; exact decide_eq_true hz)]; rfl
  ·rw [List.find?_cons_of_neg (by simpa using hz), List.find?_cons_of_neg (by show ¬ decide (x.x.z = z) = true; rw [decide_eq_true_eq]; exact hz)]; exact ih
theorem lineA_ok {w : World} {A : Option Addr} {c : Nat} {ls : List LnA} {z : List Int} (h : KLn.row w A c ls) : (((lineA ls z).getD lnA0).Ok w) := by
 cases hl : lineA ls z with
 | none => exact ⟨rfl, by show AllBytes z16m; unfold AllBytes z16m; decide, by decide, by decide, Kind.row_nil w none 0 (by decide) (fun _ => rfl)⟩
 | some x => exact h.2.2.2.2 x (List.mem_of_find?_eq_some hl)
def LinePost (w : World) (V : Option LnA) (e : Ending) (w' : World) : Prop := e = .returned (.tuple #[KLn.v (V.getD lnA0), .bool V.isSome]) ∧ Below w.heap.size w w'
theorem res_ln2 {fn : Func} {p q : Tmp} (h : fn.results = #[.cell p 35, .tmp q]) {tmps : Array Value} {w : World} {g : Nat} {x : LnA} (hp : tmps.getD p undef = .pointer (some ⟨g, 0, none⟩)) (hs : KLn.blk 35 w g x) (hx : x.Ok w) :
  (results fn tmps).run Tryz.prog w = .ok (.tuple #[KLn.v x, tmps.getD q undef]) w := by
 have hp' : tmps[p]?.getD undef = .pointer (some ⟨g, 0, none⟩) := by simpa using hp
 have hl := load_ln (Kind.at_blk hs) hx
 simp [results, h, hp', asAddr, hl]
theorem buildLn0 (w : World) : (Instr.build 35 #[]).run Tryz.prog w = .ok (.agg (KLn.cs lnA0).toArray) w := run_build w _ _ _ (by kernel_rfl)
theorem lnA0_ok (w : World) : lnA0.Ok w := ⟨rfl, by show AllBytes z16m; unfold AllBytes z16m; decide, by decide, by decide, Kind.row_nil w none 0 (by decide) (fun _ => rfl)⟩
structure LineS (w : World) (m : MnA) (z : List Int) (X : World) : Prop where
 a : MnAt X w.heap.size m
 b : KId.blk 30 X (w.heap.size + 1) z
 c : KLn.blk 35 X (w.heap.size + 1 + 1) lnA0
 below : Below w.heap.size w X
theorem LineS.go {w X Y : World} {m : MnA} {z : List Int} (h : LineS w m z X) (hb : Below X.heap.size X Y) : LineS w m z Y :=
 ⟨h.a.below hb h.a.lt, Kind.blk_below h.b hb (Kind.blk_lt h.b), Kind.blk_below h.c hb (Kind.blk_lt h.c), h.below.trans (hb.mono h.below.size)⟩
theorem LineS.new (w : World) (m : MnA) (z : List Int) : LineS w m z (((w.alloc (.cells m.cs.toArray 26)).alloc (.cells (bvals z) 30)).alloc (.cells (KLn.cs lnA0).toArray 35)) := by
 have e1 : (w.alloc (.cells m.cs.toArray 26)).heap.size = w.heap.size + 1 := World.size_alloc _ _
 have e2 : ((w.alloc (.cells m.cs.toArray 26)).alloc (.cells (bvals z) 30)).heap.size = w.heap.size + 1 + 1 := by rw [World.size_alloc, e1]
 refine ⟨?_, ?_, ?_, ?_⟩
 ·exact ((MnAt.new w m).below ((Below.refl _ _).alloc (Nat.le_refl _) _) (MnAt.new w m).lt).below ((Below.refl _ _).alloc (Nat.le_refl _) _) (by rw [e2]; omega)
 ·have h := Kind.blk_new (K := KId) (w.alloc (.cells m.cs.toArray 26)) z 30
  rw [e1] at h
  exact Kind.blk_old h _
 ·have h := Kind.blk_new (K := KLn) ((w.alloc (.cells m.cs.toArray 26)).alloc (.cells (bvals z) 30)) lnA0 35
  rw [e2] at h
  exact h
 ·exact (((Below.refl _ _).alloc (Nat.le_refl _) _).alloc (by rw [e1]; omega) _).alloc (by rw [e2]; omega) _
end
section
open Go.RowKit WM
set_option maxRecDepth 100000
def entA (es : List EnA) (no : Int) : Option EnA := es.find? fun x => decide (x.e.no = no)
theorem entA_step {es : List EnA} {k : Nat} (no : Int) (hk : k < es.length) : entA (es.drop k) no = if (es.getD k enA0).e.no = no then some (es.getD k enA0) else entA (es.drop (k + 1)) no := by
 rw [List.drop_eq_getElem_cons hk]
 have h : es.getD k enA0 = es[k] := by rw [List.getD_eq_getElem?_getD, List.getElem?_eq_getElem hk]; rfl
 rw [h]
 unfold entA
 by_cases hz : es[k].e.no = no
 ·rw [if_pos hz, List.find?_cons_of_pos (by simpa using hz)]
 ·rw [if_neg hz, List.find?_cons_of_neg (by simpa using hz)]
theorem entA_e (es : List EnA) (no : Int) : (entA es no).map (·.e) = efind (es.map (·.e)) no := by
 unfold entA efind
 induction es with
 | nil => rfl
 | cons x es ih =>
  rw [List.map_cons]
  by_cases hz : x.e.no = no
  ·rw [List.find?_cons_of_pos (by simpa using hz), List.find?_cons_of_pos (by simpa using hz)]; rfl
  ·rw [List.find?_cons_of_neg (by simpa using hz), List.find?_cons_of_neg (by simpa using hz)]; exact ih
def findA (ls : List LnA) (z : List Int) (no : Int) : Option EnA := entA ((lineA ls z).getD lnA0).es no
theorem findA_e (m : MnA) (z : List Int) (no : Int) : (findA m.ls z no).map (·.e) = mfind m.m z no := by
 unfold findA mfind
 rw [entA_e, show m.m.ls = m.ls.map (·.x) from rfl, ← lineA_x]
 cases lineA m.ls z with
 | none => rfl
 | some x => rfl
theorem enA0_ok (w : World) : enA0.Ok w := ⟨by decide, by decide, by decide, by decide, rfl, by show AllBytes z32m; unfold AllBytes z32m; decide, Kind.row_nil w none 0 (by decide) (fun _ => rfl)⟩
theorem MnA.one (x : MnA) (u : Value) (hu : u ∈ x.cs) : u.oneCell' = true := by
 unfold MnA.cs at hu
 rcases List.mem_append.1 hu with h | h
 ·exact byte_ones _ _ h
 ·rw [List.mem_singleton] at h
  rw [h]
  rfl
def KMn : Kind MnA := { n := 33, pos := by decide, cs := MnA.cs, d := mnA0, ok := fun w x => x.Ok w, len := fun h => MnA.len h, one := MnA.one, below := fun h hb => MnA.below h hb }
theorem load_mn {w : World} {b : Nat} {m : MnA} (h : MnAt w b m) (hx : m.Ok w) : (loadVar 26 ⟨b, 0, none⟩).run Tryz.prog w = .ok m.v w :=
 Kind.at_load (K := KMn) (Kind.at_blk (K := KMn) (t := 26) h) (MnA.len hx) Tryz.underlying26 rfl (by obtain ⟨i, hi, _, hs, _⟩ := info_parts infoMn; rw [hi]; exact congrArg some hs)
theorem en_size {x : EnA} {w : World} (h : x.Ok w) : (Tryz.prog.info? 46).map (·.size) = some (KEn.cs x).toArray.size := by
 rw [List.size_toArray, show (KEn.cs x).length = 37 from EnA.len h]
 obtain ⟨i, hi, _, hs, _⟩ := info_parts infoEn
 rw [hi]
 exact congrArg some hs
theorem en_ones (x : EnA) : (KEn.cs x).toArray.all (·.oneCell') = true := by
 rw [Array.all_eq_true_iff_forall_mem]
 intro u hu
 exact EnA.one x u (List.mem_toArray.1 hu)
theorem enA0_size : (KEn.cs enA0).toArray.size = 37 := by decide
theorem res_en2 {fn : Func} {p q : Tmp} (h : fn.results = #[.cell p 46, .tmp q]) {tmps : Array Value} {w : World} {g : Nat} {x : EnA} (hp : tmps.getD p undef = .pointer (some ⟨g, 0, none⟩)) (hs : KEn.blk 46 w g x) (hx : x.Ok w) :
  (results fn tmps).run Tryz.prog w = .ok (.tuple #[KEn.v x, tmps.getD q undef]) w := by
 have hp' : tmps[p]?.getD undef = .pointer (some ⟨g, 0, none⟩) := by simpa using hp
 have hl := load_en (Kind.at_blk hs) hx
 simp [results, h, hp', asAddr, hl]
theorem buildEn0 (w : World) : (Instr.build 46 #[]).run Tryz.prog w = .ok (.agg (KEn.cs enA0).toArray) w := run_build w _ _ _ (by kernel_rfl)
structure FindS (w : World) (m : MnA) (z : List Int) (X : World) : Prop where
 a : MnAt X w.heap.size m
 b : KId.blk 30 X (w.heap.size + 1) z
 c : KEn.blk 46 X (w.heap.size + 1 + 1) enA0
 below : Below w.heap.size w X
theorem FindS.go {w X Y : World} {m : MnA} {z : List Int} (h : FindS w m z X) (hb : Below X.heap.size X Y) : FindS w m z Y :=
 ⟨h.a.below hb h.a.lt, Kind.blk_below h.b hb (Kind.blk_lt h.b), Kind.blk_below h.c hb (Kind.blk_lt h.c), h.below.trans (hb.mono h.below.size)⟩
theorem FindS.new (w : World) (m : MnA) (z : List Int) : FindS w m z (((w.alloc (.cells m.cs.toArray 26)).alloc (.cells (bvals z) 30)).alloc (.cells (KEn.cs enA0).toArray 46)) := by
 have e1 : (w.alloc (.cells m.cs.toArray 26)).heap.size = w.heap.size + 1 := World.size_alloc _ _
 have e2 : ((w.alloc (.cells m.cs.toArray 26)).alloc (.cells (bvals z) 30)).heap.size = w.heap.size + 1 + 1 := by rw [World.size_alloc, e1]
 refine ⟨?_, ?_, ?_, ?_⟩
 ·exact ((MnAt.new w m).below ((Below.refl _ _).alloc (Nat.le_refl _) _) (MnAt.new w m).lt).below ((Below.refl _ _).alloc (Nat.le_refl _) _) (by rw [e2]; omega)
 ·have h := Kind.blk_new (K := KId) (w.alloc (.cells m.cs.toArray 26)) z 30
  rw [e1] at h
  exact Kind.blk_old h _
 ·have h := Kind.blk_new (K := KEn) ((w.alloc (.cells m.cs.toArray 26)).alloc (.cells (bvals z) 30)) enA0 46
  rw [e2] at h
  exact h
 ·exact (((Below.refl _ _).alloc (Nat.le_refl _) _).alloc (by rw [e1]; omega) _).alloc (by rw [e2]; omega) _
end
section
open Go.RowKit WM
set_option maxRecDepth 100000
def LikePost (w : World) (V : Option (List Int × Int)) (e : Ending) (w' : World) : Prop := e = .returned (.tuple #[.agg (bvals ((V.map (·.1)).getD z16m)), .int .i64 ((V.map (·.2)).getD 0), .bool V.isSome]) ∧ Below w.heap.size w w'
theorem res_id3 {fn : Func} {p q r : Tmp} (h : fn.results = #[.cell p 30, .tmp q, .tmp r]) {tmps : Array Value} {w : World} {g : Nat} {z : List Int} (hp : tmps.getD p undef = .pointer (some ⟨g, 0, none⟩)) (hs : KId.blk 30 w g z) (hx : z.length = 16) :
  (results fn tmps).run Tryz.prog w = .ok (.tuple #[.agg (bvals z), tmps.getD q undef, tmps.getD r undef]) w := by
 have hp' : tmps[p]?.getD undef = .pointer (some ⟨g, 0, none⟩) := by simpa using hp
 have hl := load_idM (Kind.at_blk hs) hx
 simp [results, h, hp', asAddr, hl]
theorem zeroIdM (w : World) : (zeroValue 30).run Tryz.prog w = .ok (.agg (bvals z16m)) w := (zero_of_info (show (Tryz.prog.info? 30).map (fun i => (i.zero, i.size)) = some (some (.agg (bvals z16m)), 16) by kernel_rfl)).1 w
end
end Go.Proofs.YtkjimhlpbgeagaaGreatDoor
