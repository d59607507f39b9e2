import Derived.Test.YtbkopnpafmjicaaGreatDoorQ0
import Derived.Test.YtbkopnpafmjicaaGreatDoorQ14
import Derived.Test.YtbkopnpafmjicaaGreatDoorQ15
import Derived.Test.YtbkopnpafmjicaaGreatDoorQ17
import Derived.BigQuiet
/-
  What the functions that a law of this layer reaches answer, part 18. Nothing that was there is written.
-/
namespace Go.Proofs.YtbkopnpafmjicaaGreatDoor
set_option linter.unusedVariables false
set_option linter.unusedSimpArgs false
section
section
open Go.RowKit WM
set_option maxHeartbeats 1000000 in
theorem rbless_any (xs ys : List Int) (w : World) (hx : AllBytes xs) (hy : AllBytes ys) (lx : xs.length = 16) (ly : ys.length = 16) :
  Calls Tryz.prog 43 #[.agg (bvals xs), .agg (bvals ys)] w fun e w' => e = .returned (.bool (lessL xs ys)) ∧ Below w.heap.size w w' := by
 have hr0 := (BRow.new w 38 xs).old (.cells (bvals ys) 38)
 have hr1 := BRow.new (w.alloc (.cells (bvals xs) 38)) 38 ys
 rw [World.size_alloc] at hr1
 have hb0 : Below w.heap.size w ((w.alloc (.cells (bvals xs) 38)).alloc (.cells (bvals ys) 38)) := ((Below.refl _ _).alloc (Nat.le_refl _) _).alloc (by simp) _
 have LX := Lib.hid lx
 have LY := Lib.hid ly
 have R0 := Lib.hid hr0
 have R1 := Lib.hid hr1
 have HB0 := Lib.hid hb0
 clear lx ly hx hy hr0 hr1 hb0
 generalize hVX : bvals xs = VX at *
 generalize hVY : bvals ys = VY at *
 go_enter Tryz.func43, Tryz.ntmps43
 go_wp2_with fail
 go_loopw [5] (fun i wr => ∃ k : Nat, k ≤ 16 ∧ i = .int .i64 (k : Int) ∧ (∀ j, j < k → xs.getD j 0 = ys.getD j 0) ∧ BRow wr w.heap.size 38 xs ∧ BRow wr (w.heap.size + 1) 38 ys ∧ Below w.heap.size w wr) (fun i _ => 17 - (intOf i).toNat)
 case atStart =>
  subst hVX hVY
  exact ⟨0, by omega, rfl, fun j hj => by omega, R0.out, R1.out, HB0.out⟩
 case round =>
  obtain ⟨k, hk, rfl, hpre, hr0, hr1, hbel⟩ := hrel
  have HPre := Lib.hid hpre
  have Hr0 := Lib.hid hr0
  have Hr1 := Lib.hid hr1
  have Hbel := Lib.hid hbel
  by_cases hlt : k < 16
  ·have c0 := hr0.cell (j := k) (by rw [LX.out]; omega)
   have c1 := hr1.cell (j := k) (by rw [LY.out]; omega)
   clear hpre hr0 hr1 hbel R0 R1 HB0
   by_cases hkk : xs.getD k 0 = ys.getD k 0
   ·have HNX := Lib.hid (show ∀ j, j < k + 1 → xs.getD j 0 = ys.getD j 0 from fun j hj => by
     rcases Nat.lt_or_ge j k with h3 | h3
     ·exact HPre.out j h3
     ·rw [show j = k by omega]; exact hkk)
    have ht : (xs.getD k 0 != ys.getD k 0) = false := by rw [hkk]; simp
    clear hkk
    generalize xs.getD k 0 = x at *
    generalize ys.getD k 0 = y at *
    go_wp2_with fail
    go_quiet (fail)
    go_wp2
    go_roundw
    case rel => exact ⟨k + 1, by omega, by go_num, HNX.out, Hr0.out, Hr1.out, below_drewN Hbel.out _⟩
    case measure => simp [intOf]; omega
   ·have HV := Lib.hid (lessL_at k (by rw [LX.out, LY.out]) (by rw [LX.out]; omega) HPre.out hkk)
    have ht : (xs.getD k 0 != ys.getD k 0) = true := bne_iff_ne.2 hkk
    clear hkk
    generalize xs.getD k 0 = x at *
    generalize ys.getD k 0 = y at *
    go_wp2_with fail
    go_quiet (fail)
    go_wp2_with fail
    go_quiet (fail)
    go_wp2
    go_ret
    exact ⟨by rw [HV.out]; rfl, below_drewN (below_drewN Hbel.out _) _⟩
  ·have he : xs = ys := lists_eq (by rw [LX.out, LY.out]) fun j hj => HPre.out j (by rw [LX.out] at hj; omega)
   have HV := Lib.hid (show lessL xs ys = false by rw [he]; exact lessL_self _)
   clear hpre hr0 hr1 hbel R0 R1 HB0 he
   go_wp2
   go_ret
   exact ⟨by rw [HV.out]; rfl, Hbel.out⟩
end
section
open Go.RowKit WM
set_option maxRecDepth 100000
theorem xrmay_any (x : RcA) (w : World) (h : RvAt w x) (hl : x.R.fs.length ≤ 1000) : Calls Tryz.prog 67 #[.agg x.cells] w fun e w' => e = .returned (.bool x.R.may) ∧ Below w.heap.size w w' :=
 rrmay_any x.R.z x.R.n x.R.r x.A _ x.c x.R.fs w h.len rfl hl h.2
set_option maxHeartbeats 8000000 in
theorem rbmay_any (b : Bk) (w : World) (h : BkAt w b) (hfs : ∀ x ∈ b.xs, x.R.fs.length ≤ 1000) (hbl : b.xs.length ≤ 1000) :
  Calls Tryz.prog 38 #[.agg #[.slice b.A b.xs.length b.c]] w fun e w' => e = .returned (.bool (bmay b.rs)) ∧ Below w.heap.size w w' := by
 obtain ⟨xs, A, c⟩ := b
 dsimp only at hfs hbl ⊢
 have S0 := Lib.hid (BoAt.new w (.slice A xs.length c))
 have HB := Lib.hid ((Below.refl w.heap.size w).alloc (Nat.le_refl _) (.cells #[.slice A xs.length c] 24))
 have HRV := Lib.hid (fun i (hi : i < xs.length) => RsAt.rv h hi)
 have HFS : Hid (∀ i, i < xs.length → (xs.getD i rcA0).R.fs.length ≤ 1000) := Lib.hid (fun i hi => hfs _ (by rw [List.getD_eq_getElem?_getD, List.getElem?_eq_getElem hi]; exact List.getElem_mem _))
 obtain ⟨hc1, hc2, hc3, hcell, _⟩ := h
 dsimp only at hc1 hc2 hc3 hcell HRV
 simp only [maxLen] at hc2
 have HC := Lib.hid hcell
 have HV : Hid (bmay (Bk.rs ⟨xs, A, c⟩) = (decide (xs.length ≤ 10) && okB (prevZ xs 0) ((xs.drop 0).map (·.R)))) := Lib.hid (by unfold bmay Bk.rs; rw [List.length_map]; rfl)
 clear hcell hfs
 generalize bmay (Bk.rs ⟨xs, A, c⟩) = V at HV ⊢
 generalize hlen : xs.length = len at *
 have HLN := Lib.hid hlen
 clear hlen
 go_enter Tryz.func38, Tryz.ntmps38
 go_wp2
 go_loopw [3] (fun i wr => ∃ k : Nat, k ≤ len ∧ i = .int .i64 k ∧ BoAt wr w.heap.size (.slice A len c) ∧ Below w.heap.size w wr ∧ V = (decide (len ≤ 10) && okB (prevZ xs k) ((xs.drop k).map (·.R)))) (fun i _ => len - (intOf i).toNat)
 case atStart => exact ⟨0, Nat.zero_le _, rfl, S0.out, HB.out, HV.out⟩
 case round =>
  obtain ⟨k, hk, rfl, hs, hb, hf⟩ := hrel
  have s0 := hs.c0
  by_cases hlt : k < len
  ·obtain ⟨b0, off, rfl, hb0, hcc⟩ := HC.out (by omega)
   have hx := (hcc k hlt).same (hb.block b0 hb0)
   have IX := ix_rec b0 off len c k hlt k rfl
   have HXV := Lib.hid ((HRV.out k hlt).below hb (Nat.le_refl _))
   have HXF := Lib.hid (HFS.out k hlt)
   rw [okB_drop _ (by rw [HLN.out]; exact hlt), ← prevZ_succ] at hf
   have HBS := Lib.hid (And.intro hs hb)
   have hb02 := Nat.lt_of_lt_of_le hb0 hb.size
   have LX := Lib.hid hx.load
   have HPZ := Lib.hid (show prevZ xs (k + 1) = some (xs.getD k rcA0).R.z from prevZ_succ _ _)
   have HY : Hid (0 < k → ∃ y : RcA, prevZ xs k = some y.R.z ∧ RvAt wr y ∧ RecAt wr b0 (off + (k - 1) * 19) y) := Lib.hid (fun h0 => ⟨xs.getD (k - 1) rcA0, by unfold prevZ; rw [if_neg (by omega)], (HRV.out (k - 1) (by omega)).below hb (Nat.le_refl _), (hcc (k - 1) (by omega)).same (hb.block b0 hb0)⟩)
   generalize xs.getD k rcA0 = x at *
   generalize hpzq : prevZ xs (k + 1) = pz at *
   have HPQ := Lib.hid hpzq
   generalize hox : off + k * 19 = ox at *
   have HX := Lib.hid hx
   have HM := xrmay_any x wr HXV.out HXF.out
   clear hcc hs hb hx hox hpzq
   cases hm : x.R.may
   ·rw [hm] at hf HM
    simp only [Bool.false_and, Bool.and_false] at hf
    have HF := Lib.hid hf
    have HM := Lib.hid HM
    clear hf hm
    go_wp2_with (first | ((with_reducible refine wpList_load_by (o := ⟨some 17, .load 58 (.tmp 16), _, _, _, _⟩) ?e1 58 (.tmp 16) ?e2 ⟨b0, ox, none⟩ ?e3 _ LX.out ?_); (case e1 => rfl); (case e2 => rfl); (case e3 => rfl)))
    refine HM.out.mono ?_
    rintro e w2 ⟨rfl, hb2⟩
    have B2 := Lib.hid (HBS.out.1.below hb2 HBS.out.1.lt)
    have HB2 := Lib.hid (HBS.out.2.trans (hb2.mono HBS.out.2.size))
    have X2 := Lib.hid (HX.out.same (hb2.block b0 hb02))
    go_wp2
    go_ret
    exact ⟨by rw [HF.out]; rfl, HB2.out⟩
   ·rw [hm] at hf HM
    simp only [Bool.true_and] at hf
    have HM := Lib.hid HM
    clear hm
    by_cases h0 : k = 0
    ·have HF := Lib.hid (show V = (decide (len ≤ 10) && okB pz ((xs.drop (k + 1)).map (·.R))) by rw [hf, prevZ, if_pos h0]; rfl)
     have t3 : ¬ (0 : Int) < (k : Int) := by omega
     clear hf h0
     go_wp2_with (first | ((with_reducible refine wpList_load_by (o := ⟨some 17, .load 58 (.tmp 16), _, _, _, _⟩) ?e1 58 (.tmp 16) ?e2 ⟨b0, ox, none⟩ ?e3 _ LX.out ?_); (case e1 => rfl); (case e2 => rfl); (case e3 => rfl)))
     refine HM.out.mono ?_
     rintro e w2 ⟨rfl, hb2⟩
     have B2 := Lib.hid (HBS.out.1.below hb2 HBS.out.1.lt)
     have HB2 := Lib.hid (HBS.out.2.trans (hb2.mono HBS.out.2.size))
     have X2 := Lib.hid (HX.out.same (hb2.block b0 hb02))
     clear hb2 s0
     go_wp2
     go_roundw
     case rel => exact ⟨k + 1, by omega, by go_num, B2.out, HB2.out, by rw [HPQ.out]; exact HF.out⟩
     case measure => simp [intOf]; omega
    ·obtain ⟨y, hpy, hyv, hya⟩ := HY.out (by omega)
     rw [hpy, pzok] at hf
     have t3 : (0 : Int) < (k : Int) := by omega
     have IXY := Lib.hid (fun w9 => ix_rec b0 off len c (k - 1) (by omega) ((k : Int) - 1) (by omega) w9)
     have HYV := Lib.hid hyv
     generalize hoy : off + (k - 1) * 19 = oy at *
     have HYA := Lib.hid hya
     have HL0 := fun (w9 : World) => rbless_any y.R.z x.R.z w9 HYV.out.1.2 HXV.out.1.2 HYV.out.len HXV.out.len
     clear hoy hyv hya hpy
     cases hl : lessL y.R.z x.R.z
     ·rw [hl] at hf HL0
      simp only [Bool.false_and, Bool.and_false] at hf
      have HF := Lib.hid hf
      clear hf hl
      go_wp2_with (first | ((with_reducible refine wpList_load_by (o := ⟨some 17, .load 58 (.tmp 16), _, _, _, _⟩) ?e1 58 (.tmp 16) ?e2 ⟨b0, ox, none⟩ ?e3 _ LX.out ?_); (case e1 => rfl); (case e2 => rfl); (case e3 => rfl)))
      refine HM.out.mono ?_
      rintro e w2 ⟨rfl, hb2⟩
      have B2 := Lib.hid (HBS.out.1.below hb2 HBS.out.1.lt)
      have HB2 := Lib.hid (HBS.out.2.trans (hb2.mono HBS.out.2.size))
      have X2 := Lib.hid (HX.out.same (hb2.block b0 hb02))
      have Y2 := Lib.hid (HYA.out.same (hb2.block b0 hb02))
      have hb02 := Nat.lt_of_lt_of_le hb02 hb2.size
      have HL := Lib.hid (fun (w9 : World) (hS : Below w2.heap.size w2 w9) => HL0 w9)
      clear hb2 s0
      go_wp2_with fail
      refine wp_region_G _ (by kernel_rfl) ?_
      refine wpGv (i := 0) (oi := ⟨some 23, _, _, _, _, _⟩) (v := ?_) rfl ?_ ?_; rotate_left; (focus (intro w9 hSw; go_simp; try with_reducible rfl)); simp only [Act.put, Z2, Z3, Z4]
      refine wpGv (i := 1) (oi := ⟨some 24, _, _, _, _, _⟩) (v := ?_) rfl ?_ ?_; rotate_left; (focus (intro w9 hSw; have q0 := (B2.out.below hSw B2.out.lt).c0; go_simp; try with_reducible rfl)); simp only [Act.put, Z2, Z3, Z4]
      refine wpGv (i := 2) (oi := ⟨some 25, _, _, _, _, _⟩) (v := ?_) rfl ?_ ?_; rotate_left; (focus (intro w9 hSw; go_simp; try with_reducible rfl)); simp only [Act.put, Z2, Z3, Z4]
      refine wpGv (i := 3) (oi := ⟨some 26, _, _, _, _, _⟩) (v := ?_) rfl ?_ ?_; rotate_left; (focus (intro w9 hSw; have x1 : IntKind.i64.wrap ((k : Int) - 1) = (k : Int) - 1 := IntWalk.i64_in _ (by omega); go_simp; try with_reducible rfl)); simp only [Act.put, Z2, Z3, Z4]
      refine wpGv (i := 4) (oi := ⟨some 27, _, _, _, _, _⟩) (v := ?_) rfl ?_ ?_; rotate_left; (focus (intro w9 hSw; have q0 := IXY.out w9; go_simp; try with_reducible rfl)); simp only [Act.put, Z2, Z3, Z4]
      refine wpGv (i := 5) (oi := ⟨some 28, _, _, _, _, _⟩) (v := ?_) rfl ?_ ?_; rotate_left; (focus (intro w9 hSw; go_simp; try with_reducible rfl)); simp only [Act.put, Z2, Z3, Z4]
      refine wpGv (i := 6) (oi := ⟨some 29, _, _, _, _, _⟩) (v := (.agg (bvals y.R.z))) rfl ?_ ?_; (focus (intro w9 hSw; exact exec_load_by 38 _ rfl ⟨b0, oy, none⟩ rfl (Y2.out.same (hSw.block b0 hb02)).load_id)); simp only [Act.put, Z2, Z3, Z4]
      refine wpGv (i := 7) (oi := ⟨some 30, _, _, _, _, _⟩) (v := ?_) rfl ?_ ?_; rotate_left; (focus (intro w9 hSw; go_simp; try with_reducible rfl)); simp only [Act.put, Z2, Z3, Z4]
      refine wpGv (i := 8) (oi := ⟨some 31, _, _, _, _, _⟩) (v := ?_) rfl ?_ ?_; rotate_left; (focus (intro w9 hSw; have q0 := (B2.out.below hSw B2.out.lt).c0; go_simp; try with_reducible rfl)); simp only [Act.put, Z2, Z3, Z4]
      refine wpGv (i := 9) (oi := ⟨some 32, _, _, _, _, _⟩) (v := ?_) rfl ?_ ?_; rotate_left; (focus (intro w9 hSw; go_simp; try with_reducible rfl)); simp only [Act.put, Z2, Z3, Z4]
      refine wpGv (i := 10) (oi := ⟨some 33, _, _, _, _, _⟩) (v := ?_) rfl ?_ ?_; rotate_left; (focus (intro w9 hSw; have q0 := IX w9; go_simp; try with_reducible rfl)); simp only [Act.put, Z2, Z3, Z4]
      refine wpGv (i := 11) (oi := ⟨some 34, _, _, _, _, _⟩) (v := ?_) rfl ?_ ?_; rotate_left; (focus (intro w9 hSw; go_simp; try with_reducible rfl)); simp only [Act.put, Z2, Z3, Z4]
      refine wpGv (i := 12) (oi := ⟨some 35, _, _, _, _, _⟩) (v := (.agg (bvals x.R.z))) rfl ?_ ?_; (focus (intro w9 hSw; exact exec_load_by 38 _ rfl ⟨b0, ox, none⟩ rfl (X2.out.same (hSw.block b0 hb02)).load_id)); simp only [Act.put, Z2, Z3, Z4]
      refine wpG_take (i := 13) (oi := ⟨some 36, _, _, _, _, _⟩) rfl (by kernel_rfl) (by kernel_rfl) (by kernel_rfl) (Or.inl ⟨by rfl, unib_call_if ?_ HL.out⟩) ?_; (focus (intro w9 hSw; go_simp; try with_reducible rfl)); simp only [Act.put, Z2, Z3, Z4]
      refine wpGv (i := 14) (oi := ⟨some 5, _, _, _, _, _⟩) (v := ?_) rfl ?_ ?_; rotate_left; (focus (intro w9 hSw; go_simp; try with_reducible rfl)); simp only [Act.put, Z2, Z3, Z4]
      refine wpG_done (by kernel_rfl) ?_ _
      intro w9 hSw _
      have B9 := Lib.hid (HB2.out.trans (hSw.mono HB2.out.size))
      have BO9 := Lib.hid (B2.out.below hSw B2.out.lt)
      clear hSw
      go_wp2
      go_ret
      exact ⟨by rw [HF.out]; rfl, B9.out⟩
     ·rw [hl] at hf HL0
      simp only [Bool.true_and] at hf
      have HF := Lib.hid hf
      clear hf hl
      go_wp2_with (first | ((with_reducible refine wpList_load_by (o := ⟨some 17, .load 58 (.tmp 16), _, _, _, _⟩) ?e1 58 (.tmp 16) ?e2 ⟨b0, ox, none⟩ ?e3 _ LX.out ?_); (case e1 => rfl); (case e2 => rfl); (case e3 => rfl)))
      refine HM.out.mono ?_
      rintro e w2 ⟨rfl, hb2⟩
      have B2 := Lib.hid (HBS.out.1.below hb2 HBS.out.1.lt)
      have HB2 := Lib.hid (HBS.out.2.trans (hb2.mono HBS.out.2.size))
      have X2 := Lib.hid (HX.out.same (hb2.block b0 hb02))
      have Y2 := Lib.hid (HYA.out.same (hb2.block b0 hb02))
      have hb02 := Nat.lt_of_lt_of_le hb02 hb2.size
      have HL := Lib.hid (fun (w9 : World) (hS : Below w2.heap.size w2 w9) => HL0 w9)
      clear hb2 s0
      go_wp2_with fail
      refine wp_region_G _ (by kernel_rfl) ?_
      refine wpGv (i := 0) (oi := ⟨some 23, _, _, _, _, _⟩) (v := ?_) rfl ?_ ?_; rotate_left; (focus (intro w9 hSw; go_simp; try with_reducible rfl)); simp only [Act.put, Z2, Z3, Z4]
      refine wpGv (i := 1) (oi := ⟨some 24, _, _, _, _, _⟩) (v := ?_) rfl ?_ ?_; rotate_left; (focus (intro w9 hSw; have q0 := (B2.out.below hSw B2.out.lt).c0; go_simp; try with_reducible rfl)); simp only [Act.put, Z2, Z3, Z4]
      refine wpGv (i := 2) (oi := ⟨some 25, _, _, _, _, _⟩) (v := ?_) rfl ?_ ?_; rotate_left; (focus (intro w9 hSw; go_simp; try with_reducible rfl)); simp only [Act.put, Z2, Z3, Z4]
      refine wpGv (i := 3) (oi := ⟨some 26, _, _, _, _, _⟩) (v := ?_) rfl ?_ ?_; rotate_left; (focus (intro w9 hSw; have x1 : IntKind.i64.wrap ((k : Int) - 1) = (k : Int) - 1 := IntWalk.i64_in _ (by omega); go_simp; try with_reducible rfl)); simp only [Act.put, Z2, Z3, Z4]
      refine wpGv (i := 4) (oi := ⟨some 27, _, _, _, _, _⟩) (v := ?_) rfl ?_ ?_; rotate_left; (focus (intro w9 hSw; have q0 := IXY.out w9; go_simp; try with_reducible rfl)); simp only [Act.put, Z2, Z3, Z4]
      refine wpGv (i := 5) (oi := ⟨some 28, _, _, _, _, _⟩) (v := ?_) rfl ?_ ?_; rotate_left; (focus (intro w9 hSw; go_simp; try with_reducible rfl)); simp only [Act.put, Z2, Z3, Z4]
      refine wpGv (i := 6) (oi := ⟨some 29, _, _, _, _, _⟩) (v := (.agg (bvals y.R.z))) rfl ?_ ?_; (focus (intro w9 hSw; exact exec_load_by 38 _ rfl ⟨b0, oy, none⟩ rfl (Y2.out.same (hSw.block b0 hb02)).load_id)); simp only [Act.put, Z2, Z3, Z4]
      refine wpGv (i := 7) (oi := ⟨some 30, _, _, _, _, _⟩) (v := ?_) rfl ?_ ?_; rotate_left; (focus (intro w9 hSw; go_simp; try with_reducible rfl)); simp only [Act.put, Z2, Z3, Z4]
      refine wpGv (i := 8) (oi := ⟨some 31, _, _, _, _, _⟩) (v := ?_) rfl ?_ ?_; rotate_left; (focus (intro w9 hSw; have q0 := (B2.out.below hSw B2.out.lt).c0; go_simp; try with_reducible rfl)); simp only [Act.put, Z2, Z3, Z4]
      refine wpGv (i := 9) (oi := ⟨some 32, _, _, _, _, _⟩) (v := ?_) rfl ?_ ?_; rotate_left; (focus (intro w9 hSw; go_simp; try with_reducible rfl)); simp only [Act.put, Z2, Z3, Z4]
      refine wpGv (i := 10) (oi := ⟨some 33, _, _, _, _, _⟩) (v := ?_) rfl ?_ ?_; rotate_left; (focus (intro w9 hSw; have q0 := IX w9; go_simp; try with_reducible rfl)); simp only [Act.put, Z2, Z3, Z4]
      refine wpGv (i := 11) (oi := ⟨some 34, _, _, _, _, _⟩) (v := ?_) rfl ?_ ?_; rotate_left; (focus (intro w9 hSw; go_simp; try with_reducible rfl)); simp only [Act.put, Z2, Z3, Z4]
      refine wpGv (i := 12) (oi := ⟨some 35, _, _, _, _, _⟩) (v := (.agg (bvals x.R.z))) rfl ?_ ?_; (focus (intro w9 hSw; exact exec_load_by 38 _ rfl ⟨b0, ox, none⟩ rfl (X2.out.same (hSw.block b0 hb02)).load_id)); simp only [Act.put, Z2, Z3, Z4]
      refine wpG_take (i := 13) (oi := ⟨some 36, _, _, _, _, _⟩) rfl (by kernel_rfl) (by kernel_rfl) (by kernel_rfl) (Or.inl ⟨by rfl, unib_call_if ?_ HL.out⟩) ?_; (focus (intro w9 hSw; go_simp; try with_reducible rfl)); simp only [Act.put, Z2, Z3, Z4]
      refine wpGv (i := 14) (oi := ⟨some 5, _, _, _, _, _⟩) (v := ?_) rfl ?_ ?_; rotate_left; (focus (intro w9 hSw; go_simp; try with_reducible rfl)); simp only [Act.put, Z2, Z3, Z4]
      refine wpG_done (by kernel_rfl) ?_ _
      intro w9 hSw _
      have B9 := Lib.hid (HB2.out.trans (hSw.mono HB2.out.size))
      have BO9 := Lib.hid (B2.out.below hSw B2.out.lt)
      clear hSw
      go_wp2
      go_roundw
      case rel => exact ⟨k + 1, by omega, by go_num, BO9.out, B9.out, by rw [HPQ.out]; exact HF.out⟩
      case measure => simp [intOf]; omega
  ·obtain rfl : k = len := by omega
   rw [List.drop_eq_nil_of_le (by rw [HLN.out]; exact Nat.le_refl _), List.map_nil, okB, Bool.and_true] at hf
   have t1 : ¬ (k : Int) < (k : Int) := by omega
   have HF := Lib.hid (show V = decide ((k : Int) ≤ 10) by rw [hf, decide_eq_decide]; omega)
   have HBB := Lib.hid hb
   clear hf hb hs
   go_wp2
   go_ret
   exact ⟨by rw [HF.out]; first | rfl | (simp; done) | (simp; omega), HBB.out⟩
end
section
open Go.RowKit WM
set_option maxRecDepth 100000
end
end
end Go.Proofs.YtbkopnpafmjicaaGreatDoor
