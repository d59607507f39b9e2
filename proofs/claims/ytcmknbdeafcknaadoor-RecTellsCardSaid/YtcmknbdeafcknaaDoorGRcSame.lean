import Derived.Test.YtcmknbdeafcknaaDoorGCl
import Derived.Test.YtcmknbdeafcknaaDoorGUni
section
/-
  What slices.Equal answers of two rows of fields. Nothing is written.
-/
namespace Go.Proofs.YtcmknbdeafcknaaDoor
open Go.RowKit WM
set_option linter.unusedVariables false
set_option maxRecDepth 20000
theorem eq_drop {fs gs : List Fld} {k : Nat} (h1 : k < fs.length) (h2 : k < gs.length) : (fs.drop k = gs.drop k) ↔ (fs.getD k fld0 = gs.getD k fld0 ∧ fs.drop (k + 1) = gs.drop (k + 1)) := by
  rw [List.drop_eq_getElem_cons h1, List.drop_eq_getElem_cons h2, List.cons.injEq]
  simp only [List.getD, List.getElem?_eq_getElem h1, List.getElem?_eq_getElem h2, Option.getD_some]
set_option maxHeartbeats 4000000 in
theorem equal_any (A1 A2 : Option Addr) (len1 len2 cap1 cap2 : Nat) (fs gs : List Fld) (w : World) (hl1 : fs.length = len1) (hl2 : gs.length = len2) (h1 : FsAt w A1 cap1 fs) (h2 : FsAt w A2 cap2 gs) :
    Calls Tryd.prog 28 #[.slice A1 len1 cap1, .slice A2 len2 cap2] w fun e w' => e = .returned (.bool (decide (fs = gs))) ∧ Below w.heap.size w w' := by
  obtain ⟨hc1, hm1, hn1, hcell1⟩ := h1
  obtain ⟨hc2, hm2, hn2, hcell2⟩ := h2
  simp only [maxLen] at hm1 hm2
  have HL1 := Lib.hid hl1
  have HC1 := Lib.hid hcell1
  have HL2 := Lib.hid hl2
  have HC2 := Lib.hid hcell2
  have hlen1 : len1 ≤ cap1 := by omega
  have hlen2 : len2 ≤ cap2 := by omega
  clear hcell1 hcell2 hc1 hc2 hl1 hl2 hn1 hn2
  by_cases hl : len1 = len2
  · subst hl
    have HV := Lib.hid (show decide (fs = gs) = decide (fs.drop 0 = gs.drop 0) by rw [List.drop_zero, List.drop_zero])
    have HB0 := Lib.hid (Below.refl w.heap.size w)
    go_enter Tryd.func28, Tryd.ntmps28
    go_wp2
    go_loopw [13] (fun i wr => ∃ k : Nat, k ≤ len1 ∧ i = .int .i64 k ∧ Below w.heap.size w wr ∧ decide (fs = gs) = decide (fs.drop k = gs.drop k)) (fun i _ => len1 - (intOf i).toNat)
    case atStart => exact ⟨0, Nat.zero_le _, rfl, HB0.out, HV.out⟩
    case round =>
      obtain ⟨k, hk, rfl, hb, hf⟩ := hrel
      by_cases hlt : k < len1
      · obtain ⟨b1, off1, rfl, hB1, hcc1⟩ := HC1.out (by rw [HL1.out]; omega)
        obtain ⟨c0, c1, c2, c3⟩ := hcc1 k (by rw [HL1.out]; exact hlt)
        have IX1 := Lib.hid (ix_fld b1 off1 len1 cap1 k hlt k rfl)
        obtain ⟨b2, off2, rfl, hB2, hcc2⟩ := HC2.out (by rw [HL2.out]; omega)
        obtain ⟨d0, d1, d2, d3⟩ := hcc2 k (by rw [HL2.out]; exact hlt)
        have IX2 := Lib.hid (ix_fld b2 off2 len1 cap2 k hlt k rfl)
        have c0 := (hb.cell (p := ⟨b1, off1 + k * 4, none⟩) hB1).trans c0
        have c1 := (hb.cell (p := ⟨b1, off1 + k * 4 + 1, none⟩) hB1).trans c1
        have c2 := (hb.cell (p := ⟨b1, off1 + k * 4 + 2, none⟩) hB1).trans c2
        have c3 := (hb.cell (p := ⟨b1, off1 + k * 4 + 3, none⟩) hB1).trans c3
        have d0 := (hb.cell (p := ⟨b2, off2 + k * 4, none⟩) hB2).trans d0
        have d1 := (hb.cell (p := ⟨b2, off2 + k * 4 + 1, none⟩) hB2).trans d1
        have d2 := (hb.cell (p := ⟨b2, off2 + k * 4 + 2, none⟩) hB2).trans d2
        have d3 := (hb.cell (p := ⟨b2, off2 + k * 4 + 3, none⟩) hB2).trans d3
        have hB1 := Nat.lt_of_lt_of_le hB1 hb.size
        have hB2 := Nat.lt_of_lt_of_le hB2 hb.size
        have hdr := eq_drop (fs := fs) (gs := gs) (k := k) (by rw [HL1.out]; exact hlt) (by rw [HL2.out]; exact hlt)
        generalize fs.getD k fld0 = f at c0 c1 c2 c3 hdr
        generalize gs.getD k fld0 = g at d0 d1 d2 d3 hdr
        generalize off1 + k * 4 = o1 at c0 c1 c2 c3 IX1
        generalize off2 + k * 4 = o2 at d0 d1 d2 d3 IX2
        clear hcc1 hcc2
        have HBR := Lib.hid hb
        by_cases he : f = g
        · subst he
          have HEQ := Lib.hid (fl_same f)
          have HF := Lib.hid (show decide (fs = gs) = decide (fs.drop (k + 1) = gs.drop (k + 1)) by rw [hf, decide_eq_decide, hdr]; simp)
          clear hf hdr hb
          go_wp2_with fail
          refine wp_region_G _ (by kernel_rfl) ?_
          refine wpG_take (i := 0) (oi := ⟨some 16, _, _, _, _, _⟩) (v := ?_) rfl (by kernel_rfl) (by kernel_rfl) (by kernel_rfl) (Or.inl ⟨by rfl, unib_val ?_⟩) ?_; rotate_left; (focus (intro w9 hSw; go_simp; try with_reducible rfl)); simp only [Act.put, List.setIfInBounds_toArray, List.set_cons_zero, List.set_cons_succ]
          refine wpG_take (i := 1) (oi := ⟨some 17, _, _, _, _, _⟩) (v := ?_) rfl (by kernel_rfl) (by kernel_rfl) (by kernel_rfl) (Or.inl ⟨by rfl, unib_val ?_⟩) ?_; rotate_left; (focus (intro w9 hSw; go_simp; try with_reducible rfl)); simp only [Act.put, List.setIfInBounds_toArray, List.set_cons_zero, List.set_cons_succ]
          refine wpG_take (i := 2) (oi := ⟨some 18, _, _, _, _, _⟩) (v := ?_) rfl (by kernel_rfl) (by kernel_rfl) (by kernel_rfl) (Or.inl ⟨by rfl, unib_val ?_⟩) ?_; rotate_left; (focus (intro w9 hSw; have q0 := IX1.out w9; go_simp; try with_reducible rfl)); simp only [Act.put, List.setIfInBounds_toArray, List.set_cons_zero, List.set_cons_succ]
          refine wpG_take (i := 3) (oi := ⟨some 19, _, _, _, _, _⟩) (v := ?_) rfl (by kernel_rfl) (by kernel_rfl) (by kernel_rfl) (Or.inl ⟨by rfl, unib_val ?_⟩) ?_; rotate_left; (focus (intro w9 hSw; have q0 := (hSw.cell (p := ⟨b1, o1, none⟩) hB1).trans c0; have q1 := (hSw.cell (p := ⟨b1, o1 + 1, none⟩) hB1).trans c1; have q2 := (hSw.cell (p := ⟨b1, o1 + 2, none⟩) hB1).trans c2; have q3 := (hSw.cell (p := ⟨b1, o1 + 3, none⟩) hB1).trans c3; go_simp; try with_reducible rfl)); simp only [Act.put, List.setIfInBounds_toArray, List.set_cons_zero, List.set_cons_succ]
          refine wpG_take (i := 4) (oi := ⟨some 20, _, _, _, _, _⟩) (v := ?_) rfl (by kernel_rfl) (by kernel_rfl) (by kernel_rfl) (Or.inl ⟨by rfl, unib_val ?_⟩) ?_; rotate_left; (focus (intro w9 hSw; go_simp; try with_reducible rfl)); simp only [Act.put, List.setIfInBounds_toArray, List.set_cons_zero, List.set_cons_succ]
          refine wpG_take (i := 5) (oi := ⟨some 21, _, _, _, _, _⟩) (v := ?_) rfl (by kernel_rfl) (by kernel_rfl) (by kernel_rfl) (Or.inl ⟨by rfl, unib_val ?_⟩) ?_; rotate_left; (focus (intro w9 hSw; go_simp; try with_reducible rfl)); simp only [Act.put, List.setIfInBounds_toArray, List.set_cons_zero, List.set_cons_succ]
          refine wpG_take (i := 6) (oi := ⟨some 22, _, _, _, _, _⟩) (v := ?_) rfl (by kernel_rfl) (by kernel_rfl) (by kernel_rfl) (Or.inl ⟨by rfl, unib_val ?_⟩) ?_; rotate_left; (focus (intro w9 hSw; have q0 := IX2.out w9; go_simp; try with_reducible rfl)); simp only [Act.put, List.setIfInBounds_toArray, List.set_cons_zero, List.set_cons_succ]
          refine wpG_take (i := 7) (oi := ⟨some 23, _, _, _, _, _⟩) (v := ?_) rfl (by kernel_rfl) (by kernel_rfl) (by kernel_rfl) (Or.inl ⟨by rfl, unib_val ?_⟩) ?_; rotate_left; (focus (intro w9 hSw; have q0 := (hSw.cell (p := ⟨b2, o2, none⟩) hB2).trans d0; have q1 := (hSw.cell (p := ⟨b2, o2 + 1, none⟩) hB2).trans d1; have q2 := (hSw.cell (p := ⟨b2, o2 + 2, none⟩) hB2).trans d2; have q3 := (hSw.cell (p := ⟨b2, o2 + 3, none⟩) hB2).trans d3; go_simp; try with_reducible rfl)); simp only [Act.put, List.setIfInBounds_toArray, List.set_cons_zero, List.set_cons_succ]
          refine wpG_take (i := 8) (oi := ⟨some 24, _, _, _, _, _⟩) (v := ?_) rfl (by kernel_rfl) (by kernel_rfl) (by kernel_rfl) (Or.inl ⟨by rfl, unib_val ?_⟩) ?_; rotate_left; (focus (intro w9 hSw; have q0 := HEQ.out w9; go_simp; try with_reducible rfl)); simp only [Act.put, List.setIfInBounds_toArray, List.set_cons_zero, List.set_cons_succ]
          refine wpG_done (by kernel_rfl) ?_ _
          intro w9 hSw _
          have B9 := Lib.hid (HBR.out.trans (hSw.mono HBR.out.size))
          clear hSw c0 c1 c2 c3 d0 d1 d2 d3
          go_wp2
          go_roundw
          case rel => exact ⟨k + 1, by omega, by go_num, B9.out, HF.out⟩
          case measure => simp [intOf]; omega
        · have HNE := Lib.hid he
          have HF := Lib.hid (show decide (fs = gs) = false by rw [hf, decide_eq_false_iff_not, hdr]; simp [he])
          clear hf hdr hb he
          go_wp2_with fail
          refine wp_region_G _ (by kernel_rfl) ?_
          refine wpG_take (i := 0) (oi := ⟨some 16, _, _, _, _, _⟩) (v := ?_) rfl (by kernel_rfl) (by kernel_rfl) (by kernel_rfl) (Or.inl ⟨by rfl, unib_val ?_⟩) ?_; rotate_left; (focus (intro w9 hSw; go_simp; try with_reducible rfl)); simp only [Act.put, List.setIfInBounds_toArray, List.set_cons_zero, List.set_cons_succ]
          refine wpG_take (i := 1) (oi := ⟨some 17, _, _, _, _, _⟩) (v := ?_) rfl (by kernel_rfl) (by kernel_rfl) (by kernel_rfl) (Or.inl ⟨by rfl, unib_val ?_⟩) ?_; rotate_left; (focus (intro w9 hSw; go_simp; try with_reducible rfl)); simp only [Act.put, List.setIfInBounds_toArray, List.set_cons_zero, List.set_cons_succ]
          refine wpG_take (i := 2) (oi := ⟨some 18, _, _, _, _, _⟩) (v := ?_) rfl (by kernel_rfl) (by kernel_rfl) (by kernel_rfl) (Or.inl ⟨by rfl, unib_val ?_⟩) ?_; rotate_left; (focus (intro w9 hSw; have q0 := IX1.out w9; go_simp; try with_reducible rfl)); simp only [Act.put, List.setIfInBounds_toArray, List.set_cons_zero, List.set_cons_succ]
          refine wpG_take (i := 3) (oi := ⟨some 19, _, _, _, _, _⟩) (v := ?_) rfl (by kernel_rfl) (by kernel_rfl) (by kernel_rfl) (Or.inl ⟨by rfl, unib_val ?_⟩) ?_; rotate_left; (focus (intro w9 hSw; have q0 := (hSw.cell (p := ⟨b1, o1, none⟩) hB1).trans c0; have q1 := (hSw.cell (p := ⟨b1, o1 + 1, none⟩) hB1).trans c1; have q2 := (hSw.cell (p := ⟨b1, o1 + 2, none⟩) hB1).trans c2; have q3 := (hSw.cell (p := ⟨b1, o1 + 3, none⟩) hB1).trans c3; go_simp; try with_reducible rfl)); simp only [Act.put, List.setIfInBounds_toArray, List.set_cons_zero, List.set_cons_succ]
          refine wpG_take (i := 4) (oi := ⟨some 20, _, _, _, _, _⟩) (v := ?_) rfl (by kernel_rfl) (by kernel_rfl) (by kernel_rfl) (Or.inl ⟨by rfl, unib_val ?_⟩) ?_; rotate_left; (focus (intro w9 hSw; go_simp; try with_reducible rfl)); simp only [Act.put, List.setIfInBounds_toArray, List.set_cons_zero, List.set_cons_succ]
          refine wpG_take (i := 5) (oi := ⟨some 21, _, _, _, _, _⟩) (v := ?_) rfl (by kernel_rfl) (by kernel_rfl) (by kernel_rfl) (Or.inl ⟨by rfl, unib_val ?_⟩) ?_; rotate_left; (focus (intro w9 hSw; go_simp; try with_reducible rfl)); simp only [Act.put, List.setIfInBounds_toArray, List.set_cons_zero, List.set_cons_succ]
          refine wpG_take (i := 6) (oi := ⟨some 22, _, _, _, _, _⟩) (v := ?_) rfl (by kernel_rfl) (by kernel_rfl) (by kernel_rfl) (Or.inl ⟨by rfl, unib_val ?_⟩) ?_; rotate_left; (focus (intro w9 hSw; have q0 := IX2.out w9; go_simp; try with_reducible rfl)); simp only [Act.put, List.setIfInBounds_toArray, List.set_cons_zero, List.set_cons_succ]
          refine wpG_take (i := 7) (oi := ⟨some 23, _, _, _, _, _⟩) (v := ?_) rfl (by kernel_rfl) (by kernel_rfl) (by kernel_rfl) (Or.inl ⟨by rfl, unib_val ?_⟩) ?_; rotate_left; (focus (intro w9 hSw; have q0 := (hSw.cell (p := ⟨b2, o2, none⟩) hB2).trans d0; have q1 := (hSw.cell (p := ⟨b2, o2 + 1, none⟩) hB2).trans d1; have q2 := (hSw.cell (p := ⟨b2, o2 + 2, none⟩) hB2).trans d2; have q3 := (hSw.cell (p := ⟨b2, o2 + 3, none⟩) hB2).trans d3; go_simp; try with_reducible rfl)); simp only [Act.put, List.setIfInBounds_toArray, List.set_cons_zero, List.set_cons_succ]
          refine wpG_take (i := 8) (oi := ⟨some 24, _, _, _, _, _⟩) (v := ?_) rfl (by kernel_rfl) (by kernel_rfl) (by kernel_rfl) (Or.inl ⟨by rfl, unib_val ?_⟩) ?_; rotate_left; (focus (intro w9 hSw; go_simp; rw [fl_if HNE.out]; try with_reducible rfl)); simp only [Act.put, List.setIfInBounds_toArray, List.set_cons_zero, List.set_cons_succ]
          refine wpG_done (by kernel_rfl) ?_ _
          intro w9 hSw _
          have B9 := Lib.hid (HBR.out.trans (hSw.mono HBR.out.size))
          clear hSw c0 c1 c2 c3 d0 d1 d2 d3
          go_wp2
          go_ret
          exact ⟨by rw [HF.out]; rfl, B9.out⟩
      · obtain rfl : k = len1 := by omega
        rw [List.drop_eq_nil_of_le (by rw [HL1.out]; exact Nat.le_refl _), List.drop_eq_nil_of_le (by rw [HL2.out]; exact Nat.le_refl _)] at hf
        have HF := Lib.hid hf
        have HB := Lib.hid hb
        clear hf hb
        go_wp2
        go_ret
        exact ⟨by rw [HF.out]; simp, HB.out⟩
  · have HF := Lib.hid (show decide (fs = gs) = false by rw [decide_eq_false_iff_not]; intro e; apply hl; rw [← HL1.out, ← HL2.out, e])
    have hne : ¬ (len1 : Int) = (len2 : Int) := by omega
    have HB0 := Lib.hid (Below.refl w.heap.size w)
    go_enter Tryd.func28, Tryd.ntmps28
    go_wp2
    go_ret
    exact ⟨by rw [HF.out]; rfl, HB0.out⟩
end Go.Proofs.YtcmknbdeafcknaaDoor

end
section
/-
  What rec.Same answers. Nothing that was there is written.
-/
namespace Go.Proofs.YtcmknbdeafcknaaDoor
open Go.RowKit WM
set_option linter.unusedVariables false
theorem same_pair {n r m s : Int} (w : World) : (Op.equalIn 10000 25 (.agg #[.int .i64 n, .int .i64 r]) (.agg #[.int .i64 m, .int .i64 s])).run Tryd.prog w = .ok (decide (n = m ∧ r = s)) w := by
  by_cases h1 : n = m
  · subst h1
    by_cases h2 : r = s
    · subst h2
      go_simp
    · go_simp
  · go_simp
noncomputable def rsame (z1 : List Int) (n1 r1 : Int) (f1 : List Fld) (z2 : List Int) (n2 r2 : Int) (f2 : List Fld) : Bool := (z1 == z2) && decide (n1 = n2 ∧ r1 = r2) && decide (f1 = f2)
set_option maxHeartbeats 2000000 in
theorem rsame_any (z1 : List Int) (n1 r1 : Int) (A1 : Option Addr) (l1 c1 : Nat) (f1 : List Fld) (z2 : List Int) (n2 r2 : Int) (A2 : Option Addr) (l2 c2 : Nat) (f2 : List Fld) (w : World)
    (hz1 : z1.length = 16) (hz2 : z2.length = 16) (hb1 : AllBytes z1) (hb2 : AllBytes z2) (hl1 : f1.length = l1) (hl2 : f2.length = l2) (h1 : FsAt w A1 c1 f1) (h2 : FsAt w A2 c2 f2) :
    Calls Tryd.prog 14 #[rv z1 n1 r1 (.slice A1 l1 c1), rv z2 n2 r2 (.slice A2 l2 c2)] w fun e w' => e = .returned (.bool (rsame z1 n1 r1 f1 z2 n2 r2 f2)) ∧ Below w.heap.size w w' := by
  have S1 := (RcAt.new w hz1 n1 r1 (.slice A1 l1 c1)).old (.cells (rcells z2 n2 r2 (.slice A2 l2 c2)) 28)
  have S2 := RcAt.new (w.alloc (.cells (rcells z1 n1 r1 (.slice A1 l1 c1)) 28)) hz2 n2 r2 (.slice A2 l2 c2)
  rw [World.size_alloc] at S2
  have HB := ((Below.refl w.heap.size w).alloc (Nat.le_refl _) (.cells (rcells z1 n1 r1 (.slice A1 l1 c1)) 28)).alloc (by simp) (.cells (rcells z2 n2 r2 (.slice A2 l2 c2)) 28)
  have HC := Lib.hid (equal_any A1 A2 l1 l2 c1 c2 f1 f2 _ hl1 hl2 (h1.below HB (Nat.le_refl _)) (h2.below HB (Nat.le_refl _)))
  have HE := eq_id hb1 hb2 hz1 hz2
  have L1 := Lib.hid (load_id S1)
  have L2 := Lib.hid (load_id S2)
  have a6 := S1.c16
  have a7 := S1.c17
  have a8 := S1.c18
  have b6 := S2.c16
  have b7 := S2.c17
  have b8 := S2.c18
  have HB := Lib.hid HB
  clear S1 S2 h1 h2 hl1 hl2
  have SP := @same_pair n1 r1 n2 r2
  have HV : Hid (rsame z1 n1 r1 f1 z2 n2 r2 f2 = ((z1 == z2) && decide (n1 = n2 ∧ r1 = r2) && decide (f1 = f2))) := Lib.hid rfl
  generalize rsame z1 n1 r1 f1 z2 n2 r2 f2 = V at *
  unfold rv
  cases hz : (z1 == z2)
  · rw [hz] at HE HV
    simp only [Bool.false_and] at HV
    clear hz
    go_enter Tryd.func14, Tryd.ntmps14
    go_wp2_with (first | ((with_reducible refine wpList_load_by (o := ⟨some 6, .load 23 (.tmp 5), _, _, _, _⟩) ?e1 23 (.tmp 5) ?e2 ⟨w.heap.size, 0, none⟩ ?e3 _ L1.out ?_); (case e1 => rfl); (case e2 => rfl); (case e3 => rfl)) | ((with_reducible refine wpList_load_by (o := ⟨some 8, .load 23 (.tmp 7), _, _, _, _⟩) ?e1 23 (.tmp 7) ?e2 ⟨w.heap.size + 1, 0, none⟩ ?e3 _ L2.out ?_); (case e1 => rfl); (case e2 => rfl); (case e3 => rfl)))
    go_ret
    exact ⟨by rw [HV.out]; rfl, HB.out⟩
  · rw [hz] at HE HV
    simp only [Bool.true_and] at HV
    clear hz
    cases hd : decide (n1 = n2 ∧ r1 = r2)
    · rw [hd] at SP HV
      simp only [Bool.false_and] at HV
      clear hd
      go_enter Tryd.func14, Tryd.ntmps14
      go_wp2_with (first | ((with_reducible refine wpList_load_by (o := ⟨some 6, .load 23 (.tmp 5), _, _, _, _⟩) ?e1 23 (.tmp 5) ?e2 ⟨w.heap.size, 0, none⟩ ?e3 _ L1.out ?_); (case e1 => rfl); (case e2 => rfl); (case e3 => rfl)) | ((with_reducible refine wpList_load_by (o := ⟨some 8, .load 23 (.tmp 7), _, _, _, _⟩) ?e1 23 (.tmp 7) ?e2 ⟨w.heap.size + 1, 0, none⟩ ?e3 _ L2.out ?_); (case e1 => rfl); (case e2 => rfl); (case e3 => rfl)))
      go_ret
      exact ⟨by rw [HV.out]; rfl, HB.out⟩
    · rw [hd] at SP HV
      simp only [Bool.true_and] at HV
      clear hd
      go_enter Tryd.func14, Tryd.ntmps14
      go_wp2_with (first | ((with_reducible refine wpList_load_by (o := ⟨some 6, .load 23 (.tmp 5), _, _, _, _⟩) ?e1 23 (.tmp 5) ?e2 ⟨w.heap.size, 0, none⟩ ?e3 _ L1.out ?_); (case e1 => rfl); (case e2 => rfl); (case e3 => rfl)) | ((with_reducible refine wpList_load_by (o := ⟨some 8, .load 23 (.tmp 7), _, _, _, _⟩) ?e1 23 (.tmp 7) ?e2 ⟨w.heap.size + 1, 0, none⟩ ?e3 _ L2.out ?_); (case e1 => rfl); (case e2 => rfl); (case e3 => rfl)))
      refine HC.out.mono ?_
      rintro e w2 ⟨rfl, hb⟩
      have bw := Lib.hid (HB.out.trans (hb.mono HB.out.size))
      clear hb
      go_wp2
      go_ret
      exact ⟨by rw [HV.out]; rfl, bw.out⟩
end Go.Proofs.YtcmknbdeafcknaaDoor

end
