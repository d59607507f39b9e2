import Derived.Test.YtcmknbdeafcknaaDoorGRcA
import Derived.Test.YtcmknbdeafcknaaDoorGRcSame
import Derived.Test.YtcmknbdeafcknaaDoorGUni
import Derived.Test.YtcmknbdeafcknaaDoorGClR
section
/-
  What the document's own Find and Same of records answer. Nothing that was there is written.
-/
namespace Go.Proofs.YtcmknbdeafcknaaDoor
open Go.RowKit WM
set_option linter.unusedVariables false
set_option maxRecDepth 100000
set_option maxHeartbeats 2000000 in
theorem rrfind_any (z : List Int) (n r : Int) (A : Option Addr) (len c : Nat) (fs : List Fld) (no : Int) (w : World) (hz : z.length = 16) (hl : fs.length = len) (hln : len ≤ 1000) (h : FsAt w A c fs) :
    Calls Tryd.prog 7 #[rv z n r (.slice A len c), .int .i64 no] w (FindPost w (rfind fs no)) := by
  obtain ⟨hc1, hc2, hc3, hcell⟩ := h
  simp only [maxLen] at hc2
  have HL := Lib.hid hl
  have HC := Lib.hid hcell
  have S0 := (RcAt.new w hz n r (.slice A len c)).old (.cells #[.int .i64 0, .int .i64 0, .string ⟨#[]⟩] 32)
  have c18 := S0.c18
  have S1 := ClAt.new (w.alloc (.cells (rcells z n r (.slice A len c)) 28)) cel00
  rw [World.size_alloc] at S1
  have HB := ((Below.refl w.heap.size w).alloc (Nat.le_refl _) (.cells (rcells z n r (.slice A len c)) 28)).alloc (by simp) (.cells #[.int .i64 0, .int .i64 0, .string ⟨#[]⟩] 32)
  have H1 := Lib.hid (And.intro S0 (And.intro S1 HB))
  have hlen : len ≤ c := by omega
  clear hcell S0 S1 HB hc1 hl
  unfold rv
  go_enter Tryd.func7, Tryd.ntmps7
  go_wp2
  clear c18
  go_loopw [6] (fun i wr => ∃ k : Nat, k ≤ len ∧ i = .int .i64 k ∧ RcAt wr w.heap.size z n r (.slice A len c) ∧ ClAt wr (w.heap.size + 1) cel00 ∧ Below w.heap.size w wr ∧ rfind fs no = rfind (fs.drop k) no) (fun i _ => len - (intOf i).toNat)
  case atStart => exact ⟨0, Nat.zero_le _, rfl, H1.out.1, H1.out.2.1, H1.out.2.2, rfl⟩
  case round =>
    obtain ⟨k, hk, rfl, hr, hs, hb, hf⟩ := hrel
    have d18 := hr.c18
    have HR := Lib.hid hr
    by_cases hlt : k < len
    · have t1 : (k : Int) < (len : Int) := by omega
      obtain ⟨b, off, rfl, hbB, hcc⟩ := HC.out (by rw [HL.out]; omega)
      obtain ⟨c0, c1, c2, c3⟩ := hcc k (by rw [HL.out]; exact hlt)
      have c0 := (hb.cell (p := ⟨b, off + k * 4, none⟩) hbB).trans c0
      have c1 := (hb.cell (p := ⟨b, off + k * 4 + 1, none⟩) hbB).trans c1
      have c2 := (hb.cell (p := ⟨b, off + k * 4 + 2, none⟩) hbB).trans c2
      have c3 := (hb.cell (p := ⟨b, off + k * 4 + 3, none⟩) hbB).trans c3
      have IX := ix_fld b off len c k hlt k rfl
      rw [rfind_drop (by rw [HL.out]; exact hlt)] at hf
      generalize fs.getD k fld0 = f at c0 c1 c2 c3 hf
      obtain ⟨m, x⟩ := f
      dsimp only at c0 c1 c2 c3 hf
      generalize off + k * 4 = o at c0 c1 c2 c3 IX
      clear hcc
      by_cases he : m = no
      · subst he
        have d0 := hs.c0
        have d1 := hs.c1
        have d2 := hs.c2
        have e0 := hs.fz 0
        have e1 := hs.fz 1
        have e2 := hs.fz 2
        have HP := Lib.hid (hs.put x)
        have HQ := Lib.hid (below_put3 hb (show w.heap.size ≤ w.heap.size + 1 by omega) (.int .i64 x.n) (.int .i64 x.r) (.string x.s))
        rw [if_pos rfl] at hf
        have HF := Lib.hid hf
        clear hs hb hf hr
        go_wp2
        refine bodyPost_ret (v := .tuple #[x.v, .bool true]) ?_ rfl ⟨?_, HQ.out⟩
        · exact res_cl2 Tryd.results7 rfl HP.out
        · rw [HF.out]; rfl
      · rw [if_neg he] at hf
        have HF := Lib.hid hf
        have HO := Lib.hid hs
        have HBO := Lib.hid hb
        clear hs hb hf hr
        go_wp2
        go_roundw
        case rel => exact ⟨k + 1, by omega, by go_num, HR.out, HO.out, HBO.out, HF.out⟩
        case measure => simp [intOf]; omega
    · obtain rfl : k = len := by omega
      have e0 := hs.fz 0
      have e1 := hs.fz 1
      have e2 := hs.fz 2
      have d0 := hs.c0
      have d1 := hs.c1
      have d2 := hs.c2
      have HP := Lib.hid (hs.put cel00)
      have HQ := Lib.hid (below_put3 hb (show w.heap.size ≤ w.heap.size + 1 by omega) (.int .i64 0) (.int .i64 0) (.string ⟨#[]⟩))
      rw [List.drop_eq_nil_of_le (by rw [HL.out]; exact Nat.le_refl _), rfind_nil] at hf
      have HF := Lib.hid hf
      clear hs hb hf hr
      go_wp2
      refine bodyPost_ret (v := .tuple #[cel00.v, .bool false]) ?_ rfl ⟨?_, HQ.out⟩
      · exact res_cl2 Tryd.results7 rfl HP.out
      · rw [HF.out]; rfl
end Go.Proofs.YtcmknbdeafcknaaDoor

end
section
/-
  What the document's own Same of records answers. Nothing that was there is written.
-/
namespace Go.Proofs.YtcmknbdeafcknaaDoor
open Go.RowKit WM
set_option linter.unusedVariables false
set_option maxRecDepth 100000
set_option maxHeartbeats 4000000 in
theorem rrsame_any (z1 : List Int) (n1 r1 : Int) (A1 : Option Addr) (l1 cap1 : Nat) (fs : List Fld) (z2 : List Int) (n2 r2 : Int) (A2 : Option Addr) (l2 cap2 : Nat) (gs : List Fld) (w : World)
    (hz1 : z1.length = 16) (hz2 : z2.length = 16) (hb1 : AllBytes z1) (hb2 : AllBytes z2) (hl1 : fs.length = l1) (hl2 : gs.length = l2) (hln : l1 ≤ 1000) (h1 : FsAt w A1 cap1 fs) (h2 : FsAt w A2 cap2 gs) :
    Calls Tryd.prog 10 #[rv z1 n1 r1 (.slice A1 l1 cap1), rv z2 n2 r2 (.slice A2 l2 cap2)] w fun e w' => e = .returned (.bool (rsame z1 n1 r1 fs z2 n2 r2 gs)) ∧ Below w.heap.size w w' := by
  have S1 := (RcAt.new w hz1 n1 r1 (.slice A1 l1 cap1)).old (.cells (rcells z2 n2 r2 (.slice A2 l2 cap2)) 28)
  have S2 := RcAt.new (w.alloc (.cells (rcells z1 n1 r1 (.slice A1 l1 cap1)) 28)) hz2 n2 r2 (.slice A2 l2 cap2)
  rw [World.size_alloc] at S2
  have HB := ((Below.refl w.heap.size w).alloc (Nat.le_refl _) (.cells (rcells z1 n1 r1 (.slice A1 l1 cap1)) 28)).alloc (by simp) (.cells (rcells z2 n2 r2 (.slice A2 l2 cap2)) 28)
  obtain ⟨hc1, hc2, hc3, hcell1⟩ := h1
  obtain ⟨gc1, gc2, gc3, hcell2⟩ := h2
  simp only [maxLen] at hc2 gc2
  have HC1 := Lib.hid hcell1
  have HC2 := Lib.hid hcell2
  have HL1 := Lib.hid hl1
  have HL2 := Lib.hid hl2
  have hcl1 : l1 ≤ cap1 := by omega
  have hcl2 : l2 ≤ cap2 := by omega
  have HE := eq_id hb1 hb2 hz1 hz2
  have L1 := Lib.hid (load_id S1)
  have L2 := Lib.hid (load_id S2)
  have a6 := S1.c16
  have a7 := S1.c17
  have a8 := S1.c18
  have b6 := S2.c16
  have b7 := S2.c17
  have b8 := S2.c18
  have HB := Lib.hid HB
  have H1 := Lib.hid S1
  have H2 := Lib.hid S2
  clear S1 S2 hcell1 hcell2 hl1 hl2 hc1 gc1
  have SP := @same_pair n1 r1 n2 r2
  have HV : Hid (rsame z1 n1 r1 fs z2 n2 r2 gs = ((z1 == z2) && decide (n1 = n2 ∧ r1 = r2) && decide (fs = gs))) := Lib.hid rfl
  generalize rsame z1 n1 r1 fs z2 n2 r2 gs = V at *
  unfold rv
  cases hz : (z1 == z2)
  · rw [hz] at HE HV
    simp only [Bool.false_and] at HV
    clear hz
    go_enter Tryd.func10, Tryd.ntmps10
    go_wp2_with (first | ((with_reducible refine wpList_load_by (o := ⟨some 7, .load 23 (.tmp 6), _, _, _, _⟩) ?e1 23 (.tmp 6) ?e2 ⟨w.heap.size, 0, none⟩ ?e3 _ L1.out ?_); (case e1 => rfl); (case e2 => rfl); (case e3 => rfl)) | ((with_reducible refine wpList_load_by (o := ⟨some 9, .load 23 (.tmp 8), _, _, _, _⟩) ?e1 23 (.tmp 8) ?e2 ⟨(w.heap.size + 1), 0, none⟩ ?e3 _ L2.out ?_); (case e1 => rfl); (case e2 => rfl); (case e3 => rfl)))
    go_ret
    exact ⟨by rw [HV.out]; rfl, HB.out⟩
  · rw [hz] at HE HV
    simp only [Bool.true_and] at HV
    clear hz
    cases hd : decide (n1 = n2 ∧ r1 = r2)
    · rw [hd] at SP HV
      simp only [Bool.false_and] at HV
      clear hd
      go_enter Tryd.func10, Tryd.ntmps10
      go_wp2_with (first | ((with_reducible refine wpList_load_by (o := ⟨some 7, .load 23 (.tmp 6), _, _, _, _⟩) ?e1 23 (.tmp 6) ?e2 ⟨w.heap.size, 0, none⟩ ?e3 _ L1.out ?_); (case e1 => rfl); (case e2 => rfl); (case e3 => rfl)) | ((with_reducible refine wpList_load_by (o := ⟨some 9, .load 23 (.tmp 8), _, _, _, _⟩) ?e1 23 (.tmp 8) ?e2 ⟨(w.heap.size + 1), 0, none⟩ ?e3 _ L2.out ?_); (case e1 => rfl); (case e2 => rfl); (case e3 => rfl)))
      go_ret
      exact ⟨by rw [HV.out]; rfl, HB.out⟩
    · rw [hd] at SP HV
      simp only [Bool.true_and] at HV
      clear hd
      by_cases hl : l1 = l2
      · subst hl
        have HV0 := Lib.hid (show V = decide (fs.drop 0 = gs.drop 0) from HV.out)
        go_enter Tryd.func10, Tryd.ntmps10
        go_wp2_with (first | ((with_reducible refine wpList_load_by (o := ⟨some 7, .load 23 (.tmp 6), _, _, _, _⟩) ?e1 23 (.tmp 6) ?e2 ⟨w.heap.size, 0, none⟩ ?e3 _ L1.out ?_); (case e1 => rfl); (case e2 => rfl); (case e3 => rfl)) | ((with_reducible refine wpList_load_by (o := ⟨some 9, .load 23 (.tmp 8), _, _, _, _⟩) ?e1 23 (.tmp 8) ?e2 ⟨(w.heap.size + 1), 0, none⟩ ?e3 _ L2.out ?_); (case e1 => rfl); (case e2 => rfl); (case e3 => rfl)))
        clear a6 a7 a8 b6 b7 b8
        go_loopw [5] (fun i wr => ∃ k : Nat, k ≤ l1 ∧ i = .int .i64 k ∧ RcAt wr w.heap.size z1 n1 r1 (.slice A1 l1 cap1) ∧ RcAt wr (w.heap.size + 1) z2 n2 r2 (.slice A2 l1 cap2) ∧ Below w.heap.size w wr ∧ V = decide (fs.drop k = gs.drop k)) (fun i _ => l1 - (intOf i).toNat)
        case atStart => exact ⟨0, Nat.zero_le _, rfl, H1.out, H2.out, HB.out, HV0.out⟩
        case round =>
          obtain ⟨k, hk, rfl, hr1, hr2, hb, hf⟩ := hrel
          have a8 := hr1.c18
          have R1 := Lib.hid hr1
          have R2 := Lib.hid hr2
          by_cases hlt : k < l1
          · have t1 : (k : Int) < (l1 : Int) := by omega
            obtain ⟨b1, off1, hA1, hB1, hcc1⟩ := HC1.out (by rw [HL1.out]; omega)
            obtain ⟨c0, c1, c2, c3⟩ := hcc1 k (by rw [HL1.out]; exact hlt)
            have IX1 := Lib.hid (fun w9 => ix_fld b1 off1 l1 cap1 k hlt k rfl w9)
            obtain ⟨b2, off2, hA2, hB2, hcc2⟩ := HC2.out (by rw [HL2.out]; omega)
            obtain ⟨d0, d1, d2, d3⟩ := hcc2 k (by rw [HL2.out]; exact hlt)
            have IX2 := Lib.hid (fun w9 => ix_fld b2 off2 l1 cap2 k hlt k rfl w9)
            rw [← hA1] at IX1
            rw [← hA2] at IX2
            have c0 := (hb.cell (p := ⟨b1, off1 + k * 4, none⟩) hB1).trans c0
            have c1 := (hb.cell (p := ⟨b1, off1 + k * 4 + 1, none⟩) hB1).trans c1
            have c2 := (hb.cell (p := ⟨b1, off1 + k * 4 + 2, none⟩) hB1).trans c2
            have c3 := (hb.cell (p := ⟨b1, off1 + k * 4 + 3, none⟩) hB1).trans c3
            have d0 := (hb.cell (p := ⟨b2, off2 + k * 4, none⟩) hB2).trans d0
            have d1 := (hb.cell (p := ⟨b2, off2 + k * 4 + 1, none⟩) hB2).trans d1
            have d2 := (hb.cell (p := ⟨b2, off2 + k * 4 + 2, none⟩) hB2).trans d2
            have d3 := (hb.cell (p := ⟨b2, off2 + k * 4 + 3, none⟩) hB2).trans d3
            have hB1 := Nat.lt_of_lt_of_le hB1 hb.size
            have hB2 := Nat.lt_of_lt_of_le hB2 hb.size
            have hdr := eq_drop (fs := fs) (gs := gs) (k := k) (by rw [HL1.out]; exact hlt) (by rw [HL2.out]; exact hlt)
            generalize fs.getD k fld0 = f at c0 c1 c2 c3 hdr
            generalize gs.getD k fld0 = g at d0 d1 d2 d3 hdr
            generalize off1 + k * 4 = o1 at c0 c1 c2 c3 IX1
            generalize off2 + k * 4 = o2 at d0 d1 d2 d3 IX2
            clear hcc1 hcc2 hA1 hA2
            have HBR := Lib.hid hb
            by_cases he : f = g
            · subst he
              have HEQ := Lib.hid (fl_same f)
              have HF := Lib.hid (show V = decide (fs.drop (k + 1) = gs.drop (k + 1)) by rw [hf, decide_eq_decide, hdr]; simp)
              clear hf hdr hb hr1 hr2
              go_wp2_with fail
              refine wp_region_G _ (by kernel_rfl) ?_
              refine wpG_take (i := 0) (oi := ⟨some 34, _, _, _, _, _⟩) (v := ?_) rfl (by kernel_rfl) (by kernel_rfl) (by kernel_rfl) (Or.inl ⟨by rfl, unib_val ?_⟩) ?_; rotate_left; (focus (intro w9 hSw; go_simp; try with_reducible rfl)); simp only [Act.put, List.setIfInBounds_toArray, List.set_cons_zero, List.set_cons_succ]
              refine wpG_take (i := 1) (oi := ⟨some 35, _, _, _, _, _⟩) (v := ?_) rfl (by kernel_rfl) (by kernel_rfl) (by kernel_rfl) (Or.inl ⟨by rfl, unib_val ?_⟩) ?_; rotate_left; (focus (intro w9 hSw; have q0 := (R1.out.below hSw R1.out.lt).c18; go_simp; try with_reducible rfl)); simp only [Act.put, List.setIfInBounds_toArray, List.set_cons_zero, List.set_cons_succ]
              refine wpG_take (i := 2) (oi := ⟨some 36, _, _, _, _, _⟩) (v := ?_) rfl (by kernel_rfl) (by kernel_rfl) (by kernel_rfl) (Or.inl ⟨by rfl, unib_val ?_⟩) ?_; rotate_left; (focus (intro w9 hSw; go_simp; try with_reducible rfl)); simp only [Act.put, List.setIfInBounds_toArray, List.set_cons_zero, List.set_cons_succ]
              refine wpG_take (i := 3) (oi := ⟨some 37, _, _, _, _, _⟩) (v := ?_) rfl (by kernel_rfl) (by kernel_rfl) (by kernel_rfl) (Or.inl ⟨by rfl, unib_val ?_⟩) ?_; rotate_left; (focus (intro w9 hSw; have q0 := IX1.out w9; go_simp; try with_reducible rfl)); simp only [Act.put, List.setIfInBounds_toArray, List.set_cons_zero, List.set_cons_succ]
              refine wpG_take (i := 4) (oi := ⟨some 38, _, _, _, _, _⟩) (v := ?_) rfl (by kernel_rfl) (by kernel_rfl) (by kernel_rfl) (Or.inl ⟨by rfl, unib_val ?_⟩) ?_; rotate_left; (focus (intro w9 hSw; have q0 := (hSw.cell (p := ⟨b1, o1, none⟩) hB1).trans c0; have q1 := (hSw.cell (p := ⟨b1, o1 + 1, none⟩) hB1).trans c1; have q2 := (hSw.cell (p := ⟨b1, o1 + 2, none⟩) hB1).trans c2; have q3 := (hSw.cell (p := ⟨b1, o1 + 3, none⟩) hB1).trans c3; go_simp; try with_reducible rfl)); simp only [Act.put, List.setIfInBounds_toArray, List.set_cons_zero, List.set_cons_succ]
              refine wpG_take (i := 5) (oi := ⟨some 39, _, _, _, _, _⟩) (v := ?_) rfl (by kernel_rfl) (by kernel_rfl) (by kernel_rfl) (Or.inl ⟨by rfl, unib_val ?_⟩) ?_; rotate_left; (focus (intro w9 hSw; go_simp; try with_reducible rfl)); simp only [Act.put, List.setIfInBounds_toArray, List.set_cons_zero, List.set_cons_succ]
              refine wpG_take (i := 6) (oi := ⟨some 40, _, _, _, _, _⟩) (v := ?_) rfl (by kernel_rfl) (by kernel_rfl) (by kernel_rfl) (Or.inl ⟨by rfl, unib_val ?_⟩) ?_; rotate_left; (focus (intro w9 hSw; have q0 := (R2.out.below hSw R2.out.lt).c18; go_simp; try with_reducible rfl)); simp only [Act.put, List.setIfInBounds_toArray, List.set_cons_zero, List.set_cons_succ]
              refine wpG_take (i := 7) (oi := ⟨some 41, _, _, _, _, _⟩) (v := ?_) rfl (by kernel_rfl) (by kernel_rfl) (by kernel_rfl) (Or.inl ⟨by rfl, unib_val ?_⟩) ?_; rotate_left; (focus (intro w9 hSw; go_simp; try with_reducible rfl)); simp only [Act.put, List.setIfInBounds_toArray, List.set_cons_zero, List.set_cons_succ]
              refine wpG_take (i := 8) (oi := ⟨some 42, _, _, _, _, _⟩) (v := ?_) rfl (by kernel_rfl) (by kernel_rfl) (by kernel_rfl) (Or.inl ⟨by rfl, unib_val ?_⟩) ?_; rotate_left; (focus (intro w9 hSw; have q0 := IX2.out w9; go_simp; try with_reducible rfl)); simp only [Act.put, List.setIfInBounds_toArray, List.set_cons_zero, List.set_cons_succ]
              refine wpG_take (i := 9) (oi := ⟨some 43, _, _, _, _, _⟩) (v := ?_) rfl (by kernel_rfl) (by kernel_rfl) (by kernel_rfl) (Or.inl ⟨by rfl, unib_val ?_⟩) ?_; rotate_left; (focus (intro w9 hSw; have q0 := (hSw.cell (p := ⟨b2, o2, none⟩) hB2).trans d0; have q1 := (hSw.cell (p := ⟨b2, o2 + 1, none⟩) hB2).trans d1; have q2 := (hSw.cell (p := ⟨b2, o2 + 2, none⟩) hB2).trans d2; have q3 := (hSw.cell (p := ⟨b2, o2 + 3, none⟩) hB2).trans d3; go_simp; try with_reducible rfl)); simp only [Act.put, List.setIfInBounds_toArray, List.set_cons_zero, List.set_cons_succ]
              refine wpG_take (i := 10) (oi := ⟨some 44, _, _, _, _, _⟩) (v := ?_) rfl (by kernel_rfl) (by kernel_rfl) (by kernel_rfl) (Or.inl ⟨by rfl, unib_val ?_⟩) ?_; rotate_left; (focus (intro w9 hSw; have q0 := HEQ.out w9; go_simp; try with_reducible rfl)); simp only [Act.put, List.setIfInBounds_toArray, List.set_cons_zero, List.set_cons_succ]
              refine wpG_done (by kernel_rfl) ?_ _
              intro w9 hSw _
              have B9 := Lib.hid (HBR.out.trans (hSw.mono HBR.out.size))
              have R19 := Lib.hid (R1.out.below hSw R1.out.lt)
              have R29 := Lib.hid (R2.out.below hSw R2.out.lt)
              clear hSw c0 c1 c2 c3 d0 d1 d2 d3 a8
              go_wp2
              go_roundw
              case rel => exact ⟨k + 1, by omega, by go_num, R19.out, R29.out, B9.out, HF.out⟩
              case measure => simp [intOf]; omega
            · have HNE := Lib.hid he
              have HF := Lib.hid (show V = false by rw [hf, decide_eq_false_iff_not, hdr]; simp [he])
              clear hf hdr hb he hr1 hr2
              go_wp2_with fail
              refine wp_region_G _ (by kernel_rfl) ?_
              refine wpG_take (i := 0) (oi := ⟨some 34, _, _, _, _, _⟩) (v := ?_) rfl (by kernel_rfl) (by kernel_rfl) (by kernel_rfl) (Or.inl ⟨by rfl, unib_val ?_⟩) ?_; rotate_left; (focus (intro w9 hSw; go_simp; try with_reducible rfl)); simp only [Act.put, List.setIfInBounds_toArray, List.set_cons_zero, List.set_cons_succ]
              refine wpG_take (i := 1) (oi := ⟨some 35, _, _, _, _, _⟩) (v := ?_) rfl (by kernel_rfl) (by kernel_rfl) (by kernel_rfl) (Or.inl ⟨by rfl, unib_val ?_⟩) ?_; rotate_left; (focus (intro w9 hSw; have q0 := (R1.out.below hSw R1.out.lt).c18; go_simp; try with_reducible rfl)); simp only [Act.put, List.setIfInBounds_toArray, List.set_cons_zero, List.set_cons_succ]
              refine wpG_take (i := 2) (oi := ⟨some 36, _, _, _, _, _⟩) (v := ?_) rfl (by kernel_rfl) (by kernel_rfl) (by kernel_rfl) (Or.inl ⟨by rfl, unib_val ?_⟩) ?_; rotate_left; (focus (intro w9 hSw; go_simp; try with_reducible rfl)); simp only [Act.put, List.setIfInBounds_toArray, List.set_cons_zero, List.set_cons_succ]
              refine wpG_take (i := 3) (oi := ⟨some 37, _, _, _, _, _⟩) (v := ?_) rfl (by kernel_rfl) (by kernel_rfl) (by kernel_rfl) (Or.inl ⟨by rfl, unib_val ?_⟩) ?_; rotate_left; (focus (intro w9 hSw; have q0 := IX1.out w9; go_simp; try with_reducible rfl)); simp only [Act.put, List.setIfInBounds_toArray, List.set_cons_zero, List.set_cons_succ]
              refine wpG_take (i := 4) (oi := ⟨some 38, _, _, _, _, _⟩) (v := ?_) rfl (by kernel_rfl) (by kernel_rfl) (by kernel_rfl) (Or.inl ⟨by rfl, unib_val ?_⟩) ?_; rotate_left; (focus (intro w9 hSw; have q0 := (hSw.cell (p := ⟨b1, o1, none⟩) hB1).trans c0; have q1 := (hSw.cell (p := ⟨b1, o1 + 1, none⟩) hB1).trans c1; have q2 := (hSw.cell (p := ⟨b1, o1 + 2, none⟩) hB1).trans c2; have q3 := (hSw.cell (p := ⟨b1, o1 + 3, none⟩) hB1).trans c3; go_simp; try with_reducible rfl)); simp only [Act.put, List.setIfInBounds_toArray, List.set_cons_zero, List.set_cons_succ]
              refine wpG_take (i := 5) (oi := ⟨some 39, _, _, _, _, _⟩) (v := ?_) rfl (by kernel_rfl) (by kernel_rfl) (by kernel_rfl) (Or.inl ⟨by rfl, unib_val ?_⟩) ?_; rotate_left; (focus (intro w9 hSw; go_simp; try with_reducible rfl)); simp only [Act.put, List.setIfInBounds_toArray, List.set_cons_zero, List.set_cons_succ]
              refine wpG_take (i := 6) (oi := ⟨some 40, _, _, _, _, _⟩) (v := ?_) rfl (by kernel_rfl) (by kernel_rfl) (by kernel_rfl) (Or.inl ⟨by rfl, unib_val ?_⟩) ?_; rotate_left; (focus (intro w9 hSw; have q0 := (R2.out.below hSw R2.out.lt).c18; go_simp; try with_reducible rfl)); simp only [Act.put, List.setIfInBounds_toArray, List.set_cons_zero, List.set_cons_succ]
              refine wpG_take (i := 7) (oi := ⟨some 41, _, _, _, _, _⟩) (v := ?_) rfl (by kernel_rfl) (by kernel_rfl) (by kernel_rfl) (Or.inl ⟨by rfl, unib_val ?_⟩) ?_; rotate_left; (focus (intro w9 hSw; go_simp; try with_reducible rfl)); simp only [Act.put, List.setIfInBounds_toArray, List.set_cons_zero, List.set_cons_succ]
              refine wpG_take (i := 8) (oi := ⟨some 42, _, _, _, _, _⟩) (v := ?_) rfl (by kernel_rfl) (by kernel_rfl) (by kernel_rfl) (Or.inl ⟨by rfl, unib_val ?_⟩) ?_; rotate_left; (focus (intro w9 hSw; have q0 := IX2.out w9; go_simp; try with_reducible rfl)); simp only [Act.put, List.setIfInBounds_toArray, List.set_cons_zero, List.set_cons_succ]
              refine wpG_take (i := 9) (oi := ⟨some 43, _, _, _, _, _⟩) (v := ?_) rfl (by kernel_rfl) (by kernel_rfl) (by kernel_rfl) (Or.inl ⟨by rfl, unib_val ?_⟩) ?_; rotate_left; (focus (intro w9 hSw; have q0 := (hSw.cell (p := ⟨b2, o2, none⟩) hB2).trans d0; have q1 := (hSw.cell (p := ⟨b2, o2 + 1, none⟩) hB2).trans d1; have q2 := (hSw.cell (p := ⟨b2, o2 + 2, none⟩) hB2).trans d2; have q3 := (hSw.cell (p := ⟨b2, o2 + 3, none⟩) hB2).trans d3; go_simp; try with_reducible rfl)); simp only [Act.put, List.setIfInBounds_toArray, List.set_cons_zero, List.set_cons_succ]
              refine wpG_take (i := 10) (oi := ⟨some 44, _, _, _, _, _⟩) (v := ?_) rfl (by kernel_rfl) (by kernel_rfl) (by kernel_rfl) (Or.inl ⟨by rfl, unib_val ?_⟩) ?_; rotate_left; (focus (intro w9 hSw; go_simp; rw [fl_if HNE.out]; try with_reducible rfl)); simp only [Act.put, List.setIfInBounds_toArray, List.set_cons_zero, List.set_cons_succ]
              refine wpG_done (by kernel_rfl) ?_ _
              intro w9 hSw _
              have B9 := Lib.hid (HBR.out.trans (hSw.mono HBR.out.size))
              clear hSw c0 c1 c2 c3 d0 d1 d2 d3 a8
              go_wp2
              go_ret
              exact ⟨by rw [HF.out]; rfl, B9.out⟩
          · have t1 : ¬ (k : Int) < (l1 : Int) := by omega
            obtain rfl : k = l1 := by omega
            rw [List.drop_eq_nil_of_le (by rw [HL1.out]; exact Nat.le_refl _), List.drop_eq_nil_of_le (by rw [HL2.out]; exact Nat.le_refl _)] at hf
            have HF := Lib.hid hf
            have HB := Lib.hid hb
            clear hf hb hr1 hr2
            go_wp2
            go_ret
            exact ⟨by rw [HF.out]; simp, HB.out⟩
      · have HF := Lib.hid (show V = false by rw [HV.out, decide_eq_false_iff_not]; intro e; apply hl; rw [← HL1.out, ← HL2.out, e])
        have hne : ¬ (l1 : Int) = (l2 : Int) := by omega
        go_enter Tryd.func10, Tryd.ntmps10
        go_wp2_with (first | ((with_reducible refine wpList_load_by (o := ⟨some 7, .load 23 (.tmp 6), _, _, _, _⟩) ?e1 23 (.tmp 6) ?e2 ⟨w.heap.size, 0, none⟩ ?e3 _ L1.out ?_); (case e1 => rfl); (case e2 => rfl); (case e3 => rfl)) | ((with_reducible refine wpList_load_by (o := ⟨some 9, .load 23 (.tmp 8), _, _, _, _⟩) ?e1 23 (.tmp 8) ?e2 ⟨(w.heap.size + 1), 0, none⟩ ?e3 _ L2.out ?_); (case e1 => rfl); (case e2 => rfl); (case e3 => rfl)))
        go_ret
        exact ⟨by rw [HF.out]; rfl, HB.out⟩
end Go.Proofs.YtcmknbdeafcknaaDoor

end
section
/-
  What the document's own May of records answers. Nothing that was there is written.
-/
namespace Go.Proofs.YtcmknbdeafcknaaDoor
open Go.RowKit WM
set_option linter.unusedVariables false
set_option maxRecDepth 100000
theorem build_st0 (w : World) : (Instr.build 25 #[]).run Tryd.prog w = .ok (.agg #[.int .i64 0, .int .i64 0]) w := run_build w _ _ _ (by kernel_rfl)
theorem same_pairM {n r : Int} (w : World) : (Op.equalIn 10000 25 (.agg #[.int .i64 n, .int .i64 r]) (.agg #[.int .i64 n, .int .i64 r])).run Tryd.prog w = .ok true w := by rw [same_pair]; simp
set_option maxHeartbeats 4000000 in
theorem rrmay_any (z : List Int) (n r : Int) (A : Option Addr) (len c : Nat) (fs : List Fld) (w : World) (hz : z.length = 16) (hl : fs.length = len) (hln : len ≤ 1000) (h : FsAt w A c fs) :
    Calls Tryd.prog 11 #[rv z n r (.slice A len c)] w (MayPost w (rmay n r fs)) := by
  obtain ⟨hc1, hc2, hc3, hcell⟩ := h
  simp only [maxLen] at hc2
  have HL := Lib.hid hl
  have HC := Lib.hid hcell
  have S0 := Lib.hid (RcAt.new w hz n r (.slice A len c))
  have HB := Lib.hid ((Below.refl w.heap.size w).alloc (Nat.le_refl _) (.cells (rcells z n r (.slice A len c)) 28))
  have HM0 := Lib.hid (rdmay_any n r)
  have hlen : len ≤ c := by omega
  have s0 := S0.out.c16
  have s1 := S0.out.c17
  have hbs := build_st0
  clear hcell hc1 hl
  unfold rv
  unfold st at HM0
  cases hm : may n r
  · have HV := Lib.hid (show rmay n r fs = false by simp [rmay, hm])
    rw [hm] at HM0
    clear hm
    go_enter Tryd.func11, Tryd.ntmps11
    go_wp2_with fail
    refine (HM0.out _).mono ?_
    rintro e w1 ⟨rfl, hb1⟩
    have s2 := S0.out.below hb1 S0.out.lt
    have d0 := s2.c16
    have d1 := s2.c17
    have d2 := s2.c18
    have bw := Lib.hid (HB.out.trans (hb1.mono HB.out.size))
    have S2 := Lib.hid s2
    clear hb1 s2
    go_wp2
    go_ret
    exact ⟨by rw [HV.out]; rfl, bw.out⟩
  · rw [hm] at HM0
    by_cases h0 : len = 0 ∧ n = 0 ∧ r = 0
    · obtain ⟨rfl, rfl, rfl⟩ := h0
      have HV := Lib.hid (show rmay 0 0 fs = false by simp [rmay, hm, HL.out])
      have sp := fun w9 => (same_pairM (n := 0) (r := 0) w9)
      clear hm
      go_enter Tryd.func11, Tryd.ntmps11
      go_wp2_with fail
      refine (HM0.out _).mono ?_
      rintro e w1 ⟨rfl, hb1⟩
      have s2 := S0.out.below hb1 S0.out.lt
      have d0 := s2.c16
      have d1 := s2.c17
      have d2 := s2.c18
      have bw := Lib.hid (HB.out.trans (hb1.mono HB.out.size))
      have S2 := Lib.hid s2
      clear hb1 s2
      go_wp2
      go_ret
      exact ⟨by rw [HV.out]; rfl, bw.out⟩
    · have HV2 := Lib.hid (show rmay n r fs = okFrom n r 0 (fs.drop 0) by
        simp only [rmay, hm, HL.out, Bool.true_and, List.drop_zero]
        have : (decide (len = 0) && decide (n = 0) && decide (r = 0)) = false := by
          simp only [Bool.and_eq_false_iff, decide_eq_false_iff_not]
          omega
        rw [this]
        rfl)
      generalize rmay n r fs = V at *
      by_cases hl0 : len = 0
      · subst hl0
        have hne := st_ne (n := n) (r := r) (m := 0) (s := 0) (by omega)
        clear hm h0
        go_enter Tryd.func11, Tryd.ntmps11
        go_wp2_with fail
        refine (HM0.out _).mono ?_
        rintro e w1 ⟨rfl, hb1⟩
        have s2 := S0.out.below hb1 S0.out.lt
        have d0 := s2.c16
        have d1 := s2.c17
        have d2 := s2.c18
        have bw := Lib.hid (HB.out.trans (hb1.mono HB.out.size))
        have S2 := Lib.hid s2
        clear hb1 s2
        go_wp2
        clear d0 d1 d2 s0 s1
        go_loopw [4, 5] (fun v i wr => ∃ (k : Nat) (m : Int), k ≤ 0 ∧ i = .int .i64 k ∧ v = .int .i64 (m - 1) ∧ 0 ≤ m ∧ m ≤ 8 ∧ RcAt wr w.heap.size z n r (.slice A 0 c) ∧ Below w.heap.size w wr ∧ V = okFrom n r m (fs.drop k)) (fun _ i _ => 0 - (intOf i).toNat)
        case atStart => exact ⟨0, 0, Nat.zero_le _, rfl, rfl, by omega, by omega, S2.out, bw.out, HV2.out⟩
        case round =>
          obtain ⟨k, m, hk, rfl, rfl, hm0, hm8, hr, hb, hf⟩ := hrel
          have d18 := hr.c18
          by_cases hlt : k < 0
          · exact absurd hlt (by omega)
          · have t1 : ¬ (k : Int) < (0 : Int) := by omega
            obtain rfl : k = 0 := by omega
            rw [List.drop_eq_nil_of_le (by rw [HL.out]; exact Nat.le_refl _), okFrom] at hf
            have HF := Lib.hid hf
            have HB := Lib.hid hb
            clear hf hb hr
            go_wp2
            go_ret
            exact ⟨by rw [HF.out]; rfl, HB.out⟩
      · have hln0 : ¬ (len : Int) = 0 := by omega
        clear hm h0
        go_enter Tryd.func11, Tryd.ntmps11
        go_wp2_with fail
        refine (HM0.out _).mono ?_
        rintro e w1 ⟨rfl, hb1⟩
        have s2 := S0.out.below hb1 S0.out.lt
        have d0 := s2.c16
        have d1 := s2.c17
        have d2 := s2.c18
        have bw := Lib.hid (HB.out.trans (hb1.mono HB.out.size))
        have S2 := Lib.hid s2
        clear hb1 s2
        go_wp2
        clear d0 d1 d2 s0 s1
        go_loopw [4, 5] (fun v i wr => ∃ (k : Nat) (m : Int), k ≤ len ∧ i = .int .i64 k ∧ v = .int .i64 (m - 1) ∧ 0 ≤ m ∧ m ≤ 8 ∧ RcAt wr w.heap.size z n r (.slice A len c) ∧ Below w.heap.size w wr ∧ V = okFrom n r m (fs.drop k)) (fun _ i _ => len - (intOf i).toNat)
        case atStart => exact ⟨0, 0, Nat.zero_le _, rfl, rfl, by omega, by omega, S2.out, bw.out, HV2.out⟩
        case round =>
          obtain ⟨k, m, hk, rfl, rfl, hm0, hm8, hr, hb, hf⟩ := hrel
          have d18 := hr.c18
          by_cases hlt : k < len
          · have t1 : (k : Int) < (len : Int) := by omega
            obtain ⟨b, off, hA, hbB, hcc⟩ := HC.out (by rw [HL.out]; omega)
            obtain ⟨c0, c1, c2, c3⟩ := hcc k (by rw [HL.out]; exact hlt)
            have c0 := (hb.cell (p := ⟨b, off + k * 4, none⟩) hbB).trans c0
            have c1 := (hb.cell (p := ⟨b, off + k * 4 + 1, none⟩) hbB).trans c1
            have c2 := (hb.cell (p := ⟨b, off + k * 4 + 2, none⟩) hbB).trans c2
            have c3 := (hb.cell (p := ⟨b, off + k * 4 + 3, none⟩) hbB).trans c3
            have IX := ix_fld b off len c k hlt k rfl
            rw [← hA] at IX
            rw [okFrom_drop n r m (by rw [HL.out]; exact hlt)] at hf
            generalize fs.getD k fld0 = f at c0 c1 c2 c3 hf
            generalize off + k * 4 = o at c0 c1 c2 c3 IX
            clear hcc hA
            have F1 := Lib.hid (FlAt.new wr f)
            have R1 := Lib.hid (hr.old (.cells #[.int .i64 f.no, .int .i64 f.c.n, .int .i64 f.c.r, .string f.c.s] 40))
            have B1 := Lib.hid (hb.alloc hb.size (.cells #[.int .i64 f.no, .int .i64 f.c.n, .int .i64 f.c.r, .string f.c.s] 40))
            have f1 := F1.out.c1
            have f2 := F1.out.c2
            have f3 := F1.out.c3
            have HM := Lib.hid (rcmay_any f.c (wr.alloc (.cells #[.int .i64 f.no, .int .i64 f.c.n, .int .i64 f.c.r, .string f.c.s] 40)))
            unfold Cel.v at HM
            have HS := Lib.hid (rless_any n r f.c.n f.c.r)
            unfold st at HS
            clear hr hb
            cases hcm : cmay f.c
            · rw [hcm] at HM hf
              have HF := Lib.hid (show V = false by rw [hf]; simp)
              clear hf hcm
              go_wp2_with fail
              refine HM.out.mono ?_
              rintro e w2 ⟨rfl, hb2⟩
              have R2 := R1.out.below hb2 R1.out.lt
              have F2 := F1.out.below hb2 F1.out.lt
              have B2 := B1.out.trans (hb2.mono B1.out.size)
              have r16 := R2.c16
              have r17 := R2.c17
              have g1 := F2.c1
              have g2 := F2.c2
              have HR2 := Lib.hid R2
              have HF2 := Lib.hid F2
              have HB2 := Lib.hid B2
              clear hb2 R2 F2 B2
              go_wp2_with fail
              refine (HS.out w2).mono ?_
              rintro e w3 ⟨rfl, hb3⟩
              have F3 := HF2.out.below hb3 HF2.out.lt
              have g0 := F3.c0
              have HR3 := Lib.hid (HR2.out.below hb3 HR2.out.lt)
              have HB3 := Lib.hid (HB2.out.trans (hb3.mono HB2.out.size))
              clear hb3 F3 r16 r17 g1 g2
              go_wp2
              go_ret
              exact ⟨by rw [HF.out]; rfl, HB3.out⟩
            · rw [hcm] at HM hf
              cases hsl : stLess n r f.c.n f.c.r
              · rw [hsl] at HS hf
                have HF := Lib.hid (show V = false by rw [hf]; simp)
                clear hf hcm hsl
                go_wp2_with fail
                refine HM.out.mono ?_
                rintro e w2 ⟨rfl, hb2⟩
                have R2 := R1.out.below hb2 R1.out.lt
                have F2 := F1.out.below hb2 F1.out.lt
                have B2 := B1.out.trans (hb2.mono B1.out.size)
                have r16 := R2.c16
                have r17 := R2.c17
                have g1 := F2.c1
                have g2 := F2.c2
                have HR2 := Lib.hid R2
                have HF2 := Lib.hid F2
                have HB2 := Lib.hid B2
                clear hb2 R2 F2 B2
                go_wp2_with fail
                refine (HS.out w2).mono ?_
                rintro e w3 ⟨rfl, hb3⟩
                have F3 := HF2.out.below hb3 HF2.out.lt
                have g0 := F3.c0
                have HR3 := Lib.hid (HR2.out.below hb3 HR2.out.lt)
                have HB3 := Lib.hid (HB2.out.trans (hb3.mono HB2.out.size))
                clear hb3 F3 r16 r17 g1 g2
                go_wp2
                go_ret
                exact ⟨by rw [HF.out]; rfl, HB3.out⟩
              · rw [hsl] at HS hf
                by_cases h1 : m ≤ f.no
                · have t2 : ¬ f.no ≤ m - 1 := by omega
                  by_cases h2 : f.no < 8
                  · have t3 : ¬ 8 ≤ f.no := by omega
                    have HF := Lib.hid (show V = okFrom n r (f.no + 1) (fs.drop (k + 1)) by rw [hf]; simp [h1, h2])
                    clear hf hcm hsl
                    go_wp2_with fail
                    refine HM.out.mono ?_
                    rintro e w2 ⟨rfl, hb2⟩
                    have R2 := R1.out.below hb2 R1.out.lt
                    have F2 := F1.out.below hb2 F1.out.lt
                    have B2 := B1.out.trans (hb2.mono B1.out.size)
                    have r16 := R2.c16
                    have r17 := R2.c17
                    have g1 := F2.c1
                    have g2 := F2.c2
                    have HR2 := Lib.hid R2
                    have HF2 := Lib.hid F2
                    have HB2 := Lib.hid B2
                    clear hb2 R2 F2 B2
                    go_wp2_with fail
                    refine (HS.out w2).mono ?_
                    rintro e w3 ⟨rfl, hb3⟩
                    have F3 := HF2.out.below hb3 HF2.out.lt
                    have g0 := F3.c0
                    have HR3 := Lib.hid (HR2.out.below hb3 HR2.out.lt)
                    have HB3 := Lib.hid (HB2.out.trans (hb3.mono HB2.out.size))
                    clear hb3 F3 r16 r17 g1 g2
                    go_wp2
                    go_roundw
                    case rel => exact ⟨k + 1, f.no + 1, by omega, by go_num, by rw [show f.no + 1 - 1 = f.no by omega], by omega, by omega, HR3.out, HB3.out, HF.out⟩
                    case measure => simp [intOf]; omega
                  · have t3 : 8 ≤ f.no := by omega
                    have HF := Lib.hid (show V = false by rw [hf]; simp [h2])
                    clear hf hcm hsl
                    go_wp2_with fail
                    refine HM.out.mono ?_
                    rintro e w2 ⟨rfl, hb2⟩
                    have R2 := R1.out.below hb2 R1.out.lt
                    have F2 := F1.out.below hb2 F1.out.lt
                    have B2 := B1.out.trans (hb2.mono B1.out.size)
                    have r16 := R2.c16
                    have r17 := R2.c17
                    have g1 := F2.c1
                    have g2 := F2.c2
                    have HR2 := Lib.hid R2
                    have HF2 := Lib.hid F2
                    have HB2 := Lib.hid B2
                    clear hb2 R2 F2 B2
                    go_wp2_with fail
                    refine (HS.out w2).mono ?_
                    rintro e w3 ⟨rfl, hb3⟩
                    have F3 := HF2.out.below hb3 HF2.out.lt
                    have g0 := F3.c0
                    have HR3 := Lib.hid (HR2.out.below hb3 HR2.out.lt)
                    have HB3 := Lib.hid (HB2.out.trans (hb3.mono HB2.out.size))
                    clear hb3 F3 r16 r17 g1 g2
                    go_wp2
                    go_ret
                    exact ⟨by rw [HF.out]; rfl, HB3.out⟩
                · have t2 : f.no ≤ m - 1 := by omega
                  have HF := Lib.hid (show V = false by rw [hf]; simp [h1])
                  clear hf hcm hsl
                  go_wp2_with fail
                  refine HM.out.mono ?_
                  rintro e w2 ⟨rfl, hb2⟩
                  have R2 := R1.out.below hb2 R1.out.lt
                  have F2 := F1.out.below hb2 F1.out.lt
                  have B2 := B1.out.trans (hb2.mono B1.out.size)
                  have r16 := R2.c16
                  have r17 := R2.c17
                  have g1 := F2.c1
                  have g2 := F2.c2
                  have HR2 := Lib.hid R2
                  have HF2 := Lib.hid F2
                  have HB2 := Lib.hid B2
                  clear hb2 R2 F2 B2
                  go_wp2_with fail
                  refine (HS.out w2).mono ?_
                  rintro e w3 ⟨rfl, hb3⟩
                  have F3 := HF2.out.below hb3 HF2.out.lt
                  have g0 := F3.c0
                  have HR3 := Lib.hid (HR2.out.below hb3 HR2.out.lt)
                  have HB3 := Lib.hid (HB2.out.trans (hb3.mono HB2.out.size))
                  clear hb3 F3 r16 r17 g1 g2
                  go_wp2
                  go_ret
                  exact ⟨by rw [HF.out]; rfl, HB3.out⟩
          · have t1 : ¬ (k : Int) < (len : Int) := by omega
            obtain rfl : k = len := by omega
            rw [List.drop_eq_nil_of_le (by rw [HL.out]; exact Nat.le_refl _), okFrom] at hf
            have HF := Lib.hid hf
            have HB := Lib.hid hb
            clear hf hb hr
            go_wp2
            go_ret
            exact ⟨by rw [HF.out]; rfl, HB.out⟩
end Go.Proofs.YtcmknbdeafcknaaDoor

end
