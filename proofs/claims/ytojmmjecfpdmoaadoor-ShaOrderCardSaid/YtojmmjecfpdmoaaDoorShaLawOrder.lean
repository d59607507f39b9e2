/-
  The law ShaOrder: for every three digests it answers true, and nothing that was there is written.
-/
import Derived.Test.YtojmmjecfpdmoaaDoorShaAwake
import Derived.Test.YtojmmjecfpdmoaaDoorShaArgs
namespace Go.Proofs.YtojmmjecfpdmoaaDoor
open Go.RowKit WM
set_option linter.unusedVariables false
theorem lessL_flip : ∀ {xs ys : List Int}, xs.length = ys.length → xs ≠ ys → lessL ys xs = !lessL xs ys
  | [], [], _, h => absurd rfl h
  | x :: xs, y :: ys, hl, h => by
    rw [lessL, lessL]
    by_cases e : x = y
    · subst e
      have ih := lessL_flip (xs := xs) (ys := ys) (by simpa using hl) (fun h' => h (by rw [h']))
      rw [ih]; simp
    · rcases Int.lt_or_gt_of_ne e with h1 | h1
      · have h2 : ¬ y < x := by omega
        have h3 : ¬ y = x := by omega
        simp [h1, h2, h3]
      · have h2 : ¬ x < y := by omega
        simp [h1, h2, e]
  | [], _ :: _, hl, _ => by simp at hl
  | _ :: _, [], hl, _ => by simp at hl
theorem lessL_trans : ∀ {xs ys zs : List Int}, lessL xs ys = true → lessL ys zs = true → lessL xs zs = true
  | _, [], _, h, _ => by simp [lessL] at h
  | _, _ :: _, [], _, h => by simp [lessL] at h
  | [], _ :: _, _ :: _, _, _ => rfl
  | x :: xs, y :: ys, z :: zs, h1, h2 => by
    rw [lessL] at h1 h2 ⊢
    simp only [Bool.or_eq_true, Bool.and_eq_true, decide_eq_true_eq, beq_iff_eq] at h1 h2 ⊢
    rcases h1 with h1 | ⟨h1, h1'⟩ <;> rcases h2 with h2 | ⟨h2, h2'⟩
    · exact .inl (by omega)
    · exact .inl (by omega)
    · exact .inl (by omega)
    · exact .inr ⟨by omega, lessL_trans h1' h2'⟩
set_option maxHeartbeats 4000000 in
set_option maxRecDepth 100000 in
theorem walk_shaOrder (xa xb xc : List Int) (w : World) (hlaid : Laid w) (ha : IsDig xa) (hb : IsDig xb) (hc : IsDig xc) :
    Calls Tryd.prog 5 #[.agg (bvals xa), .agg (bvals xb), .agg (bvals xc)] w fun e w' => e = .returned (.bool true) ∧ Below w.heap.size w w' := by
  have heq := eq_dig ha.2 hb.2 ha.1 hb.1
  have IA := Lib.hid (show (Tryd.prog.info? 24).map (·.size) = some (bvals xa).size by rw [sizeD, bvals_size, ha.1])
  have IB := Lib.hid (show (Tryd.prog.info? 24).map (·.size) = some (bvals xb).size by rw [sizeD, bvals_size, hb.1])
  have IC := Lib.hid (show (Tryd.prog.info? 24).map (·.size) = some (bvals xc).size by rw [sizeD, bvals_size, hc.1])
  have LAB := Lib.hid (fun (X : World) => less_any xa xb X ha.2 hb.2 ha.1 hb.1)
  have LBA := Lib.hid (fun (X : World) => less_any xb xa X hb.2 ha.2 hb.1 ha.1)
  have LBC := Lib.hid (fun (X : World) => less_any xb xc X hb.2 hc.2 hb.1 hc.1)
  have LAC := Lib.hid (fun (X : World) => less_any xa xc X ha.2 hc.2 ha.1 hc.1)
  have LAA := Lib.hid (fun (X : World) => less_any xa xa X ha.2 ha.2 ha.1 ha.1)
  rw [lessL_self] at LAA
  have hfl : xa ≠ xb → lessL xb xa = !lessL xa xb := fun h => lessL_flip (by rw [ha.1, hb.1]) h
  have htr : lessL xa xb = true → lessL xb xc = true → lessL xa xc = true := lessL_trans
  have hse := lessL_self xa
  have r0 := ((BRow.new w 24 xa).old (.cells (bvals xb) 24)).old (.cells (bvals xc) 24)
  have r1 := (BRow.new (w.alloc (.cells (bvals xa) 24)) 24 xb).old (.cells (bvals xc) 24)
  have r2 := BRow.new ((w.alloc (.cells (bvals xa) 24)).alloc (.cells (bvals xb) 24)) 24 xc
  rw [World.size_alloc] at r1
  rw [World.size_alloc, World.size_alloc] at r2
  have b0 : Below w.heap.size w (((w.alloc (.cells (bvals xa) 24)).alloc (.cells (bvals xb) 24)).alloc (.cells (bvals xc) 24)) := (((Below.refl _ _).alloc (Nat.le_refl _) _).alloc (by simp) _).alloc (by simp; omega) _
  have AW := Lib.hid (awake_any _ (hlaid.below b0 (Nat.le_refl _)))
  have B0 := Lib.hid b0
  have KEEP := Lib.hid (fun (X X' : World) (h : BRow X w.heap.size 24 xa ∧ BRow X (w.heap.size + 1) 24 xb ∧ BRow X (w.heap.size + 1 + 1) 24 xc) (hbx : Below X.heap.size X X') => (⟨h.1.below hbx h.1.lt, h.2.1.below hbx h.2.1.lt, h.2.2.below hbx h.2.2.lt⟩ : BRow X' w.heap.size 24 xa ∧ BRow X' (w.heap.size + 1) 24 xb ∧ BRow X' (w.heap.size + 1 + 1) 24 xc))
  have R0 := Lib.hid (⟨r0, r1, r2⟩ : _ ∧ _ ∧ _)
  unfold BRow at KEEP R0
  clear r0 r1 r2 b0 hlaid ha hb hc
  generalize bvals xa = VA at *
  generalize bvals xb = VB at *
  generalize bvals xc = VC at *
  by_cases he : xa = xb
  · have h1 : (xa == xb) = true := by simp [he]
    rw [h1] at heq
    subst he
    rw [hse] at LAB LBA
    clear hfl htr hse h1
    generalize lessL xa xc = zz at *
    go_enter Tryd.func5, Tryd.ntmps5
    go_wp2_with fail
    refine AW.out.mono ?_
    rintro e w1 ⟨rfl, hb1⟩
    have b1 := Lib.hid (B0.out.trans (hb1.mono B0.out.size))
    have r1 := Lib.hid (KEEP.out _ w1 R0.out hb1)
    clear hb1
    go_wp2_with (first | ((with_reducible refine wpList_load_row_if (o := ⟨some 12, .load 24 (.tmp 3), _, _, _, _⟩) ?e1 24 (.tmp 3) ?e2 w.heap.size ?e3 24 VA (0, 0) _ r1.out.1 Tryd.underlying24 ?e4 IA.out ?_); (case e1 => rfl); (case e2 => rfl); (case e3 => rfl); (case e4 => rfl)) | ((with_reducible refine wpList_load_row_if (o := ⟨some 13, .load 24 (.tmp 4), _, _, _, _⟩) ?e1 24 (.tmp 4) ?e2 (w.heap.size + 1) ?e3 24 VB (0, 0) _ r1.out.2.1 Tryd.underlying24 ?e4 IB.out ?_); (case e1 => rfl); (case e2 => rfl); (case e3 => rfl); (case e4 => rfl)))
    refine (LAB.out _).mono ?_
    rintro e w2 ⟨rfl, hb2⟩
    have b2 := Lib.hid (b1.out.trans (hb2.mono b1.out.size))
    have r2 := Lib.hid (KEEP.out w1 w2 r1.out hb2)
    clear hb2
    go_wp2_with (first | ((with_reducible refine wpList_load_row_if (o := ⟨some 15, .load 24 (.tmp 4), _, _, _, _⟩) ?e1 24 (.tmp 4) ?e2 (w.heap.size + 1) ?e3 24 VB (0, 0) _ r2.out.2.1 Tryd.underlying24 ?e4 IB.out ?_); (case e1 => rfl); (case e2 => rfl); (case e3 => rfl); (case e4 => rfl)) | ((with_reducible refine wpList_load_row_if (o := ⟨some 16, .load 24 (.tmp 3), _, _, _, _⟩) ?e1 24 (.tmp 3) ?e2 w.heap.size ?e3 24 VA (0, 0) _ r2.out.1 Tryd.underlying24 ?e4 IA.out ?_); (case e1 => rfl); (case e2 => rfl); (case e3 => rfl); (case e4 => rfl)))
    refine (LBA.out _).mono ?_
    rintro e w3 ⟨rfl, hb3⟩
    have b3 := Lib.hid (b2.out.trans (hb3.mono b2.out.size))
    have r3 := Lib.hid (KEEP.out w2 w3 r2.out hb3)
    clear hb3
    go_wp2_with (first | ((with_reducible refine wpList_load_row_if (o := ⟨some 18, .load 24 (.tmp 4), _, _, _, _⟩) ?e1 24 (.tmp 4) ?e2 (w.heap.size + 1) ?e3 24 VB (0, 0) _ r3.out.2.1 Tryd.underlying24 ?e4 IB.out ?_); (case e1 => rfl); (case e2 => rfl); (case e3 => rfl); (case e4 => rfl)) | ((with_reducible refine wpList_load_row_if (o := ⟨some 19, .load 24 (.tmp 5), _, _, _, _⟩) ?e1 24 (.tmp 5) ?e2 (w.heap.size + 1 + 1) ?e3 24 VC (0, 0) _ r3.out.2.2 Tryd.underlying24 ?e4 IC.out ?_); (case e1 => rfl); (case e2 => rfl); (case e3 => rfl); (case e4 => rfl)))
    refine (LBC.out _).mono ?_
    rintro e w4 ⟨rfl, hb4⟩
    have b4 := Lib.hid (b3.out.trans (hb4.mono b3.out.size))
    have r4 := Lib.hid (KEEP.out w3 w4 r3.out hb4)
    clear hb4
    go_wp2_with (first | ((with_reducible refine wpList_load_row_if (o := ⟨some 34, .load 24 (.tmp 3), _, _, _, _⟩) ?e1 24 (.tmp 3) ?e2 w.heap.size ?e3 24 VA (0, 0) _ r4.out.1 Tryd.underlying24 ?e4 IA.out ?_); (case e1 => rfl); (case e2 => rfl); (case e3 => rfl); (case e4 => rfl)) | ((with_reducible refine wpList_load_row_if (o := ⟨some 35, .load 24 (.tmp 4), _, _, _, _⟩) ?e1 24 (.tmp 4) ?e2 (w.heap.size + 1) ?e3 24 VB (0, 0) _ r4.out.2.1 Tryd.underlying24 ?e4 IB.out ?_); (case e1 => rfl); (case e2 => rfl); (case e3 => rfl); (case e4 => rfl)) | ((with_reducible refine wpList_load_row_if (o := ⟨some 53, .load 24 (.tmp 3), _, _, _, _⟩) ?e1 24 (.tmp 3) ?e2 w.heap.size ?e3 24 VA (0, 0) _ r4.out.1 Tryd.underlying24 ?e4 IA.out ?_); (case e1 => rfl); (case e2 => rfl); (case e3 => rfl); (case e4 => rfl)) | ((with_reducible refine wpList_load_row_if (o := ⟨some 54, .load 24 (.tmp 3), _, _, _, _⟩) ?e1 24 (.tmp 3) ?e2 w.heap.size ?e3 24 VA (0, 0) _ r4.out.1 Tryd.underlying24 ?e4 IA.out ?_); (case e1 => rfl); (case e2 => rfl); (case e3 => rfl); (case e4 => rfl)))
    refine (LAA.out _).mono ?_
    rintro e w5 ⟨rfl, hb5⟩
    have b5 := Lib.hid (b4.out.trans (hb5.mono b4.out.size))
    have r5 := Lib.hid (KEEP.out w4 w5 r4.out hb5)
    clear hb5
    go_wp2
    go_ret
    exact ⟨rfl, b5.out⟩
  · have h1 : (xa == xb) = false := by simp [he]
    have h2 := hfl he
    rw [h1] at heq
    rw [h2] at LBA
    clear hfl h1 h2
    cases hx : lessL xa xb with
    | true =>
      rw [hx] at LAB LBA
      cases hz : lessL xb xc with
      | true =>
        rw [htr hx hz] at LAC
        rw [hz] at LBC
        clear htr hse hx hz he
        simp only [Bool.not_true] at LBA
        go_enter Tryd.func5, Tryd.ntmps5
        go_wp2_with fail
        refine AW.out.mono ?_
        rintro e w1 ⟨rfl, hb1⟩
        have b1 := Lib.hid (B0.out.trans (hb1.mono B0.out.size))
        have r1 := Lib.hid (KEEP.out _ w1 R0.out hb1)
        clear hb1
        go_wp2_with (first | ((with_reducible refine wpList_load_row_if (o := ⟨some 12, .load 24 (.tmp 3), _, _, _, _⟩) ?e1 24 (.tmp 3) ?e2 w.heap.size ?e3 24 VA (0, 0) _ r1.out.1 Tryd.underlying24 ?e4 IA.out ?_); (case e1 => rfl); (case e2 => rfl); (case e3 => rfl); (case e4 => rfl)) | ((with_reducible refine wpList_load_row_if (o := ⟨some 13, .load 24 (.tmp 4), _, _, _, _⟩) ?e1 24 (.tmp 4) ?e2 (w.heap.size + 1) ?e3 24 VB (0, 0) _ r1.out.2.1 Tryd.underlying24 ?e4 IB.out ?_); (case e1 => rfl); (case e2 => rfl); (case e3 => rfl); (case e4 => rfl)))
        refine (LAB.out _).mono ?_
        rintro e w2 ⟨rfl, hb2⟩
        have b2 := Lib.hid (b1.out.trans (hb2.mono b1.out.size))
        have r2 := Lib.hid (KEEP.out w1 w2 r1.out hb2)
        clear hb2
        go_wp2_with (first | ((with_reducible refine wpList_load_row_if (o := ⟨some 15, .load 24 (.tmp 4), _, _, _, _⟩) ?e1 24 (.tmp 4) ?e2 (w.heap.size + 1) ?e3 24 VB (0, 0) _ r2.out.2.1 Tryd.underlying24 ?e4 IB.out ?_); (case e1 => rfl); (case e2 => rfl); (case e3 => rfl); (case e4 => rfl)) | ((with_reducible refine wpList_load_row_if (o := ⟨some 16, .load 24 (.tmp 3), _, _, _, _⟩) ?e1 24 (.tmp 3) ?e2 w.heap.size ?e3 24 VA (0, 0) _ r2.out.1 Tryd.underlying24 ?e4 IA.out ?_); (case e1 => rfl); (case e2 => rfl); (case e3 => rfl); (case e4 => rfl)))
        refine (LBA.out _).mono ?_
        rintro e w3 ⟨rfl, hb3⟩
        have b3 := Lib.hid (b2.out.trans (hb3.mono b2.out.size))
        have r3 := Lib.hid (KEEP.out w2 w3 r2.out hb3)
        clear hb3
        go_wp2_with (first | ((with_reducible refine wpList_load_row_if (o := ⟨some 18, .load 24 (.tmp 4), _, _, _, _⟩) ?e1 24 (.tmp 4) ?e2 (w.heap.size + 1) ?e3 24 VB (0, 0) _ r3.out.2.1 Tryd.underlying24 ?e4 IB.out ?_); (case e1 => rfl); (case e2 => rfl); (case e3 => rfl); (case e4 => rfl)) | ((with_reducible refine wpList_load_row_if (o := ⟨some 19, .load 24 (.tmp 5), _, _, _, _⟩) ?e1 24 (.tmp 5) ?e2 (w.heap.size + 1 + 1) ?e3 24 VC (0, 0) _ r3.out.2.2 Tryd.underlying24 ?e4 IC.out ?_); (case e1 => rfl); (case e2 => rfl); (case e3 => rfl); (case e4 => rfl)))
        refine (LBC.out _).mono ?_
        rintro e w4 ⟨rfl, hb4⟩
        have b4 := Lib.hid (b3.out.trans (hb4.mono b3.out.size))
        have r4 := Lib.hid (KEEP.out w3 w4 r3.out hb4)
        clear hb4
        go_wp2_with (first | ((with_reducible refine wpList_load_row_if (o := ⟨some 34, .load 24 (.tmp 3), _, _, _, _⟩) ?e1 24 (.tmp 3) ?e2 w.heap.size ?e3 24 VA (0, 0) _ r4.out.1 Tryd.underlying24 ?e4 IA.out ?_); (case e1 => rfl); (case e2 => rfl); (case e3 => rfl); (case e4 => rfl)) | ((with_reducible refine wpList_load_row_if (o := ⟨some 35, .load 24 (.tmp 4), _, _, _, _⟩) ?e1 24 (.tmp 4) ?e2 (w.heap.size + 1) ?e3 24 VB (0, 0) _ r4.out.2.1 Tryd.underlying24 ?e4 IB.out ?_); (case e1 => rfl); (case e2 => rfl); (case e3 => rfl); (case e4 => rfl)) | ((with_reducible refine wpList_load_row_if (o := ⟨some 47, .load 24 (.tmp 3), _, _, _, _⟩) ?e1 24 (.tmp 3) ?e2 w.heap.size ?e3 24 VA (0, 0) _ r4.out.1 Tryd.underlying24 ?e4 IA.out ?_); (case e1 => rfl); (case e2 => rfl); (case e3 => rfl); (case e4 => rfl)) | ((with_reducible refine wpList_load_row_if (o := ⟨some 48, .load 24 (.tmp 5), _, _, _, _⟩) ?e1 24 (.tmp 5) ?e2 (w.heap.size + 1 + 1) ?e3 24 VC (0, 0) _ r4.out.2.2 Tryd.underlying24 ?e4 IC.out ?_); (case e1 => rfl); (case e2 => rfl); (case e3 => rfl); (case e4 => rfl)))
        refine (LAC.out _).mono ?_
        rintro e w5 ⟨rfl, hb5⟩
        have b5 := Lib.hid (b4.out.trans (hb5.mono b4.out.size))
        have r5 := Lib.hid (KEEP.out w4 w5 r4.out hb5)
        clear hb5
        go_wp2_with (first | ((with_reducible refine wpList_load_row_if (o := ⟨some 53, .load 24 (.tmp 3), _, _, _, _⟩) ?e1 24 (.tmp 3) ?e2 w.heap.size ?e3 24 VA (0, 0) _ r5.out.1 Tryd.underlying24 ?e4 IA.out ?_); (case e1 => rfl); (case e2 => rfl); (case e3 => rfl); (case e4 => rfl)) | ((with_reducible refine wpList_load_row_if (o := ⟨some 54, .load 24 (.tmp 3), _, _, _, _⟩) ?e1 24 (.tmp 3) ?e2 w.heap.size ?e3 24 VA (0, 0) _ r5.out.1 Tryd.underlying24 ?e4 IA.out ?_); (case e1 => rfl); (case e2 => rfl); (case e3 => rfl); (case e4 => rfl)))
        refine (LAA.out _).mono ?_
        rintro e w6 ⟨rfl, hb6⟩
        have b6 := Lib.hid (b5.out.trans (hb6.mono b5.out.size))
        have r6 := Lib.hid (KEEP.out w5 w6 r5.out hb6)
        clear hb6
        go_wp2
        go_ret
        exact ⟨rfl, b6.out⟩
      | false =>
        rw [hz] at LBC
        clear htr hse hx hz he
        simp only [Bool.not_true] at LBA
        go_enter Tryd.func5, Tryd.ntmps5
        go_wp2_with fail
        refine AW.out.mono ?_
        rintro e w1 ⟨rfl, hb1⟩
        have b1 := Lib.hid (B0.out.trans (hb1.mono B0.out.size))
        have r1 := Lib.hid (KEEP.out _ w1 R0.out hb1)
        clear hb1
        go_wp2_with (first | ((with_reducible refine wpList_load_row_if (o := ⟨some 12, .load 24 (.tmp 3), _, _, _, _⟩) ?e1 24 (.tmp 3) ?e2 w.heap.size ?e3 24 VA (0, 0) _ r1.out.1 Tryd.underlying24 ?e4 IA.out ?_); (case e1 => rfl); (case e2 => rfl); (case e3 => rfl); (case e4 => rfl)) | ((with_reducible refine wpList_load_row_if (o := ⟨some 13, .load 24 (.tmp 4), _, _, _, _⟩) ?e1 24 (.tmp 4) ?e2 (w.heap.size + 1) ?e3 24 VB (0, 0) _ r1.out.2.1 Tryd.underlying24 ?e4 IB.out ?_); (case e1 => rfl); (case e2 => rfl); (case e3 => rfl); (case e4 => rfl)))
        refine (LAB.out _).mono ?_
        rintro e w2 ⟨rfl, hb2⟩
        have b2 := Lib.hid (b1.out.trans (hb2.mono b1.out.size))
        have r2 := Lib.hid (KEEP.out w1 w2 r1.out hb2)
        clear hb2
        go_wp2_with (first | ((with_reducible refine wpList_load_row_if (o := ⟨some 15, .load 24 (.tmp 4), _, _, _, _⟩) ?e1 24 (.tmp 4) ?e2 (w.heap.size + 1) ?e3 24 VB (0, 0) _ r2.out.2.1 Tryd.underlying24 ?e4 IB.out ?_); (case e1 => rfl); (case e2 => rfl); (case e3 => rfl); (case e4 => rfl)) | ((with_reducible refine wpList_load_row_if (o := ⟨some 16, .load 24 (.tmp 3), _, _, _, _⟩) ?e1 24 (.tmp 3) ?e2 w.heap.size ?e3 24 VA (0, 0) _ r2.out.1 Tryd.underlying24 ?e4 IA.out ?_); (case e1 => rfl); (case e2 => rfl); (case e3 => rfl); (case e4 => rfl)))
        refine (LBA.out _).mono ?_
        rintro e w3 ⟨rfl, hb3⟩
        have b3 := Lib.hid (b2.out.trans (hb3.mono b2.out.size))
        have r3 := Lib.hid (KEEP.out w2 w3 r2.out hb3)
        clear hb3
        go_wp2_with (first | ((with_reducible refine wpList_load_row_if (o := ⟨some 18, .load 24 (.tmp 4), _, _, _, _⟩) ?e1 24 (.tmp 4) ?e2 (w.heap.size + 1) ?e3 24 VB (0, 0) _ r3.out.2.1 Tryd.underlying24 ?e4 IB.out ?_); (case e1 => rfl); (case e2 => rfl); (case e3 => rfl); (case e4 => rfl)) | ((with_reducible refine wpList_load_row_if (o := ⟨some 19, .load 24 (.tmp 5), _, _, _, _⟩) ?e1 24 (.tmp 5) ?e2 (w.heap.size + 1 + 1) ?e3 24 VC (0, 0) _ r3.out.2.2 Tryd.underlying24 ?e4 IC.out ?_); (case e1 => rfl); (case e2 => rfl); (case e3 => rfl); (case e4 => rfl)))
        refine (LBC.out _).mono ?_
        rintro e w4 ⟨rfl, hb4⟩
        have b4 := Lib.hid (b3.out.trans (hb4.mono b3.out.size))
        have r4 := Lib.hid (KEEP.out w3 w4 r3.out hb4)
        clear hb4
        go_wp2_with (first | ((with_reducible refine wpList_load_row_if (o := ⟨some 34, .load 24 (.tmp 3), _, _, _, _⟩) ?e1 24 (.tmp 3) ?e2 w.heap.size ?e3 24 VA (0, 0) _ r4.out.1 Tryd.underlying24 ?e4 IA.out ?_); (case e1 => rfl); (case e2 => rfl); (case e3 => rfl); (case e4 => rfl)) | ((with_reducible refine wpList_load_row_if (o := ⟨some 35, .load 24 (.tmp 4), _, _, _, _⟩) ?e1 24 (.tmp 4) ?e2 (w.heap.size + 1) ?e3 24 VB (0, 0) _ r4.out.2.1 Tryd.underlying24 ?e4 IB.out ?_); (case e1 => rfl); (case e2 => rfl); (case e3 => rfl); (case e4 => rfl)) | ((with_reducible refine wpList_load_row_if (o := ⟨some 53, .load 24 (.tmp 3), _, _, _, _⟩) ?e1 24 (.tmp 3) ?e2 w.heap.size ?e3 24 VA (0, 0) _ r4.out.1 Tryd.underlying24 ?e4 IA.out ?_); (case e1 => rfl); (case e2 => rfl); (case e3 => rfl); (case e4 => rfl)) | ((with_reducible refine wpList_load_row_if (o := ⟨some 54, .load 24 (.tmp 3), _, _, _, _⟩) ?e1 24 (.tmp 3) ?e2 w.heap.size ?e3 24 VA (0, 0) _ r4.out.1 Tryd.underlying24 ?e4 IA.out ?_); (case e1 => rfl); (case e2 => rfl); (case e3 => rfl); (case e4 => rfl)))
        refine (LAA.out _).mono ?_
        rintro e w5 ⟨rfl, hb5⟩
        have b5 := Lib.hid (b4.out.trans (hb5.mono b4.out.size))
        have r5 := Lib.hid (KEEP.out w4 w5 r4.out hb5)
        clear hb5
        go_wp2
        go_ret
        exact ⟨rfl, b5.out⟩
    | false =>
      rw [hx] at LAB LBA
      clear htr hse hx he
      simp only [Bool.not_false] at LBA
      generalize lessL xb xc = zz at *
      go_enter Tryd.func5, Tryd.ntmps5
      go_wp2_with fail
      refine AW.out.mono ?_
      rintro e w1 ⟨rfl, hb1⟩
      have b1 := Lib.hid (B0.out.trans (hb1.mono B0.out.size))
      have r1 := Lib.hid (KEEP.out _ w1 R0.out hb1)
      clear hb1
      go_wp2_with (first | ((with_reducible refine wpList_load_row_if (o := ⟨some 12, .load 24 (.tmp 3), _, _, _, _⟩) ?e1 24 (.tmp 3) ?e2 w.heap.size ?e3 24 VA (0, 0) _ r1.out.1 Tryd.underlying24 ?e4 IA.out ?_); (case e1 => rfl); (case e2 => rfl); (case e3 => rfl); (case e4 => rfl)) | ((with_reducible refine wpList_load_row_if (o := ⟨some 13, .load 24 (.tmp 4), _, _, _, _⟩) ?e1 24 (.tmp 4) ?e2 (w.heap.size + 1) ?e3 24 VB (0, 0) _ r1.out.2.1 Tryd.underlying24 ?e4 IB.out ?_); (case e1 => rfl); (case e2 => rfl); (case e3 => rfl); (case e4 => rfl)))
      refine (LAB.out _).mono ?_
      rintro e w2 ⟨rfl, hb2⟩
      have b2 := Lib.hid (b1.out.trans (hb2.mono b1.out.size))
      have r2 := Lib.hid (KEEP.out w1 w2 r1.out hb2)
      clear hb2
      go_wp2_with (first | ((with_reducible refine wpList_load_row_if (o := ⟨some 15, .load 24 (.tmp 4), _, _, _, _⟩) ?e1 24 (.tmp 4) ?e2 (w.heap.size + 1) ?e3 24 VB (0, 0) _ r2.out.2.1 Tryd.underlying24 ?e4 IB.out ?_); (case e1 => rfl); (case e2 => rfl); (case e3 => rfl); (case e4 => rfl)) | ((with_reducible refine wpList_load_row_if (o := ⟨some 16, .load 24 (.tmp 3), _, _, _, _⟩) ?e1 24 (.tmp 3) ?e2 w.heap.size ?e3 24 VA (0, 0) _ r2.out.1 Tryd.underlying24 ?e4 IA.out ?_); (case e1 => rfl); (case e2 => rfl); (case e3 => rfl); (case e4 => rfl)))
      refine (LBA.out _).mono ?_
      rintro e w3 ⟨rfl, hb3⟩
      have b3 := Lib.hid (b2.out.trans (hb3.mono b2.out.size))
      have r3 := Lib.hid (KEEP.out w2 w3 r2.out hb3)
      clear hb3
      go_wp2_with (first | ((with_reducible refine wpList_load_row_if (o := ⟨some 18, .load 24 (.tmp 4), _, _, _, _⟩) ?e1 24 (.tmp 4) ?e2 (w.heap.size + 1) ?e3 24 VB (0, 0) _ r3.out.2.1 Tryd.underlying24 ?e4 IB.out ?_); (case e1 => rfl); (case e2 => rfl); (case e3 => rfl); (case e4 => rfl)) | ((with_reducible refine wpList_load_row_if (o := ⟨some 19, .load 24 (.tmp 5), _, _, _, _⟩) ?e1 24 (.tmp 5) ?e2 (w.heap.size + 1 + 1) ?e3 24 VC (0, 0) _ r3.out.2.2 Tryd.underlying24 ?e4 IC.out ?_); (case e1 => rfl); (case e2 => rfl); (case e3 => rfl); (case e4 => rfl)))
      refine (LBC.out _).mono ?_
      rintro e w4 ⟨rfl, hb4⟩
      have b4 := Lib.hid (b3.out.trans (hb4.mono b3.out.size))
      have r4 := Lib.hid (KEEP.out w3 w4 r3.out hb4)
      clear hb4
      go_wp2_with (first | ((with_reducible refine wpList_load_row_if (o := ⟨some 34, .load 24 (.tmp 3), _, _, _, _⟩) ?e1 24 (.tmp 3) ?e2 w.heap.size ?e3 24 VA (0, 0) _ r4.out.1 Tryd.underlying24 ?e4 IA.out ?_); (case e1 => rfl); (case e2 => rfl); (case e3 => rfl); (case e4 => rfl)) | ((with_reducible refine wpList_load_row_if (o := ⟨some 35, .load 24 (.tmp 4), _, _, _, _⟩) ?e1 24 (.tmp 4) ?e2 (w.heap.size + 1) ?e3 24 VB (0, 0) _ r4.out.2.1 Tryd.underlying24 ?e4 IB.out ?_); (case e1 => rfl); (case e2 => rfl); (case e3 => rfl); (case e4 => rfl)) | ((with_reducible refine wpList_load_row_if (o := ⟨some 53, .load 24 (.tmp 3), _, _, _, _⟩) ?e1 24 (.tmp 3) ?e2 w.heap.size ?e3 24 VA (0, 0) _ r4.out.1 Tryd.underlying24 ?e4 IA.out ?_); (case e1 => rfl); (case e2 => rfl); (case e3 => rfl); (case e4 => rfl)) | ((with_reducible refine wpList_load_row_if (o := ⟨some 54, .load 24 (.tmp 3), _, _, _, _⟩) ?e1 24 (.tmp 3) ?e2 w.heap.size ?e3 24 VA (0, 0) _ r4.out.1 Tryd.underlying24 ?e4 IA.out ?_); (case e1 => rfl); (case e2 => rfl); (case e3 => rfl); (case e4 => rfl)))
      refine (LAA.out _).mono ?_
      rintro e w5 ⟨rfl, hb5⟩
      have b5 := Lib.hid (b4.out.trans (hb5.mono b4.out.size))
      have r5 := Lib.hid (KEEP.out w4 w5 r4.out hb5)
      clear hb5
      go_wp2
      go_ret
      exact ⟨rfl, b5.out⟩
end Go.Proofs.YtojmmjecfpdmoaaDoor
