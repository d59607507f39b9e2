import Derived.Test.YtcmknbdeafcknaaDoorRcAwake
import Derived.Test.YtcmknbdeafcknaaDoorGArgs
import Derived.Test.YtcmknbdeafcknaaDoorRcRefLeq
/-
  The law RecTells: for every two records and every number it answers true, and nothing that was there is written.
-/
namespace Go.Proofs.YtcmknbdeafcknaaDoor
open Go.RowKit WM
set_option linter.unusedVariables false
set_option maxRecDepth 100000
theorem fewR_small {fs : List Fld} (h : fewR fs = true) : fs.length ≤ 1000 := by
  unfold fewR at h
  simp only [Bool.and_eq_true, decide_eq_true_eq] at h
  omega
set_option maxHeartbeats 16000000 in
theorem rtells_few (a b : RcA) (no : Int) (w : World) (hlaid : Laid w) (wa : RvAt w a) (wb : RvAt w b) (h : (fewR a.R.fs && fewR b.R.fs) = false) :
    Calls Tryd.prog 3 #[.agg a.cells, .agg b.cells, .int .i64 no] w fun e w' => e = .returned (.bool true) ∧ Below w.heap.size w w' := by
  have HLA := Lib.hid (fun (X : World) (hX : Below w.heap.size w X) => hlaid.below hX (Nat.le_refl _))
  have Fa := Lib.hid wa
  have Fb := Lib.hid wb
  have ZA := Lib.hid wa.len
  have ZB := Lib.hid wb.len
  have hz := zeroX
  clear hlaid wa wb
  cases pa : fewR a.R.fs
  · have PA := Lib.hid pa
    clear pa h
    cases pb : fewR b.R.fs
    · have PB := Lib.hid pb
      clear pb
      have B1 := Lib.hid (Below.refl w.heap.size w)
      have T2n := XAt.new w ZA.out
      have T2 := Lib.hid T2n
      clear T2n
      have B3 := Lib.hid (B1.out.alloc B1.out.size (.cells a.cells 28))
      have T4 := Lib.hid (T2.out.old (.cells b.cells 28))
      have T5n := XAt.new (w.alloc (.cells a.cells 28)) ZB.out
      simp only [World.size_alloc] at T5n
      have T5 := Lib.hid T5n
      clear T5n
      have B6 := Lib.hid (B3.out.alloc B3.out.size (.cells b.cells 28))
      have F7 := Lib.hid (Fa.out.below B6.out (Nat.le_refl _))
      have F8 := Lib.hid (Fb.out.below B6.out (Nat.le_refl _))
      go_enter Tryd.func3, Tryd.ntmps3
      have C9 := Lib.hid (rcAwake ((w.alloc (.cells a.cells 28)).alloc (.cells b.cells 28)) (HLA.out _ B6.out))
      go_wp2_with fail
      refine C9.out.mono ?_
      rintro e w10 ⟨rfl, hb11⟩
      have T12 := Lib.hid (T4.out.below hb11 T4.out.lt)
      have T13 := Lib.hid (T5.out.below hb11 T5.out.lt)
      have F14 := Lib.hid (F7.out.below hb11 (Nat.le_refl _))
      have F15 := Lib.hid (F8.out.below hb11 (Nat.le_refl _))
      have B16 := Lib.hid (B6.out.trans (hb11.mono B6.out.size))
      clear hb11
      have M17 := Lib.hid (T12.out.load)
      have C18 := Lib.hid (xfew_any a w10 F14.out)
      rw [PA.out] at C18
      go_wp2_with (first | ((with_reducible refine wpList_load_by (o := ⟨some 23, .load 28 (.tmp 3), _, _, _, _⟩) ?e1 28 (.tmp 3) ?e2 ⟨w.heap.size, 0, none⟩ ?e3 _ M17.out ?_); (case e1 => rfl); (case e2 => rfl); (case e3 => rfl)))
      refine C18.out.mono ?_
      rintro e w19 ⟨rfl, hb20⟩
      have T21 := Lib.hid (T12.out.below hb20 T12.out.lt)
      have T22 := Lib.hid (T13.out.below hb20 T13.out.lt)
      have F23 := Lib.hid (F14.out.below hb20 (Nat.le_refl _))
      have F24 := Lib.hid (F15.out.below hb20 (Nat.le_refl _))
      have B25 := Lib.hid (B16.out.trans (hb20.mono B16.out.size))
      clear hb20
      have M26 := Lib.hid (T22.out.load)
      have C27 := Lib.hid (xfew_any b w19 F24.out)
      rw [PB.out] at C27
      go_wp2_with (first | ((with_reducible refine wpList_load_by (o := ⟨some 25, .load 28 (.tmp 4), _, _, _, _⟩) ?e1 28 (.tmp 4) ?e2 ⟨(w.heap.size + 1), 0, none⟩ ?e3 _ M26.out ?_); (case e1 => rfl); (case e2 => rfl); (case e3 => rfl)))
      refine C27.out.mono ?_
      rintro e w28 ⟨rfl, hb29⟩
      have T30 := Lib.hid (T21.out.below hb29 T21.out.lt)
      have T31 := Lib.hid (T22.out.below hb29 T22.out.lt)
      have F32 := Lib.hid (F23.out.below hb29 (Nat.le_refl _))
      have F33 := Lib.hid (F24.out.below hb29 (Nat.le_refl _))
      have B34 := Lib.hid (B25.out.trans (hb29.mono B25.out.size))
      clear hb29
      go_wp2
      go_ret
      exact ⟨rfl, B34.out⟩
    · have PB := Lib.hid pb
      clear pb
      have B1 := Lib.hid (Below.refl w.heap.size w)
      have T2n := XAt.new w ZA.out
      have T2 := Lib.hid T2n
      clear T2n
      have B3 := Lib.hid (B1.out.alloc B1.out.size (.cells a.cells 28))
      have T4 := Lib.hid (T2.out.old (.cells b.cells 28))
      have T5n := XAt.new (w.alloc (.cells a.cells 28)) ZB.out
      simp only [World.size_alloc] at T5n
      have T5 := Lib.hid T5n
      clear T5n
      have B6 := Lib.hid (B3.out.alloc B3.out.size (.cells b.cells 28))
      have F7 := Lib.hid (Fa.out.below B6.out (Nat.le_refl _))
      have F8 := Lib.hid (Fb.out.below B6.out (Nat.le_refl _))
      go_enter Tryd.func3, Tryd.ntmps3
      have C9 := Lib.hid (rcAwake ((w.alloc (.cells a.cells 28)).alloc (.cells b.cells 28)) (HLA.out _ B6.out))
      go_wp2_with fail
      refine C9.out.mono ?_
      rintro e w10 ⟨rfl, hb11⟩
      have T12 := Lib.hid (T4.out.below hb11 T4.out.lt)
      have T13 := Lib.hid (T5.out.below hb11 T5.out.lt)
      have F14 := Lib.hid (F7.out.below hb11 (Nat.le_refl _))
      have F15 := Lib.hid (F8.out.below hb11 (Nat.le_refl _))
      have B16 := Lib.hid (B6.out.trans (hb11.mono B6.out.size))
      clear hb11
      have M17 := Lib.hid (T12.out.load)
      have C18 := Lib.hid (xfew_any a w10 F14.out)
      rw [PA.out] at C18
      go_wp2_with (first | ((with_reducible refine wpList_load_by (o := ⟨some 23, .load 28 (.tmp 3), _, _, _, _⟩) ?e1 28 (.tmp 3) ?e2 ⟨w.heap.size, 0, none⟩ ?e3 _ M17.out ?_); (case e1 => rfl); (case e2 => rfl); (case e3 => rfl)))
      refine C18.out.mono ?_
      rintro e w19 ⟨rfl, hb20⟩
      have T21 := Lib.hid (T12.out.below hb20 T12.out.lt)
      have T22 := Lib.hid (T13.out.below hb20 T13.out.lt)
      have F23 := Lib.hid (F14.out.below hb20 (Nat.le_refl _))
      have F24 := Lib.hid (F15.out.below hb20 (Nat.le_refl _))
      have B25 := Lib.hid (B16.out.trans (hb20.mono B16.out.size))
      clear hb20
      have M26 := Lib.hid (T22.out.load)
      have C27 := Lib.hid (xfew_any b w19 F24.out)
      rw [PB.out] at C27
      go_wp2_with (first | ((with_reducible refine wpList_load_by (o := ⟨some 25, .load 28 (.tmp 4), _, _, _, _⟩) ?e1 28 (.tmp 4) ?e2 ⟨(w.heap.size + 1), 0, none⟩ ?e3 _ M26.out ?_); (case e1 => rfl); (case e2 => rfl); (case e3 => rfl)))
      refine C27.out.mono ?_
      rintro e w28 ⟨rfl, hb29⟩
      have T30 := Lib.hid (T21.out.below hb29 T21.out.lt)
      have T31 := Lib.hid (T22.out.below hb29 T22.out.lt)
      have F32 := Lib.hid (F23.out.below hb29 (Nat.le_refl _))
      have F33 := Lib.hid (F24.out.below hb29 (Nat.le_refl _))
      have B34 := Lib.hid (B25.out.trans (hb29.mono B25.out.size))
      clear hb29
      go_wp2
      go_ret
      exact ⟨rfl, B34.out⟩
  · rw [pa] at h
    have PA := Lib.hid pa
    have PB := Lib.hid (show fewR b.R.fs = false by simpa using h)
    clear pa h
    have B1 := Lib.hid (Below.refl w.heap.size w)
    have T2n := XAt.new w ZA.out
    have T2 := Lib.hid T2n
    clear T2n
    have B3 := Lib.hid (B1.out.alloc B1.out.size (.cells a.cells 28))
    have T4 := Lib.hid (T2.out.old (.cells b.cells 28))
    have T5n := XAt.new (w.alloc (.cells a.cells 28)) ZB.out
    simp only [World.size_alloc] at T5n
    have T5 := Lib.hid T5n
    clear T5n
    have B6 := Lib.hid (B3.out.alloc B3.out.size (.cells b.cells 28))
    have F7 := Lib.hid (Fa.out.below B6.out (Nat.le_refl _))
    have F8 := Lib.hid (Fb.out.below B6.out (Nat.le_refl _))
    go_enter Tryd.func3, Tryd.ntmps3
    have C9 := Lib.hid (rcAwake ((w.alloc (.cells a.cells 28)).alloc (.cells b.cells 28)) (HLA.out _ B6.out))
    go_wp2_with fail
    refine C9.out.mono ?_
    rintro e w10 ⟨rfl, hb11⟩
    have T12 := Lib.hid (T4.out.below hb11 T4.out.lt)
    have T13 := Lib.hid (T5.out.below hb11 T5.out.lt)
    have F14 := Lib.hid (F7.out.below hb11 (Nat.le_refl _))
    have F15 := Lib.hid (F8.out.below hb11 (Nat.le_refl _))
    have B16 := Lib.hid (B6.out.trans (hb11.mono B6.out.size))
    clear hb11
    have M17 := Lib.hid (T12.out.load)
    have C18 := Lib.hid (xfew_any a w10 F14.out)
    rw [PA.out] at C18
    go_wp2_with (first | ((with_reducible refine wpList_load_by (o := ⟨some 23, .load 28 (.tmp 3), _, _, _, _⟩) ?e1 28 (.tmp 3) ?e2 ⟨w.heap.size, 0, none⟩ ?e3 _ M17.out ?_); (case e1 => rfl); (case e2 => rfl); (case e3 => rfl)))
    refine C18.out.mono ?_
    rintro e w19 ⟨rfl, hb20⟩
    have T21 := Lib.hid (T12.out.below hb20 T12.out.lt)
    have T22 := Lib.hid (T13.out.below hb20 T13.out.lt)
    have F23 := Lib.hid (F14.out.below hb20 (Nat.le_refl _))
    have F24 := Lib.hid (F15.out.below hb20 (Nat.le_refl _))
    have B25 := Lib.hid (B16.out.trans (hb20.mono B16.out.size))
    clear hb20
    have M26 := Lib.hid (T22.out.load)
    have C27 := Lib.hid (xfew_any b w19 F24.out)
    rw [PB.out] at C27
    go_wp2_with (first | ((with_reducible refine wpList_load_by (o := ⟨some 25, .load 28 (.tmp 4), _, _, _, _⟩) ?e1 28 (.tmp 4) ?e2 ⟨(w.heap.size + 1), 0, none⟩ ?e3 _ M26.out ?_); (case e1 => rfl); (case e2 => rfl); (case e3 => rfl)))
    refine C27.out.mono ?_
    rintro e w28 ⟨rfl, hb29⟩
    have T30 := Lib.hid (T21.out.below hb29 T21.out.lt)
    have T31 := Lib.hid (T22.out.below hb29 T22.out.lt)
    have F32 := Lib.hid (F23.out.below hb29 (Nat.le_refl _))
    have F33 := Lib.hid (F24.out.below hb29 (Nat.le_refl _))
    have B34 := Lib.hid (B25.out.trans (hb29.mono B25.out.size))
    clear hb29
    go_wp2
    go_ret
    exact ⟨rfl, B34.out⟩
set_option maxHeartbeats 16000000 in
theorem rtells_yes (a b : RcA) (no : Int) (w : World) (hlaid : Laid w) (wa : RvAt w a) (wb : RvAt w b) (p : (fewR a.R.fs && fewR b.R.fs) = true) :
    Calls Tryd.prog 3 #[.agg a.cells, .agg b.cells, .int .i64 no] w fun e w' => e = .returned (.bool true) ∧ Below w.heap.size w w' := by
  have HLA := Lib.hid (fun (X : World) (hX : Below w.heap.size w X) => hlaid.below hX (Nat.le_refl _))
  have Fa := Lib.hid wa
  have Fb := Lib.hid wb
  have ZA := Lib.hid wa.len
  have ZB := Lib.hid wb.len
  have hz := zeroX
  clear hlaid wa wb
  simp only [Bool.and_eq_true] at p
  have PA := Lib.hid p.1
  have PB := Lib.hid p.2
  have LA := Lib.hid (fewR_small p.1)
  have LB := Lib.hid (fewR_small p.2)
  have SX : Hid (Rc.same ((a.R.join b.R).getD rc0) ((a.R.join b.R).getD rc0) = true) := Lib.hid (Rc.same_iff.2 rfl)
  obtain ⟨c, hc⟩ : ∃ c, (rfind a.R.fs no).getD cel00 = c := ⟨_, rfl⟩
  have HC := Lib.hid hc
  have HEQ := cl_same c
  clear p hc
  have B1 := Lib.hid (Below.refl w.heap.size w)
  have T2n := XAt.new w ZA.out
  have T2 := Lib.hid T2n
  clear T2n
  have B3 := Lib.hid (B1.out.alloc B1.out.size (.cells a.cells 28))
  have T4 := Lib.hid (T2.out.old (.cells b.cells 28))
  have T5n := XAt.new (w.alloc (.cells a.cells 28)) ZB.out
  simp only [World.size_alloc] at T5n
  have T5 := Lib.hid T5n
  clear T5n
  have B6 := Lib.hid (B3.out.alloc B3.out.size (.cells b.cells 28))
  have F7 := Lib.hid (Fa.out.below B6.out (Nat.le_refl _))
  have F8 := Lib.hid (Fb.out.below B6.out (Nat.le_refl _))
  go_enter Tryd.func3, Tryd.ntmps3
  have C9 := Lib.hid (rcAwake ((w.alloc (.cells a.cells 28)).alloc (.cells b.cells 28)) (HLA.out _ B6.out))
  go_wp2_with fail
  refine C9.out.mono ?_
  rintro e w10 ⟨rfl, hb11⟩
  have T12 := Lib.hid (T4.out.below hb11 T4.out.lt)
  have T13 := Lib.hid (T5.out.below hb11 T5.out.lt)
  have F14 := Lib.hid (F7.out.below hb11 (Nat.le_refl _))
  have F15 := Lib.hid (F8.out.below hb11 (Nat.le_refl _))
  have B16 := Lib.hid (B6.out.trans (hb11.mono B6.out.size))
  clear hb11
  have M17 := Lib.hid (T12.out.load)
  have C18 := Lib.hid (xfew_any a w10 F14.out)
  rw [PA.out] at C18
  go_wp2_with (first | ((with_reducible refine wpList_load_by (o := ⟨some 23, .load 28 (.tmp 3), _, _, _, _⟩) ?e1 28 (.tmp 3) ?e2 ⟨w.heap.size, 0, none⟩ ?e3 _ M17.out ?_); (case e1 => rfl); (case e2 => rfl); (case e3 => rfl)))
  refine C18.out.mono ?_
  rintro e w19 ⟨rfl, hb20⟩
  have T21 := Lib.hid (T12.out.below hb20 T12.out.lt)
  have T22 := Lib.hid (T13.out.below hb20 T13.out.lt)
  have F23 := Lib.hid (F14.out.below hb20 (Nat.le_refl _))
  have F24 := Lib.hid (F15.out.below hb20 (Nat.le_refl _))
  have B25 := Lib.hid (B16.out.trans (hb20.mono B16.out.size))
  clear hb20
  have M26 := Lib.hid (T22.out.load)
  have C27 := Lib.hid (xfew_any b w19 F24.out)
  rw [PB.out] at C27
  go_wp2_with (first | ((with_reducible refine wpList_load_by (o := ⟨some 25, .load 28 (.tmp 4), _, _, _, _⟩) ?e1 28 (.tmp 4) ?e2 ⟨(w.heap.size + 1), 0, none⟩ ?e3 _ M26.out ?_); (case e1 => rfl); (case e2 => rfl); (case e3 => rfl)))
  refine C27.out.mono ?_
  rintro e w28 ⟨rfl, hb29⟩
  have T30 := Lib.hid (T21.out.below hb29 T21.out.lt)
  have T31 := Lib.hid (T22.out.below hb29 T22.out.lt)
  have F32 := Lib.hid (F23.out.below hb29 (Nat.le_refl _))
  have F33 := Lib.hid (F24.out.below hb29 (Nat.le_refl _))
  have B34 := Lib.hid (B25.out.trans (hb29.mono B25.out.size))
  clear hb29
  have M35 := Lib.hid (T30.out.load)
  have C36 := Lib.hid (xfind_any a no w28 F32.out)
  rw [HC.out] at C36
  unfold Cel.v at C36
  go_wp2_with (first | ((with_reducible refine wpList_load_by (o := ⟨some 39, .load 28 (.tmp 3), _, _, _, _⟩) ?e1 28 (.tmp 3) ?e2 ⟨w.heap.size, 0, none⟩ ?e3 _ M35.out ?_); (case e1 => rfl); (case e2 => rfl); (case e3 => rfl)))
  refine C36.out.mono ?_
  rintro e w37 ⟨rfl, hb38⟩
  have T39 := Lib.hid (T30.out.below hb38 T30.out.lt)
  have T40 := Lib.hid (T31.out.below hb38 T31.out.lt)
  have F41 := Lib.hid (F32.out.below hb38 (Nat.le_refl _))
  have F42 := Lib.hid (F33.out.below hb38 (Nat.le_refl _))
  have B43 := Lib.hid (B34.out.trans (hb38.mono B34.out.size))
  clear hb38
  have hb44 := (Below.refl w37.heap.size w37).alloc (Nat.le_refl _) (.cells #[.int .i64 c.n, .int .i64 c.r, .string c.s] 32)
  have T45 := Lib.hid (ClAt.new w37 c)
  have T46 := Lib.hid (T39.out.below hb44 T39.out.lt)
  have T47 := Lib.hid (T40.out.below hb44 T40.out.lt)
  have F48 := Lib.hid (F41.out.below hb44 (Nat.le_refl _))
  have F49 := Lib.hid (F42.out.below hb44 (Nat.le_refl _))
  have B50 := Lib.hid (B43.out.trans (hb44.mono B43.out.size))
  clear hb44
  have M51 := Lib.hid (T46.out.load)
  have C52 := Lib.hid (xrrfind_any a no (w37.alloc (.cells #[.int .i64 c.n, .int .i64 c.r, .string c.s] 32)) F48.out LA.out)
  rw [HC.out] at C52
  unfold Cel.v at C52
  go_wp2_with (first | ((with_reducible refine wpList_load_by (o := ⟨some 45, .load 28 (.tmp 3), _, _, _, _⟩) ?e1 28 (.tmp 3) ?e2 ⟨w.heap.size, 0, none⟩ ?e3 _ M51.out ?_); (case e1 => rfl); (case e2 => rfl); (case e3 => rfl)))
  refine C52.out.mono ?_
  rintro e w53 ⟨rfl, hb54⟩
  have T55 := Lib.hid (T46.out.below hb54 T46.out.lt)
  have T56 := Lib.hid (T47.out.below hb54 T47.out.lt)
  have T57 := Lib.hid (T45.out.below hb54 T45.out.lt)
  have F58 := Lib.hid (F48.out.below hb54 (Nat.le_refl _))
  have F59 := Lib.hid (F49.out.below hb54 (Nat.le_refl _))
  have B60 := Lib.hid (B50.out.trans (hb54.mono B50.out.size))
  clear hb54
  have hb61 := (Below.refl w53.heap.size w53).alloc (Nat.le_refl _) (.cells #[.int .i64 c.n, .int .i64 c.r, .string c.s] 32)
  have T62 := Lib.hid (ClAt.new w53 c)
  have T63 := Lib.hid (T55.out.below hb61 T55.out.lt)
  have T64 := Lib.hid (T56.out.below hb61 T56.out.lt)
  have T65 := Lib.hid (T57.out.below hb61 T57.out.lt)
  have F66 := Lib.hid (F58.out.below hb61 (Nat.le_refl _))
  have F67 := Lib.hid (F59.out.below hb61 (Nat.le_refl _))
  have B68 := Lib.hid (B60.out.trans (hb61.mono B60.out.size))
  clear hb61
  have M72 := Lib.hid (T63.out.load)
  have M73 := Lib.hid (T64.out.load)
  have C74 := Lib.hid (xjoin_any a b (w53.alloc (.cells #[.int .i64 c.n, .int .i64 c.r, .string c.s] 32)) (HLA.out _ B68.out) F66.out F67.out)
  go_wp2_with (first | ((with_reducible refine wpList_load_by (o := ⟨some 51, .load 28 (.tmp 3), _, _, _, _⟩) ?e1 28 (.tmp 3) ?e2 ⟨w.heap.size, 0, none⟩ ?e3 _ M72.out ?_); (case e1 => rfl); (case e2 => rfl); (case e3 => rfl)) | ((with_reducible refine wpList_load_by (o := ⟨some 52, .load 28 (.tmp 4), _, _, _, _⟩) ?e1 28 (.tmp 4) ?e2 ⟨(w.heap.size + 1), 0, none⟩ ?e3 _ M73.out ?_); (case e1 => rfl); (case e2 => rfl); (case e3 => rfl)))
  refine C74.out.mono ?_
  rintro e w75 ⟨y69, rfl, hd70, hk71, hb76⟩
  have T77 := Lib.hid (T63.out.below hb76 T63.out.lt)
  have T78 := Lib.hid (T64.out.below hb76 T64.out.lt)
  have T79 := Lib.hid (T65.out.below hb76 T65.out.lt)
  have T80 := Lib.hid (T62.out.below hb76 T62.out.lt)
  have F81 := Lib.hid (F66.out.below hb76 (Nat.le_refl _))
  have F82 := Lib.hid (F67.out.below hb76 (Nat.le_refl _))
  have B83 := Lib.hid (B68.out.trans (hb76.mono B68.out.size))
  clear hb76
  have E84 := Lib.hid (hd70)
  have F85 := Lib.hid (hk71)
  have Z86 := Lib.hid (hk71.len)
  clear hd70 hk71
  go_wp2_with (first | ((with_reducible refine wpList_store_newx (o := ⟨none, .store 28 (.tmp 14) (.tmp 54), _, _, _, _⟩) (w := w75) ?e1 (.tmp 14) (.tmp 54) ?e2 w75.heap.size ?e0 ?e3 y69 ?e4 Z86.out ?_); (case e1 => rfl); (case e2 => rfl); (case e0 => rfl); (case e3 => rfl); (case e4 => rfl); intro w90 hb91 hx92 hs93; have T94 := Lib.hid hx92; clear hx92 hs93; have T95 := Lib.hid (T77.out.below hb91 T77.out.lt); have T96 := Lib.hid (T78.out.below hb91 T78.out.lt); have T97 := Lib.hid (T79.out.below hb91 T79.out.lt); have T98 := Lib.hid (T80.out.below hb91 T80.out.lt); have F99 := Lib.hid (F81.out.below hb91 (Nat.le_refl _)); have F100 := Lib.hid (F82.out.below hb91 (Nat.le_refl _)); have F101 := Lib.hid (F85.out.below hb91 (Nat.le_refl _)); have B102 := Lib.hid (B83.out.trans (hb91.mono B83.out.size)); clear hb91; have M103 := Lib.hid (T95.out.load); have M104 := Lib.hid (T96.out.load); have C105 := Lib.hid (xrrjoin_any a b w90 F99.out F100.out LA.out LB.out)) | ((with_reducible refine wpList_load_by (o := ⟨some 57, .load 28 (.tmp 3), _, _, _, _⟩) ?e1 28 (.tmp 3) ?e2 ⟨w.heap.size, 0, none⟩ ?e3 _ M103.out ?_); (case e1 => rfl); (case e2 => rfl); (case e3 => rfl)) | ((with_reducible refine wpList_load_by (o := ⟨some 58, .load 28 (.tmp 4), _, _, _, _⟩) ?e1 28 (.tmp 4) ?e2 ⟨(w.heap.size + 1), 0, none⟩ ?e3 _ M104.out ?_); (case e1 => rfl); (case e2 => rfl); (case e3 => rfl)))
  refine C105.out.mono ?_
  rintro e w106 ⟨y87, rfl, hd88, hk89, hb107⟩
  have T108 := Lib.hid (T95.out.below hb107 T95.out.lt)
  have T109 := Lib.hid (T96.out.below hb107 T96.out.lt)
  have T110 := Lib.hid (T97.out.below hb107 T97.out.lt)
  have T111 := Lib.hid (T98.out.below hb107 T98.out.lt)
  have T112 := Lib.hid (T94.out.below hb107 T94.out.lt)
  have F113 := Lib.hid (F99.out.below hb107 (Nat.le_refl _))
  have F114 := Lib.hid (F100.out.below hb107 (Nat.le_refl _))
  have F115 := Lib.hid (F101.out.below hb107 (Nat.le_refl _))
  have B116 := Lib.hid (B102.out.trans (hb107.mono B102.out.size))
  clear hb107
  have E117 := Lib.hid (hd88)
  have F118 := Lib.hid (hk89)
  have Z119 := Lib.hid (hk89.len)
  clear hd88 hk89
  have Z120 := Lib.hid (join_small E84.out)
  go_wp2_with (first | ((with_reducible refine wpList_store_newx (o := ⟨none, .store 28 (.tmp 16) (.tmp 60), _, _, _, _⟩) (w := w106) ?e1 (.tmp 16) (.tmp 60) ?e2 w106.heap.size ?e0 ?e3 y87 ?e4 Z119.out ?_); (case e1 => rfl); (case e2 => rfl); (case e0 => rfl); (case e3 => rfl); (case e4 => rfl); intro w121 hb122 hx123 hs124; have T125 := Lib.hid hx123; clear hx123 hs124; have T126 := Lib.hid (T108.out.below hb122 T108.out.lt); have T127 := Lib.hid (T109.out.below hb122 T109.out.lt); have T128 := Lib.hid (T110.out.below hb122 T110.out.lt); have T129 := Lib.hid (T111.out.below hb122 T111.out.lt); have T130 := Lib.hid (T112.out.below hb122 T112.out.lt); have F131 := Lib.hid (F113.out.below hb122 (Nat.le_refl _)); have F132 := Lib.hid (F114.out.below hb122 (Nat.le_refl _)); have F133 := Lib.hid (F115.out.below hb122 (Nat.le_refl _)); have F134 := Lib.hid (F118.out.below hb122 (Nat.le_refl _)); have B135 := Lib.hid (B116.out.trans (hb122.mono B116.out.size)); clear hb122; have M136 := Lib.hid (T130.out.load); have M137 := Lib.hid (T125.out.load); have C138 := Lib.hid (xrrsame_any y69 y87 w121 F133.out F134.out Z120.out); try rw [E84.out] at C138; try rw [E117.out] at C138; rw [SX.out] at C138) | ((with_reducible refine wpList_load_by (o := ⟨some 62, .load 28 (.tmp 14), _, _, _, _⟩) ?e1 28 (.tmp 14) ?e2 ⟨w75.heap.size, 0, none⟩ ?e3 _ M136.out ?_); (case e1 => rfl); (case e2 => rfl); (case e3 => rfl)) | ((with_reducible refine wpList_load_by (o := ⟨some 63, .load 28 (.tmp 16), _, _, _, _⟩) ?e1 28 (.tmp 16) ?e2 ⟨w106.heap.size, 0, none⟩ ?e3 _ M137.out ?_); (case e1 => rfl); (case e2 => rfl); (case e3 => rfl)))
  refine C138.out.mono ?_
  rintro e w139 ⟨rfl, hb140⟩
  have T141 := Lib.hid (T126.out.below hb140 T126.out.lt)
  have T142 := Lib.hid (T127.out.below hb140 T127.out.lt)
  have T143 := Lib.hid (T128.out.below hb140 T128.out.lt)
  have T144 := Lib.hid (T129.out.below hb140 T129.out.lt)
  have T145 := Lib.hid (T130.out.below hb140 T130.out.lt)
  have T146 := Lib.hid (T125.out.below hb140 T125.out.lt)
  have F147 := Lib.hid (F131.out.below hb140 (Nat.le_refl _))
  have F148 := Lib.hid (F132.out.below hb140 (Nat.le_refl _))
  have F149 := Lib.hid (F133.out.below hb140 (Nat.le_refl _))
  have F150 := Lib.hid (F134.out.below hb140 (Nat.le_refl _))
  have B151 := Lib.hid (B135.out.trans (hb140.mono B135.out.size))
  clear hb140
  have M152 := Lib.hid (T141.out.load)
  have C153 := Lib.hid (xrrmay_any a w139 F147.out LA.out)
  go_wp2_with (first | ((with_reducible refine wpList_load_by (o := ⟨some 65, .load 28 (.tmp 3), _, _, _, _⟩) ?e1 28 (.tmp 3) ?e2 ⟨w.heap.size, 0, none⟩ ?e3 _ M152.out ?_); (case e1 => rfl); (case e2 => rfl); (case e3 => rfl)))
  refine C153.out.mono ?_
  rintro e w154 ⟨rfl, hb155⟩
  have T156 := Lib.hid (T141.out.below hb155 T141.out.lt)
  have T157 := Lib.hid (T142.out.below hb155 T142.out.lt)
  have T158 := Lib.hid (T143.out.below hb155 T143.out.lt)
  have T159 := Lib.hid (T144.out.below hb155 T144.out.lt)
  have T160 := Lib.hid (T145.out.below hb155 T145.out.lt)
  have T161 := Lib.hid (T146.out.below hb155 T146.out.lt)
  have F162 := Lib.hid (F147.out.below hb155 (Nat.le_refl _))
  have F163 := Lib.hid (F148.out.below hb155 (Nat.le_refl _))
  have F164 := Lib.hid (F149.out.below hb155 (Nat.le_refl _))
  have F165 := Lib.hid (F150.out.below hb155 (Nat.le_refl _))
  have B166 := Lib.hid (B151.out.trans (hb155.mono B151.out.size))
  clear hb155
  have M167 := Lib.hid (T156.out.load)
  have M168 := Lib.hid (T157.out.load)
  have C169 := Lib.hid (xrrsame_any a b w154 F162.out F163.out LA.out)
  go_wp2_with (first | ((with_reducible refine wpList_load_by (o := ⟨some 67, .load 28 (.tmp 3), _, _, _, _⟩) ?e1 28 (.tmp 3) ?e2 ⟨w.heap.size, 0, none⟩ ?e3 _ M167.out ?_); (case e1 => rfl); (case e2 => rfl); (case e3 => rfl)) | ((with_reducible refine wpList_load_by (o := ⟨some 68, .load 28 (.tmp 4), _, _, _, _⟩) ?e1 28 (.tmp 4) ?e2 ⟨(w.heap.size + 1), 0, none⟩ ?e3 _ M168.out ?_); (case e1 => rfl); (case e2 => rfl); (case e3 => rfl)))
  refine C169.out.mono ?_
  rintro e w170 ⟨rfl, hb171⟩
  have T172 := Lib.hid (T156.out.below hb171 T156.out.lt)
  have T173 := Lib.hid (T157.out.below hb171 T157.out.lt)
  have T174 := Lib.hid (T158.out.below hb171 T158.out.lt)
  have T175 := Lib.hid (T159.out.below hb171 T159.out.lt)
  have T176 := Lib.hid (T160.out.below hb171 T160.out.lt)
  have T177 := Lib.hid (T161.out.below hb171 T161.out.lt)
  have F178 := Lib.hid (F162.out.below hb171 (Nat.le_refl _))
  have F179 := Lib.hid (F163.out.below hb171 (Nat.le_refl _))
  have F180 := Lib.hid (F164.out.below hb171 (Nat.le_refl _))
  have F181 := Lib.hid (F165.out.below hb171 (Nat.le_refl _))
  have B182 := Lib.hid (B166.out.trans (hb171.mono B166.out.size))
  clear hb171
  have M183 := Lib.hid (T172.out.load)
  have M184 := Lib.hid (T173.out.load)
  have C185 := Lib.hid (rrleq_any a b w170 F178.out F179.out LA.out LB.out)
  go_wp2_with (first | ((with_reducible refine wpList_load_by (o := ⟨some 70, .load 28 (.tmp 3), _, _, _, _⟩) ?e1 28 (.tmp 3) ?e2 ⟨w.heap.size, 0, none⟩ ?e3 _ M183.out ?_); (case e1 => rfl); (case e2 => rfl); (case e3 => rfl)) | ((with_reducible refine wpList_load_by (o := ⟨some 71, .load 28 (.tmp 4), _, _, _, _⟩) ?e1 28 (.tmp 4) ?e2 ⟨(w.heap.size + 1), 0, none⟩ ?e3 _ M184.out ?_); (case e1 => rfl); (case e2 => rfl); (case e3 => rfl)))
  refine C185.out.mono ?_
  rintro e w186 ⟨rfl, hb187⟩
  have T188 := Lib.hid (T172.out.below hb187 T172.out.lt)
  have T189 := Lib.hid (T173.out.below hb187 T173.out.lt)
  have T190 := Lib.hid (T174.out.below hb187 T174.out.lt)
  have T191 := Lib.hid (T175.out.below hb187 T175.out.lt)
  have T192 := Lib.hid (T176.out.below hb187 T176.out.lt)
  have T193 := Lib.hid (T177.out.below hb187 T177.out.lt)
  have F194 := Lib.hid (F178.out.below hb187 (Nat.le_refl _))
  have F195 := Lib.hid (F179.out.below hb187 (Nat.le_refl _))
  have F196 := Lib.hid (F180.out.below hb187 (Nat.le_refl _))
  have F197 := Lib.hid (F181.out.below hb187 (Nat.le_refl _))
  have B198 := Lib.hid (B182.out.trans (hb187.mono B182.out.size))
  clear hb187
  have M199 := Lib.hid (T188.out.load)
  have p0 := T190.out.c0
  have p1 := T190.out.c1
  have p2 := T190.out.c2
  have q0 := T191.out.c0
  have q1 := T191.out.c1
  have q2 := T191.out.c2
  have C200 := Lib.hid (xmay_any a w186 F194.out)
  go_wp2_with (first | ((with_reducible refine wpList_load_by (o := ⟨some 90, .load 28 (.tmp 3), _, _, _, _⟩) ?e1 28 (.tmp 3) ?e2 ⟨w.heap.size, 0, none⟩ ?e3 _ M199.out ?_); (case e1 => rfl); (case e2 => rfl); (case e3 => rfl)))
  refine C200.out.mono ?_
  rintro e w201 ⟨rfl, hb202⟩
  have T203 := Lib.hid (T188.out.below hb202 T188.out.lt)
  have T204 := Lib.hid (T189.out.below hb202 T189.out.lt)
  have T205 := Lib.hid (T190.out.below hb202 T190.out.lt)
  have T206 := Lib.hid (T191.out.below hb202 T191.out.lt)
  have T207 := Lib.hid (T192.out.below hb202 T192.out.lt)
  have T208 := Lib.hid (T193.out.below hb202 T193.out.lt)
  have F209 := Lib.hid (F194.out.below hb202 (Nat.le_refl _))
  have F210 := Lib.hid (F195.out.below hb202 (Nat.le_refl _))
  have F211 := Lib.hid (F196.out.below hb202 (Nat.le_refl _))
  have F212 := Lib.hid (F197.out.below hb202 (Nat.le_refl _))
  have B213 := Lib.hid (B198.out.trans (hb202.mono B198.out.size))
  clear hb202
  clear p0 p1 p2 q0 q1 q2
  have M214 := Lib.hid (T203.out.load)
  have M215 := Lib.hid (T204.out.load)
  have C216 := Lib.hid (xsame_any a b w201 F209.out F210.out)
  go_wp2_with (first | ((with_reducible refine wpList_load_by (o := ⟨some 96, .load 28 (.tmp 3), _, _, _, _⟩) ?e1 28 (.tmp 3) ?e2 ⟨w.heap.size, 0, none⟩ ?e3 _ M214.out ?_); (case e1 => rfl); (case e2 => rfl); (case e3 => rfl)) | ((with_reducible refine wpList_load_by (o := ⟨some 97, .load 28 (.tmp 4), _, _, _, _⟩) ?e1 28 (.tmp 4) ?e2 ⟨(w.heap.size + 1), 0, none⟩ ?e3 _ M215.out ?_); (case e1 => rfl); (case e2 => rfl); (case e3 => rfl)))
  refine C216.out.mono ?_
  rintro e w217 ⟨rfl, hb218⟩
  have T219 := Lib.hid (T203.out.below hb218 T203.out.lt)
  have T220 := Lib.hid (T204.out.below hb218 T204.out.lt)
  have T221 := Lib.hid (T205.out.below hb218 T205.out.lt)
  have T222 := Lib.hid (T206.out.below hb218 T206.out.lt)
  have T223 := Lib.hid (T207.out.below hb218 T207.out.lt)
  have T224 := Lib.hid (T208.out.below hb218 T208.out.lt)
  have F225 := Lib.hid (F209.out.below hb218 (Nat.le_refl _))
  have F226 := Lib.hid (F210.out.below hb218 (Nat.le_refl _))
  have F227 := Lib.hid (F211.out.below hb218 (Nat.le_refl _))
  have F228 := Lib.hid (F212.out.below hb218 (Nat.le_refl _))
  have B229 := Lib.hid (B213.out.trans (hb218.mono B213.out.size))
  clear hb218
  have M230 := Lib.hid (T219.out.load)
  have M231 := Lib.hid (T220.out.load)
  have C232 := Lib.hid (xleq_any a b w217 (HLA.out _ B229.out) F225.out F226.out)
  go_wp2_with (first | ((with_reducible refine wpList_load_by (o := ⟨some 103, .load 28 (.tmp 3), _, _, _, _⟩) ?e1 28 (.tmp 3) ?e2 ⟨w.heap.size, 0, none⟩ ?e3 _ M230.out ?_); (case e1 => rfl); (case e2 => rfl); (case e3 => rfl)) | ((with_reducible refine wpList_load_by (o := ⟨some 104, .load 28 (.tmp 4), _, _, _, _⟩) ?e1 28 (.tmp 4) ?e2 ⟨(w.heap.size + 1), 0, none⟩ ?e3 _ M231.out ?_); (case e1 => rfl); (case e2 => rfl); (case e3 => rfl)))
  refine C232.out.mono ?_
  rintro e w233 ⟨rfl, hb234⟩
  have T235 := Lib.hid (T219.out.below hb234 T219.out.lt)
  have T236 := Lib.hid (T220.out.below hb234 T220.out.lt)
  have T237 := Lib.hid (T221.out.below hb234 T221.out.lt)
  have T238 := Lib.hid (T222.out.below hb234 T222.out.lt)
  have T239 := Lib.hid (T223.out.below hb234 T223.out.lt)
  have T240 := Lib.hid (T224.out.below hb234 T224.out.lt)
  have F241 := Lib.hid (F225.out.below hb234 (Nat.le_refl _))
  have F242 := Lib.hid (F226.out.below hb234 (Nat.le_refl _))
  have F243 := Lib.hid (F227.out.below hb234 (Nat.le_refl _))
  have F244 := Lib.hid (F228.out.below hb234 (Nat.le_refl _))
  have B245 := Lib.hid (B229.out.trans (hb234.mono B229.out.size))
  clear hb234
  go_wp2
  go_ret
  exact ⟨rfl, B245.out⟩
theorem walk_recTells (a : Rc) (A : Option Addr) (ca : Nat) (b : Rc) (B : Option Addr) (cb : Nat) (no : Int) (w : World) (hlaid : Laid w) (wa : IsRec w a A ca) (wb : IsRec w b B cb) :
    Calls Tryd.prog 3 #[a.v A ca, b.v B cb, .int .i64 no] w fun e w' => e = .returned (.bool true) ∧ Below w.heap.size w w' := by
  have ha : RvAt w ⟨a, A, ca⟩ := ⟨wa.1, wa.2.1⟩
  have hb : RvAt w ⟨b, B, cb⟩ := ⟨wb.1, wb.2.1⟩
  cases p : (fewR (RcA.R ⟨a, A, ca⟩).fs && fewR (RcA.R ⟨b, B, cb⟩).fs)
  · exact rtells_few ⟨a, A, ca⟩ ⟨b, B, cb⟩ no w hlaid ha hb p
  · exact rtells_yes ⟨a, A, ca⟩ ⟨b, B, cb⟩ no w hlaid ha hb p
end Go.Proofs.YtcmknbdeafcknaaDoor

