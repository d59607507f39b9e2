import Derived.Test.YtcmknbdeafcknaaGreatDoorBkAwake
import Derived.Test.YtcmknbdeafcknaaGreatDoorGArgs
import Derived.Test.YtcmknbdeafcknaaGreatDoorBkFew
import Derived.Test.YtcmknbdeafcknaaGreatDoorBkLeq
import Derived.Test.YtcmknbdeafcknaaGreatDoorGBkP
/-
  The law BookTells: for every two books and every two names it answers true, and nothing that was there is written.
-/
namespace Go.Proofs.YtcmknbdeafcknaaGreatDoor
open Go.RowKit Go.Shelf WM
set_option linter.unusedVariables false
set_option maxRecDepth 100000
theorem bat_small {r : RcA} {b : Bk} {z : List Int} (h : r.R = (bat b.rs z).getD rc0) (hs : ∀ x ∈ b.xs, x.R.fs.length ≤ 1000) : r.R.fs.length ≤ 1000 := by
  rw [h]
  cases e : bat b.rs z with
  | none => exact Nat.zero_le _
  | some R =>
    obtain ⟨x, hx, rfl⟩ := List.mem_map.1 (bat_some e).1
    exact hs x hx
theorem fewB_fs' {b : Bk} (h : fewB b.rs = true) : b.xs.length ≤ 1000 ∧ ∀ x ∈ b.xs, x.R.fs.length ≤ 1000 := ⟨by have := (fewB_fs h).1; omega, (fewB_fs h).2⟩
set_option maxHeartbeats 16000000 in
theorem btells_few (a b : Bk) (zx zy : List Int) (w : World) (hlaid : Laid w) (wa : BkAt w a) (wb : BkAt w b) (wx : zx.length = 16 ∧ AllBytes zx) (wy : zy.length = 16 ∧ AllBytes zy) (h : (fewB a.rs && fewB b.rs) = false) :
    Calls Tryz.prog 3 #[.agg #[.slice a.A a.xs.length a.c], .agg #[.slice b.A b.xs.length b.c], .agg (bvals zx), .agg (bvals zy)] w fun e w' => e = .returned (.bool true) ∧ Below w.heap.size w w' := by
  have HLA := Lib.hid (fun (X : World) (hX : Below w.heap.size w X) => hlaid.below hX (Nat.le_refl _))
  have Fa := Lib.hid wa
  have Fb := Lib.hid wb
  have ZX := Lib.hid wx
  have ZY := Lib.hid wy
  have hz := zeroX
  have hzb := zeroBook
  unfold Bk.v Bk.s bk0 at hzb
  dsimp only [List.length_nil] at hzb
  clear hlaid wa wb wx wy
  cases pa : fewB a.rs
  · have PA := Lib.hid pa
    clear pa h
    cases pb : fewB b.rs
    · have PB := Lib.hid pb
      clear pb
      have B1 := Lib.hid (Below.refl w.heap.size w)
      have T2n := BoAt.new w (.slice a.A a.xs.length a.c)
      have T2 := Lib.hid T2n
      clear T2n
      have B3 := Lib.hid (B1.out.alloc B1.out.size (.cells #[(.slice a.A a.xs.length a.c)] 24))
      have T4 := Lib.hid (T2.out.old (.cells #[(.slice b.A b.xs.length b.c)] 24))
      have T5n := BoAt.new (w.alloc (.cells #[(.slice a.A a.xs.length a.c)] 24)) (.slice b.A b.xs.length b.c)
      simp only [World.size_alloc] at T5n
      have T5 := Lib.hid T5n
      clear T5n
      have B6 := Lib.hid (B3.out.alloc B3.out.size (.cells #[(.slice b.A b.xs.length b.c)] 24))
      have T7 := Lib.hid (T4.out.old (.cells (bvals zx) 26))
      have T8 := Lib.hid (T5.out.old (.cells (bvals zx) 26))
      have T9n := IdAt.new ((w.alloc (.cells #[(.slice a.A a.xs.length a.c)] 24)).alloc (.cells #[(.slice b.A b.xs.length b.c)] 24)) ZX.out.1
      simp only [World.size_alloc] at T9n
      have T9 := Lib.hid T9n
      clear T9n
      have B10 := Lib.hid (B6.out.alloc B6.out.size (.cells (bvals zx) 26))
      have T11 := Lib.hid (T7.out.old (.cells (bvals zy) 26))
      have T12 := Lib.hid (T8.out.old (.cells (bvals zy) 26))
      have T13 := Lib.hid (T9.out.old (.cells (bvals zy) 26))
      have T14n := IdAt.new (((w.alloc (.cells #[(.slice a.A a.xs.length a.c)] 24)).alloc (.cells #[(.slice b.A b.xs.length b.c)] 24)).alloc (.cells (bvals zx) 26)) ZY.out.1
      simp only [World.size_alloc] at T14n
      have T14 := Lib.hid T14n
      clear T14n
      have B15 := Lib.hid (B10.out.alloc B10.out.size (.cells (bvals zy) 26))
      have F16 := Lib.hid (Fa.out.below B15.out (Nat.le_refl _))
      have F17 := Lib.hid (Fb.out.below B15.out (Nat.le_refl _))
      go_enter Tryz.func3, Tryz.ntmps3
      have C18 := Lib.hid (bkAwake ((((w.alloc (.cells #[(.slice a.A a.xs.length a.c)] 24)).alloc (.cells #[(.slice b.A b.xs.length b.c)] 24)).alloc (.cells (bvals zx) 26)).alloc (.cells (bvals zy) 26)) (HLA.out _ B15.out))
      go_wp2_with fail
      refine C18.out.mono ?_
      rintro e w19 ⟨rfl, hb20⟩
      have T21 := Lib.hid (T11.out.below hb20 T11.out.lt)
      have T22 := Lib.hid (T12.out.below hb20 T12.out.lt)
      have T23 := Lib.hid (T13.out.below hb20 T13.out.lt)
      have T24 := Lib.hid (T14.out.below hb20 T14.out.lt)
      have F25 := Lib.hid (F16.out.below hb20 (Nat.le_refl _))
      have F26 := Lib.hid (F17.out.below hb20 (Nat.le_refl _))
      have B27 := Lib.hid (B15.out.trans (hb20.mono B15.out.size))
      clear hb20
      have M28 := Lib.hid (T21.out.load)
      have C29 := Lib.hid (fewB_any a w19 F25.out)
      rw [PA.out] at C29
      go_wp2_with (first | ((with_reducible refine wpList_load_by (o := ⟨some 27, .load 24 (.tmp 4), _, _, _, _⟩) ?e1 24 (.tmp 4) ?e2 ⟨w.heap.size, 0, none⟩ ?e3 _ M28.out ?_); (case e1 => rfl); (case e2 => rfl); (case e3 => rfl)))
      refine C29.out.mono ?_
      rintro e w30 ⟨rfl, hb31⟩
      have T32 := Lib.hid (T21.out.below hb31 T21.out.lt)
      have T33 := Lib.hid (T22.out.below hb31 T22.out.lt)
      have T34 := Lib.hid (T23.out.below hb31 T23.out.lt)
      have T35 := Lib.hid (T24.out.below hb31 T24.out.lt)
      have F36 := Lib.hid (F25.out.below hb31 (Nat.le_refl _))
      have F37 := Lib.hid (F26.out.below hb31 (Nat.le_refl _))
      have B38 := Lib.hid (B27.out.trans (hb31.mono B27.out.size))
      clear hb31
      have M39 := Lib.hid (T33.out.load)
      have C40 := Lib.hid (fewB_any b w30 F37.out)
      rw [PB.out] at C40
      go_wp2_with (first | ((with_reducible refine wpList_load_by (o := ⟨some 29, .load 24 (.tmp 5), _, _, _, _⟩) ?e1 24 (.tmp 5) ?e2 ⟨(w.heap.size + 1), 0, none⟩ ?e3 _ M39.out ?_); (case e1 => rfl); (case e2 => rfl); (case e3 => rfl)))
      refine C40.out.mono ?_
      rintro e w41 ⟨rfl, hb42⟩
      have T43 := Lib.hid (T32.out.below hb42 T32.out.lt)
      have T44 := Lib.hid (T33.out.below hb42 T33.out.lt)
      have T45 := Lib.hid (T34.out.below hb42 T34.out.lt)
      have T46 := Lib.hid (T35.out.below hb42 T35.out.lt)
      have F47 := Lib.hid (F36.out.below hb42 (Nat.le_refl _))
      have F48 := Lib.hid (F37.out.below hb42 (Nat.le_refl _))
      have B49 := Lib.hid (B38.out.trans (hb42.mono B38.out.size))
      clear hb42
      go_wp2
      go_ret
      exact ⟨rfl, B49.out⟩
    · have PB := Lib.hid pb
      clear pb
      have B1 := Lib.hid (Below.refl w.heap.size w)
      have T2n := BoAt.new w (.slice a.A a.xs.length a.c)
      have T2 := Lib.hid T2n
      clear T2n
      have B3 := Lib.hid (B1.out.alloc B1.out.size (.cells #[(.slice a.A a.xs.length a.c)] 24))
      have T4 := Lib.hid (T2.out.old (.cells #[(.slice b.A b.xs.length b.c)] 24))
      have T5n := BoAt.new (w.alloc (.cells #[(.slice a.A a.xs.length a.c)] 24)) (.slice b.A b.xs.length b.c)
      simp only [World.size_alloc] at T5n
      have T5 := Lib.hid T5n
      clear T5n
      have B6 := Lib.hid (B3.out.alloc B3.out.size (.cells #[(.slice b.A b.xs.length b.c)] 24))
      have T7 := Lib.hid (T4.out.old (.cells (bvals zx) 26))
      have T8 := Lib.hid (T5.out.old (.cells (bvals zx) 26))
      have T9n := IdAt.new ((w.alloc (.cells #[(.slice a.A a.xs.length a.c)] 24)).alloc (.cells #[(.slice b.A b.xs.length b.c)] 24)) ZX.out.1
      simp only [World.size_alloc] at T9n
      have T9 := Lib.hid T9n
      clear T9n
      have B10 := Lib.hid (B6.out.alloc B6.out.size (.cells (bvals zx) 26))
      have T11 := Lib.hid (T7.out.old (.cells (bvals zy) 26))
      have T12 := Lib.hid (T8.out.old (.cells (bvals zy) 26))
      have T13 := Lib.hid (T9.out.old (.cells (bvals zy) 26))
      have T14n := IdAt.new (((w.alloc (.cells #[(.slice a.A a.xs.length a.c)] 24)).alloc (.cells #[(.slice b.A b.xs.length b.c)] 24)).alloc (.cells (bvals zx) 26)) ZY.out.1
      simp only [World.size_alloc] at T14n
      have T14 := Lib.hid T14n
      clear T14n
      have B15 := Lib.hid (B10.out.alloc B10.out.size (.cells (bvals zy) 26))
      have F16 := Lib.hid (Fa.out.below B15.out (Nat.le_refl _))
      have F17 := Lib.hid (Fb.out.below B15.out (Nat.le_refl _))
      go_enter Tryz.func3, Tryz.ntmps3
      have C18 := Lib.hid (bkAwake ((((w.alloc (.cells #[(.slice a.A a.xs.length a.c)] 24)).alloc (.cells #[(.slice b.A b.xs.length b.c)] 24)).alloc (.cells (bvals zx) 26)).alloc (.cells (bvals zy) 26)) (HLA.out _ B15.out))
      go_wp2_with fail
      refine C18.out.mono ?_
      rintro e w19 ⟨rfl, hb20⟩
      have T21 := Lib.hid (T11.out.below hb20 T11.out.lt)
      have T22 := Lib.hid (T12.out.below hb20 T12.out.lt)
      have T23 := Lib.hid (T13.out.below hb20 T13.out.lt)
      have T24 := Lib.hid (T14.out.below hb20 T14.out.lt)
      have F25 := Lib.hid (F16.out.below hb20 (Nat.le_refl _))
      have F26 := Lib.hid (F17.out.below hb20 (Nat.le_refl _))
      have B27 := Lib.hid (B15.out.trans (hb20.mono B15.out.size))
      clear hb20
      have M28 := Lib.hid (T21.out.load)
      have C29 := Lib.hid (fewB_any a w19 F25.out)
      rw [PA.out] at C29
      go_wp2_with (first | ((with_reducible refine wpList_load_by (o := ⟨some 27, .load 24 (.tmp 4), _, _, _, _⟩) ?e1 24 (.tmp 4) ?e2 ⟨w.heap.size, 0, none⟩ ?e3 _ M28.out ?_); (case e1 => rfl); (case e2 => rfl); (case e3 => rfl)))
      refine C29.out.mono ?_
      rintro e w30 ⟨rfl, hb31⟩
      have T32 := Lib.hid (T21.out.below hb31 T21.out.lt)
      have T33 := Lib.hid (T22.out.below hb31 T22.out.lt)
      have T34 := Lib.hid (T23.out.below hb31 T23.out.lt)
      have T35 := Lib.hid (T24.out.below hb31 T24.out.lt)
      have F36 := Lib.hid (F25.out.below hb31 (Nat.le_refl _))
      have F37 := Lib.hid (F26.out.below hb31 (Nat.le_refl _))
      have B38 := Lib.hid (B27.out.trans (hb31.mono B27.out.size))
      clear hb31
      have M39 := Lib.hid (T33.out.load)
      have C40 := Lib.hid (fewB_any b w30 F37.out)
      rw [PB.out] at C40
      go_wp2_with (first | ((with_reducible refine wpList_load_by (o := ⟨some 29, .load 24 (.tmp 5), _, _, _, _⟩) ?e1 24 (.tmp 5) ?e2 ⟨(w.heap.size + 1), 0, none⟩ ?e3 _ M39.out ?_); (case e1 => rfl); (case e2 => rfl); (case e3 => rfl)))
      refine C40.out.mono ?_
      rintro e w41 ⟨rfl, hb42⟩
      have T43 := Lib.hid (T32.out.below hb42 T32.out.lt)
      have T44 := Lib.hid (T33.out.below hb42 T33.out.lt)
      have T45 := Lib.hid (T34.out.below hb42 T34.out.lt)
      have T46 := Lib.hid (T35.out.below hb42 T35.out.lt)
      have F47 := Lib.hid (F36.out.below hb42 (Nat.le_refl _))
      have F48 := Lib.hid (F37.out.below hb42 (Nat.le_refl _))
      have B49 := Lib.hid (B38.out.trans (hb42.mono B38.out.size))
      clear hb42
      go_wp2
      go_ret
      exact ⟨rfl, B49.out⟩
  · rw [pa] at h
    have PA := Lib.hid pa
    have PB := Lib.hid (show fewB b.rs = false by simpa using h)
    clear pa h
    have B1 := Lib.hid (Below.refl w.heap.size w)
    have T2n := BoAt.new w (.slice a.A a.xs.length a.c)
    have T2 := Lib.hid T2n
    clear T2n
    have B3 := Lib.hid (B1.out.alloc B1.out.size (.cells #[(.slice a.A a.xs.length a.c)] 24))
    have T4 := Lib.hid (T2.out.old (.cells #[(.slice b.A b.xs.length b.c)] 24))
    have T5n := BoAt.new (w.alloc (.cells #[(.slice a.A a.xs.length a.c)] 24)) (.slice b.A b.xs.length b.c)
    simp only [World.size_alloc] at T5n
    have T5 := Lib.hid T5n
    clear T5n
    have B6 := Lib.hid (B3.out.alloc B3.out.size (.cells #[(.slice b.A b.xs.length b.c)] 24))
    have T7 := Lib.hid (T4.out.old (.cells (bvals zx) 26))
    have T8 := Lib.hid (T5.out.old (.cells (bvals zx) 26))
    have T9n := IdAt.new ((w.alloc (.cells #[(.slice a.A a.xs.length a.c)] 24)).alloc (.cells #[(.slice b.A b.xs.length b.c)] 24)) ZX.out.1
    simp only [World.size_alloc] at T9n
    have T9 := Lib.hid T9n
    clear T9n
    have B10 := Lib.hid (B6.out.alloc B6.out.size (.cells (bvals zx) 26))
    have T11 := Lib.hid (T7.out.old (.cells (bvals zy) 26))
    have T12 := Lib.hid (T8.out.old (.cells (bvals zy) 26))
    have T13 := Lib.hid (T9.out.old (.cells (bvals zy) 26))
    have T14n := IdAt.new (((w.alloc (.cells #[(.slice a.A a.xs.length a.c)] 24)).alloc (.cells #[(.slice b.A b.xs.length b.c)] 24)).alloc (.cells (bvals zx) 26)) ZY.out.1
    simp only [World.size_alloc] at T14n
    have T14 := Lib.hid T14n
    clear T14n
    have B15 := Lib.hid (B10.out.alloc B10.out.size (.cells (bvals zy) 26))
    have F16 := Lib.hid (Fa.out.below B15.out (Nat.le_refl _))
    have F17 := Lib.hid (Fb.out.below B15.out (Nat.le_refl _))
    go_enter Tryz.func3, Tryz.ntmps3
    have C18 := Lib.hid (bkAwake ((((w.alloc (.cells #[(.slice a.A a.xs.length a.c)] 24)).alloc (.cells #[(.slice b.A b.xs.length b.c)] 24)).alloc (.cells (bvals zx) 26)).alloc (.cells (bvals zy) 26)) (HLA.out _ B15.out))
    go_wp2_with fail
    refine C18.out.mono ?_
    rintro e w19 ⟨rfl, hb20⟩
    have T21 := Lib.hid (T11.out.below hb20 T11.out.lt)
    have T22 := Lib.hid (T12.out.below hb20 T12.out.lt)
    have T23 := Lib.hid (T13.out.below hb20 T13.out.lt)
    have T24 := Lib.hid (T14.out.below hb20 T14.out.lt)
    have F25 := Lib.hid (F16.out.below hb20 (Nat.le_refl _))
    have F26 := Lib.hid (F17.out.below hb20 (Nat.le_refl _))
    have B27 := Lib.hid (B15.out.trans (hb20.mono B15.out.size))
    clear hb20
    have M28 := Lib.hid (T21.out.load)
    have C29 := Lib.hid (fewB_any a w19 F25.out)
    rw [PA.out] at C29
    go_wp2_with (first | ((with_reducible refine wpList_load_by (o := ⟨some 27, .load 24 (.tmp 4), _, _, _, _⟩) ?e1 24 (.tmp 4) ?e2 ⟨w.heap.size, 0, none⟩ ?e3 _ M28.out ?_); (case e1 => rfl); (case e2 => rfl); (case e3 => rfl)))
    refine C29.out.mono ?_
    rintro e w30 ⟨rfl, hb31⟩
    have T32 := Lib.hid (T21.out.below hb31 T21.out.lt)
    have T33 := Lib.hid (T22.out.below hb31 T22.out.lt)
    have T34 := Lib.hid (T23.out.below hb31 T23.out.lt)
    have T35 := Lib.hid (T24.out.below hb31 T24.out.lt)
    have F36 := Lib.hid (F25.out.below hb31 (Nat.le_refl _))
    have F37 := Lib.hid (F26.out.below hb31 (Nat.le_refl _))
    have B38 := Lib.hid (B27.out.trans (hb31.mono B27.out.size))
    clear hb31
    have M39 := Lib.hid (T33.out.load)
    have C40 := Lib.hid (fewB_any b w30 F37.out)
    rw [PB.out] at C40
    go_wp2_with (first | ((with_reducible refine wpList_load_by (o := ⟨some 29, .load 24 (.tmp 5), _, _, _, _⟩) ?e1 24 (.tmp 5) ?e2 ⟨(w.heap.size + 1), 0, none⟩ ?e3 _ M39.out ?_); (case e1 => rfl); (case e2 => rfl); (case e3 => rfl)))
    refine C40.out.mono ?_
    rintro e w41 ⟨rfl, hb42⟩
    have T43 := Lib.hid (T32.out.below hb42 T32.out.lt)
    have T44 := Lib.hid (T33.out.below hb42 T33.out.lt)
    have T45 := Lib.hid (T34.out.below hb42 T34.out.lt)
    have T46 := Lib.hid (T35.out.below hb42 T35.out.lt)
    have F47 := Lib.hid (F36.out.below hb42 (Nat.le_refl _))
    have F48 := Lib.hid (F37.out.below hb42 (Nat.le_refl _))
    have B49 := Lib.hid (B38.out.trans (hb42.mono B38.out.size))
    clear hb42
    go_wp2
    go_ret
    exact ⟨rfl, B49.out⟩
set_option maxHeartbeats 16000000 in
theorem btells_yes (a b : Bk) (zx zy : List Int) (w : World) (hlaid : Laid w) (wa : BkAt w a) (wb : BkAt w b) (wx : zx.length = 16 ∧ AllBytes zx) (wy : zy.length = 16 ∧ AllBytes zy) (p : (fewB a.rs && fewB b.rs) = true) :
    Calls Tryz.prog 3 #[.agg #[.slice a.A a.xs.length a.c], .agg #[.slice b.A b.xs.length b.c], .agg (bvals zx), .agg (bvals zy)] w fun e w' => e = .returned (.bool true) ∧ Below w.heap.size w w' := by
  have HLA := Lib.hid (fun (X : World) (hX : Below w.heap.size w X) => hlaid.below hX (Nat.le_refl _))
  have Fa := Lib.hid wa
  have Fb := Lib.hid wb
  have ZX := Lib.hid wx
  have ZY := Lib.hid wy
  have hz := zeroX
  have hzb := zeroBook
  unfold Bk.v Bk.s bk0 at hzb
  dsimp only [List.length_nil] at hzb
  clear hlaid wa wb wx wy
  simp only [Bool.and_eq_true] at p
  have PA := Lib.hid p.1
  have PB := Lib.hid p.2
  have ZA := Lib.hid (fewB_fs' p.1)
  have ZB := Lib.hid (fewB_fs' p.2)
  have SX : Hid (Rc.same ((bat a.rs zx).getD rc0) ((bat a.rs zx).getD rc0) = true) := Lib.hid (Rc.same_iff.2 rfl)
  have SB : Hid (bsame (bjE a.rs b.rs).2 (bjE a.rs b.rs).2 = true) := Lib.hid (bsame_self _)
  clear p
  have B1 := Lib.hid (Below.refl w.heap.size w)
  have T2n := BoAt.new w (.slice a.A a.xs.length a.c)
  have T2 := Lib.hid T2n
  clear T2n
  have B3 := Lib.hid (B1.out.alloc B1.out.size (.cells #[(.slice a.A a.xs.length a.c)] 24))
  have T4 := Lib.hid (T2.out.old (.cells #[(.slice b.A b.xs.length b.c)] 24))
  have T5n := BoAt.new (w.alloc (.cells #[(.slice a.A a.xs.length a.c)] 24)) (.slice b.A b.xs.length b.c)
  simp only [World.size_alloc] at T5n
  have T5 := Lib.hid T5n
  clear T5n
  have B6 := Lib.hid (B3.out.alloc B3.out.size (.cells #[(.slice b.A b.xs.length b.c)] 24))
  have T7 := Lib.hid (T4.out.old (.cells (bvals zx) 26))
  have T8 := Lib.hid (T5.out.old (.cells (bvals zx) 26))
  have T9n := IdAt.new ((w.alloc (.cells #[(.slice a.A a.xs.length a.c)] 24)).alloc (.cells #[(.slice b.A b.xs.length b.c)] 24)) ZX.out.1
  simp only [World.size_alloc] at T9n
  have T9 := Lib.hid T9n
  clear T9n
  have B10 := Lib.hid (B6.out.alloc B6.out.size (.cells (bvals zx) 26))
  have T11 := Lib.hid (T7.out.old (.cells (bvals zy) 26))
  have T12 := Lib.hid (T8.out.old (.cells (bvals zy) 26))
  have T13 := Lib.hid (T9.out.old (.cells (bvals zy) 26))
  have T14n := IdAt.new (((w.alloc (.cells #[(.slice a.A a.xs.length a.c)] 24)).alloc (.cells #[(.slice b.A b.xs.length b.c)] 24)).alloc (.cells (bvals zx) 26)) ZY.out.1
  simp only [World.size_alloc] at T14n
  have T14 := Lib.hid T14n
  clear T14n
  have B15 := Lib.hid (B10.out.alloc B10.out.size (.cells (bvals zy) 26))
  have F16 := Lib.hid (Fa.out.below B15.out (Nat.le_refl _))
  have F17 := Lib.hid (Fb.out.below B15.out (Nat.le_refl _))
  go_enter Tryz.func3, Tryz.ntmps3
  have C18 := Lib.hid (bkAwake ((((w.alloc (.cells #[(.slice a.A a.xs.length a.c)] 24)).alloc (.cells #[(.slice b.A b.xs.length b.c)] 24)).alloc (.cells (bvals zx) 26)).alloc (.cells (bvals zy) 26)) (HLA.out _ B15.out))
  go_wp2_with fail
  refine C18.out.mono ?_
  rintro e w19 ⟨rfl, hb20⟩
  have T21 := Lib.hid (T11.out.below hb20 T11.out.lt)
  have T22 := Lib.hid (T12.out.below hb20 T12.out.lt)
  have T23 := Lib.hid (T13.out.below hb20 T13.out.lt)
  have T24 := Lib.hid (T14.out.below hb20 T14.out.lt)
  have F25 := Lib.hid (F16.out.below hb20 (Nat.le_refl _))
  have F26 := Lib.hid (F17.out.below hb20 (Nat.le_refl _))
  have B27 := Lib.hid (B15.out.trans (hb20.mono B15.out.size))
  clear hb20
  have M28 := Lib.hid (T21.out.load)
  have C29 := Lib.hid (fewB_any a w19 F25.out)
  rw [PA.out] at C29
  go_wp2_with (first | ((with_reducible refine wpList_load_by (o := ⟨some 27, .load 24 (.tmp 4), _, _, _, _⟩) ?e1 24 (.tmp 4) ?e2 ⟨w.heap.size, 0, none⟩ ?e3 _ M28.out ?_); (case e1 => rfl); (case e2 => rfl); (case e3 => rfl)))
  refine C29.out.mono ?_
  rintro e w30 ⟨rfl, hb31⟩
  have T32 := Lib.hid (T21.out.below hb31 T21.out.lt)
  have T33 := Lib.hid (T22.out.below hb31 T22.out.lt)
  have T34 := Lib.hid (T23.out.below hb31 T23.out.lt)
  have T35 := Lib.hid (T24.out.below hb31 T24.out.lt)
  have F36 := Lib.hid (F25.out.below hb31 (Nat.le_refl _))
  have F37 := Lib.hid (F26.out.below hb31 (Nat.le_refl _))
  have B38 := Lib.hid (B27.out.trans (hb31.mono B27.out.size))
  clear hb31
  have M39 := Lib.hid (T33.out.load)
  have C40 := Lib.hid (fewB_any b w30 F37.out)
  rw [PB.out] at C40
  go_wp2_with (first | ((with_reducible refine wpList_load_by (o := ⟨some 29, .load 24 (.tmp 5), _, _, _, _⟩) ?e1 24 (.tmp 5) ?e2 ⟨(w.heap.size + 1), 0, none⟩ ?e3 _ M39.out ?_); (case e1 => rfl); (case e2 => rfl); (case e3 => rfl)))
  refine C40.out.mono ?_
  rintro e w41 ⟨rfl, hb42⟩
  have T43 := Lib.hid (T32.out.below hb42 T32.out.lt)
  have T44 := Lib.hid (T33.out.below hb42 T33.out.lt)
  have T45 := Lib.hid (T34.out.below hb42 T34.out.lt)
  have T46 := Lib.hid (T35.out.below hb42 T35.out.lt)
  have F47 := Lib.hid (F36.out.below hb42 (Nat.le_refl _))
  have F48 := Lib.hid (F37.out.below hb42 (Nat.le_refl _))
  have B49 := Lib.hid (B38.out.trans (hb42.mono B38.out.size))
  clear hb42
  have M53 := Lib.hid (T43.out.load)
  have M54 := Lib.hid (load_arr16 T45.out)
  have C55 := Lib.hid (bfind_any a zx w41 F47.out ZX.out.1 ZX.out.2 ZA.out.2)
  unfold BFindPost at C55
  go_wp2_with (first | ((with_reducible refine wpList_load_by (o := ⟨some 43, .load 24 (.tmp 4), _, _, _, _⟩) ?e1 24 (.tmp 4) ?e2 ⟨w.heap.size, 0, none⟩ ?e3 _ M53.out ?_); (case e1 => rfl); (case e2 => rfl); (case e3 => rfl)) | ((with_reducible refine wpList_load_by (o := ⟨some 44, .load 26 (.tmp 6), _, _, _, _⟩) ?e1 26 (.tmp 6) ?e2 ⟨(w.heap.size + 1 + 1), 0, none⟩ ?e3 _ M54.out ?_); (case e1 => rfl); (case e2 => rfl); (case e3 => rfl)))
  refine C55.out.mono ?_
  rintro e w56 ⟨y50, rfl, hd51, hk52, hb57⟩
  have T58 := Lib.hid (T43.out.below hb57 T43.out.lt)
  have T59 := Lib.hid (T44.out.below hb57 T44.out.lt)
  have T60 := Lib.hid (T45.out.below hb57 T45.out.lt)
  have T61 := Lib.hid (T46.out.below hb57 T46.out.lt)
  have F62 := Lib.hid (F47.out.below hb57 (Nat.le_refl _))
  have F63 := Lib.hid (F48.out.below hb57 (Nat.le_refl _))
  have B64 := Lib.hid (B49.out.trans (hb57.mono B49.out.size))
  clear hb57
  have E65 := Lib.hid (hd51)
  have F66 := Lib.hid (hk52)
  have Z67 := Lib.hid (hk52.len)
  clear hd51 hk52
  go_wp2_with (first | ((with_reducible refine wpList_store_newx (o := ⟨none, .store 33 (.tmp 12) (.tmp 46), _, _, _, _⟩) (w := w56) ?e1 (.tmp 12) (.tmp 46) ?e2 w56.heap.size ?e0 ?e3 y50 ?e4 Z67.out ?_); (case e1 => rfl); (case e2 => rfl); (case e0 => rfl); (case e3 => rfl); (case e4 => rfl); intro w71 hb72 hx73 hs74; have T75 := Lib.hid hx73; clear hx73 hs74; have T76 := Lib.hid (T58.out.below hb72 T58.out.lt); have T77 := Lib.hid (T59.out.below hb72 T59.out.lt); have T78 := Lib.hid (T60.out.below hb72 T60.out.lt); have T79 := Lib.hid (T61.out.below hb72 T61.out.lt); have F80 := Lib.hid (F62.out.below hb72 (Nat.le_refl _)); have F81 := Lib.hid (F63.out.below hb72 (Nat.le_refl _)); have F82 := Lib.hid (F66.out.below hb72 (Nat.le_refl _)); have B83 := Lib.hid (B64.out.trans (hb72.mono B64.out.size)); clear hb72; have M84 := Lib.hid (T76.out.load); have M85 := Lib.hid (load_arr16 T78.out); have C86 := Lib.hid (rbfind_any a zx w71 F80.out ZX.out.1 ZX.out.2); unfold BFindPost at C86) | ((with_reducible refine wpList_load_by (o := ⟨some 49, .load 24 (.tmp 4), _, _, _, _⟩) ?e1 24 (.tmp 4) ?e2 ⟨w.heap.size, 0, none⟩ ?e3 _ M84.out ?_); (case e1 => rfl); (case e2 => rfl); (case e3 => rfl)) | ((with_reducible refine wpList_load_by (o := ⟨some 50, .load 26 (.tmp 6), _, _, _, _⟩) ?e1 26 (.tmp 6) ?e2 ⟨(w.heap.size + 1 + 1), 0, none⟩ ?e3 _ M85.out ?_); (case e1 => rfl); (case e2 => rfl); (case e3 => rfl)))
  refine C86.out.mono ?_
  rintro e w87 ⟨y68, rfl, hd69, hk70, hb88⟩
  have T89 := Lib.hid (T76.out.below hb88 T76.out.lt)
  have T90 := Lib.hid (T77.out.below hb88 T77.out.lt)
  have T91 := Lib.hid (T78.out.below hb88 T78.out.lt)
  have T92 := Lib.hid (T79.out.below hb88 T79.out.lt)
  have T93 := Lib.hid (T75.out.below hb88 T75.out.lt)
  have F94 := Lib.hid (F80.out.below hb88 (Nat.le_refl _))
  have F95 := Lib.hid (F81.out.below hb88 (Nat.le_refl _))
  have F96 := Lib.hid (F82.out.below hb88 (Nat.le_refl _))
  have B97 := Lib.hid (B83.out.trans (hb88.mono B83.out.size))
  clear hb88
  have E98 := Lib.hid (hd69)
  have F99 := Lib.hid (hk70)
  have Z100 := Lib.hid (hk70.len)
  clear hd69 hk70
  go_wp2_with (first | ((with_reducible refine wpList_store_newx (o := ⟨none, .store 33 (.tmp 14) (.tmp 52), _, _, _, _⟩) (w := w87) ?e1 (.tmp 14) (.tmp 52) ?e2 w87.heap.size ?e0 ?e3 y68 ?e4 Z100.out ?_); (case e1 => rfl); (case e2 => rfl); (case e0 => rfl); (case e3 => rfl); (case e4 => rfl); intro w104 hb105 hx106 hs107; have T108 := Lib.hid hx106; clear hx106 hs107; have T109 := Lib.hid (T89.out.below hb105 T89.out.lt); have T110 := Lib.hid (T90.out.below hb105 T90.out.lt); have T111 := Lib.hid (T91.out.below hb105 T91.out.lt); have T112 := Lib.hid (T92.out.below hb105 T92.out.lt); have T113 := Lib.hid (T93.out.below hb105 T93.out.lt); have F114 := Lib.hid (F94.out.below hb105 (Nat.le_refl _)); have F115 := Lib.hid (F95.out.below hb105 (Nat.le_refl _)); have F116 := Lib.hid (F96.out.below hb105 (Nat.le_refl _)); have F117 := Lib.hid (F99.out.below hb105 (Nat.le_refl _)); have B118 := Lib.hid (B97.out.trans (hb105.mono B97.out.size)); clear hb105; have M119 := Lib.hid (T109.out.load); have M120 := Lib.hid (T110.out.load); have C121 := Lib.hid (bjoin_any a b w104 (HLA.out _ B118.out) F114.out F115.out); unfold BJoinPost at C121) | ((with_reducible refine wpList_load_by (o := ⟨some 55, .load 24 (.tmp 4), _, _, _, _⟩) ?e1 24 (.tmp 4) ?e2 ⟨w.heap.size, 0, none⟩ ?e3 _ M119.out ?_); (case e1 => rfl); (case e2 => rfl); (case e3 => rfl)) | ((with_reducible refine wpList_load_by (o := ⟨some 56, .load 24 (.tmp 5), _, _, _, _⟩) ?e1 24 (.tmp 5) ?e2 ⟨(w.heap.size + 1), 0, none⟩ ?e3 _ M120.out ?_); (case e1 => rfl); (case e2 => rfl); (case e3 => rfl)))
  refine C121.out.mono ?_
  rintro e w122 ⟨d101, rfl, hd102, hk103, hb123⟩
  have T124 := Lib.hid (T109.out.below hb123 T109.out.lt)
  have T125 := Lib.hid (T110.out.below hb123 T110.out.lt)
  have T126 := Lib.hid (T111.out.below hb123 T111.out.lt)
  have T127 := Lib.hid (T112.out.below hb123 T112.out.lt)
  have T128 := Lib.hid (T113.out.below hb123 T113.out.lt)
  have T129 := Lib.hid (T108.out.below hb123 T108.out.lt)
  have F130 := Lib.hid (F114.out.below hb123 (Nat.le_refl _))
  have F131 := Lib.hid (F115.out.below hb123 (Nat.le_refl _))
  have F132 := Lib.hid (F116.out.below hb123 (Nat.le_refl _))
  have F133 := Lib.hid (F117.out.below hb123 (Nat.le_refl _))
  have B134 := Lib.hid (B118.out.trans (hb123.mono B118.out.size))
  clear hb123
  have E135 := Lib.hid (hd102)
  have F136 := Lib.hid (hk103)
  clear hd102 hk103
  have hb137 := (Below.refl w122.heap.size w122).alloc (Nat.le_refl _) (.cells #[(.slice d101.A d101.xs.length d101.c)] 24)
  have T138 := Lib.hid (BoAt.new w122 (.slice d101.A d101.xs.length d101.c))
  have T139 := Lib.hid (T124.out.below hb137 T124.out.lt)
  have T140 := Lib.hid (T125.out.below hb137 T125.out.lt)
  have T141 := Lib.hid (T126.out.below hb137 T126.out.lt)
  have T142 := Lib.hid (T127.out.below hb137 T127.out.lt)
  have T143 := Lib.hid (T128.out.below hb137 T128.out.lt)
  have T144 := Lib.hid (T129.out.below hb137 T129.out.lt)
  have F145 := Lib.hid (F130.out.below hb137 (Nat.le_refl _))
  have F146 := Lib.hid (F131.out.below hb137 (Nat.le_refl _))
  have F147 := Lib.hid (F132.out.below hb137 (Nat.le_refl _))
  have F148 := Lib.hid (F133.out.below hb137 (Nat.le_refl _))
  have F149 := Lib.hid (F136.out.below hb137 (Nat.le_refl _))
  have B150 := Lib.hid (B134.out.trans (hb137.mono B134.out.size))
  clear hb137
  have M154 := Lib.hid (T139.out.load)
  have M155 := Lib.hid (T140.out.load)
  have C156 := Lib.hid (rbjoin_any a b (w122.alloc (.cells #[(.slice d101.A d101.xs.length d101.c)] 24)) F145.out F146.out ZA.out.1 ZB.out.1 ZA.out.2 ZB.out.2)
  unfold BJoinPost at C156
  go_wp2_with (first | ((with_reducible refine wpList_load_by (o := ⟨some 61, .load 24 (.tmp 4), _, _, _, _⟩) ?e1 24 (.tmp 4) ?e2 ⟨w.heap.size, 0, none⟩ ?e3 _ M154.out ?_); (case e1 => rfl); (case e2 => rfl); (case e3 => rfl)) | ((with_reducible refine wpList_load_by (o := ⟨some 62, .load 24 (.tmp 5), _, _, _, _⟩) ?e1 24 (.tmp 5) ?e2 ⟨(w.heap.size + 1), 0, none⟩ ?e3 _ M155.out ?_); (case e1 => rfl); (case e2 => rfl); (case e3 => rfl)))
  refine C156.out.mono ?_
  rintro e w157 ⟨d151, rfl, hd152, hk153, hb158⟩
  have T159 := Lib.hid (T139.out.below hb158 T139.out.lt)
  have T160 := Lib.hid (T140.out.below hb158 T140.out.lt)
  have T161 := Lib.hid (T141.out.below hb158 T141.out.lt)
  have T162 := Lib.hid (T142.out.below hb158 T142.out.lt)
  have T163 := Lib.hid (T143.out.below hb158 T143.out.lt)
  have T164 := Lib.hid (T144.out.below hb158 T144.out.lt)
  have T165 := Lib.hid (T138.out.below hb158 T138.out.lt)
  have F166 := Lib.hid (F145.out.below hb158 (Nat.le_refl _))
  have F167 := Lib.hid (F146.out.below hb158 (Nat.le_refl _))
  have F168 := Lib.hid (F147.out.below hb158 (Nat.le_refl _))
  have F169 := Lib.hid (F148.out.below hb158 (Nat.le_refl _))
  have F170 := Lib.hid (F149.out.below hb158 (Nat.le_refl _))
  have B171 := Lib.hid (B150.out.trans (hb158.mono B150.out.size))
  clear hb158
  have E172 := Lib.hid (hd152)
  have F173 := Lib.hid (hk153)
  clear hd152 hk153
  have hb174 := (Below.refl w157.heap.size w157).alloc (Nat.le_refl _) (.cells #[(.slice d151.A d151.xs.length d151.c)] 24)
  have T175 := Lib.hid (BoAt.new w157 (.slice d151.A d151.xs.length d151.c))
  have T176 := Lib.hid (T159.out.below hb174 T159.out.lt)
  have T177 := Lib.hid (T160.out.below hb174 T160.out.lt)
  have T178 := Lib.hid (T161.out.below hb174 T161.out.lt)
  have T179 := Lib.hid (T162.out.below hb174 T162.out.lt)
  have T180 := Lib.hid (T163.out.below hb174 T163.out.lt)
  have T181 := Lib.hid (T164.out.below hb174 T164.out.lt)
  have T182 := Lib.hid (T165.out.below hb174 T165.out.lt)
  have F183 := Lib.hid (F166.out.below hb174 (Nat.le_refl _))
  have F184 := Lib.hid (F167.out.below hb174 (Nat.le_refl _))
  have F185 := Lib.hid (F168.out.below hb174 (Nat.le_refl _))
  have F186 := Lib.hid (F169.out.below hb174 (Nat.le_refl _))
  have F187 := Lib.hid (F170.out.below hb174 (Nat.le_refl _))
  have F188 := Lib.hid (F173.out.below hb174 (Nat.le_refl _))
  have B189 := Lib.hid (B171.out.trans (hb174.mono B171.out.size))
  clear hb174
  have Z190 := Lib.hid (bjE_small E135.out)
  have Z191 := Lib.hid (bat_small E65.out ZA.out.2)
  have M192 := Lib.hid (T180.out.load)
  have M193 := Lib.hid (T181.out.load)
  have C194 := Lib.hid (xrsame_any y50 y68 (w157.alloc (.cells #[(.slice d151.A d151.xs.length d151.c)] 24)) F185.out F186.out Z191.out)
  try rw [E65.out] at C194
  try rw [E98.out] at C194
  rw [SX.out] at C194
  go_wp2_with (first | ((with_reducible refine wpList_load_by (o := ⟨some 66, .load 33 (.tmp 12), _, _, _, _⟩) ?e1 33 (.tmp 12) ?e2 ⟨w56.heap.size, 0, none⟩ ?e3 _ M192.out ?_); (case e1 => rfl); (case e2 => rfl); (case e3 => rfl)) | ((with_reducible refine wpList_load_by (o := ⟨some 67, .load 33 (.tmp 14), _, _, _, _⟩) ?e1 33 (.tmp 14) ?e2 ⟨w87.heap.size, 0, none⟩ ?e3 _ M193.out ?_); (case e1 => rfl); (case e2 => rfl); (case e3 => rfl)))
  refine C194.out.mono ?_
  rintro e w195 ⟨rfl, hb196⟩
  have T197 := Lib.hid (T176.out.below hb196 T176.out.lt)
  have T198 := Lib.hid (T177.out.below hb196 T177.out.lt)
  have T199 := Lib.hid (T178.out.below hb196 T178.out.lt)
  have T200 := Lib.hid (T179.out.below hb196 T179.out.lt)
  have T201 := Lib.hid (T180.out.below hb196 T180.out.lt)
  have T202 := Lib.hid (T181.out.below hb196 T181.out.lt)
  have T203 := Lib.hid (T182.out.below hb196 T182.out.lt)
  have T204 := Lib.hid (T175.out.below hb196 T175.out.lt)
  have F205 := Lib.hid (F183.out.below hb196 (Nat.le_refl _))
  have F206 := Lib.hid (F184.out.below hb196 (Nat.le_refl _))
  have F207 := Lib.hid (F185.out.below hb196 (Nat.le_refl _))
  have F208 := Lib.hid (F186.out.below hb196 (Nat.le_refl _))
  have F209 := Lib.hid (F187.out.below hb196 (Nat.le_refl _))
  have F210 := Lib.hid (F188.out.below hb196 (Nat.le_refl _))
  have B211 := Lib.hid (B189.out.trans (hb196.mono B189.out.size))
  clear hb196
  have M212 := Lib.hid (T203.out.load)
  have M213 := Lib.hid (T204.out.load)
  have C214 := Lib.hid (rbsame_any d101 d151 w195 F209.out F210.out Z190.out.2 Z190.out.1)
  try rw [E135.out] at C214
  try rw [E172.out] at C214
  rw [SB.out] at C214
  go_wp2_with (first | ((with_reducible refine wpList_load_by (o := ⟨some 69, .load 24 (.tmp 16), _, _, _, _⟩) ?e1 24 (.tmp 16) ?e2 ⟨w122.heap.size, 0, none⟩ ?e3 _ M212.out ?_); (case e1 => rfl); (case e2 => rfl); (case e3 => rfl)) | ((with_reducible refine wpList_load_by (o := ⟨some 70, .load 24 (.tmp 18), _, _, _, _⟩) ?e1 24 (.tmp 18) ?e2 ⟨w157.heap.size, 0, none⟩ ?e3 _ M213.out ?_); (case e1 => rfl); (case e2 => rfl); (case e3 => rfl)))
  refine C214.out.mono ?_
  rintro e w215 ⟨rfl, hb216⟩
  have T217 := Lib.hid (T197.out.below hb216 T197.out.lt)
  have T218 := Lib.hid (T198.out.below hb216 T198.out.lt)
  have T219 := Lib.hid (T199.out.below hb216 T199.out.lt)
  have T220 := Lib.hid (T200.out.below hb216 T200.out.lt)
  have T221 := Lib.hid (T201.out.below hb216 T201.out.lt)
  have T222 := Lib.hid (T202.out.below hb216 T202.out.lt)
  have T223 := Lib.hid (T203.out.below hb216 T203.out.lt)
  have T224 := Lib.hid (T204.out.below hb216 T204.out.lt)
  have F225 := Lib.hid (F205.out.below hb216 (Nat.le_refl _))
  have F226 := Lib.hid (F206.out.below hb216 (Nat.le_refl _))
  have F227 := Lib.hid (F207.out.below hb216 (Nat.le_refl _))
  have F228 := Lib.hid (F208.out.below hb216 (Nat.le_refl _))
  have F229 := Lib.hid (F209.out.below hb216 (Nat.le_refl _))
  have F230 := Lib.hid (F210.out.below hb216 (Nat.le_refl _))
  have B231 := Lib.hid (B211.out.trans (hb216.mono B211.out.size))
  clear hb216
  have M232 := Lib.hid (T217.out.load)
  have C233 := Lib.hid (rbmay_any a w215 F225.out ZA.out.2 ZA.out.1)
  go_wp2_with (first | ((with_reducible refine wpList_load_by (o := ⟨some 72, .load 24 (.tmp 4), _, _, _, _⟩) ?e1 24 (.tmp 4) ?e2 ⟨w.heap.size, 0, none⟩ ?e3 _ M232.out ?_); (case e1 => rfl); (case e2 => rfl); (case e3 => rfl)))
  refine C233.out.mono ?_
  rintro e w234 ⟨rfl, hb235⟩
  have T236 := Lib.hid (T217.out.below hb235 T217.out.lt)
  have T237 := Lib.hid (T218.out.below hb235 T218.out.lt)
  have T238 := Lib.hid (T219.out.below hb235 T219.out.lt)
  have T239 := Lib.hid (T220.out.below hb235 T220.out.lt)
  have T240 := Lib.hid (T221.out.below hb235 T221.out.lt)
  have T241 := Lib.hid (T222.out.below hb235 T222.out.lt)
  have T242 := Lib.hid (T223.out.below hb235 T223.out.lt)
  have T243 := Lib.hid (T224.out.below hb235 T224.out.lt)
  have F244 := Lib.hid (F225.out.below hb235 (Nat.le_refl _))
  have F245 := Lib.hid (F226.out.below hb235 (Nat.le_refl _))
  have F246 := Lib.hid (F227.out.below hb235 (Nat.le_refl _))
  have F247 := Lib.hid (F228.out.below hb235 (Nat.le_refl _))
  have F248 := Lib.hid (F229.out.below hb235 (Nat.le_refl _))
  have F249 := Lib.hid (F230.out.below hb235 (Nat.le_refl _))
  have B250 := Lib.hid (B231.out.trans (hb235.mono B231.out.size))
  clear hb235
  have M251 := Lib.hid (T236.out.load)
  have M252 := Lib.hid (T237.out.load)
  have C253 := Lib.hid (rbsame_any a b w234 F244.out F245.out ZA.out.2 ZA.out.1)
  go_wp2_with (first | ((with_reducible refine wpList_load_by (o := ⟨some 74, .load 24 (.tmp 4), _, _, _, _⟩) ?e1 24 (.tmp 4) ?e2 ⟨w.heap.size, 0, none⟩ ?e3 _ M251.out ?_); (case e1 => rfl); (case e2 => rfl); (case e3 => rfl)) | ((with_reducible refine wpList_load_by (o := ⟨some 75, .load 24 (.tmp 5), _, _, _, _⟩) ?e1 24 (.tmp 5) ?e2 ⟨(w.heap.size + 1), 0, none⟩ ?e3 _ M252.out ?_); (case e1 => rfl); (case e2 => rfl); (case e3 => rfl)))
  refine C253.out.mono ?_
  rintro e w254 ⟨rfl, hb255⟩
  have T256 := Lib.hid (T236.out.below hb255 T236.out.lt)
  have T257 := Lib.hid (T237.out.below hb255 T237.out.lt)
  have T258 := Lib.hid (T238.out.below hb255 T238.out.lt)
  have T259 := Lib.hid (T239.out.below hb255 T239.out.lt)
  have T260 := Lib.hid (T240.out.below hb255 T240.out.lt)
  have T261 := Lib.hid (T241.out.below hb255 T241.out.lt)
  have T262 := Lib.hid (T242.out.below hb255 T242.out.lt)
  have T263 := Lib.hid (T243.out.below hb255 T243.out.lt)
  have F264 := Lib.hid (F244.out.below hb255 (Nat.le_refl _))
  have F265 := Lib.hid (F245.out.below hb255 (Nat.le_refl _))
  have F266 := Lib.hid (F246.out.below hb255 (Nat.le_refl _))
  have F267 := Lib.hid (F247.out.below hb255 (Nat.le_refl _))
  have F268 := Lib.hid (F248.out.below hb255 (Nat.le_refl _))
  have F269 := Lib.hid (F249.out.below hb255 (Nat.le_refl _))
  have B270 := Lib.hid (B250.out.trans (hb255.mono B250.out.size))
  clear hb255
  have M271 := Lib.hid (T256.out.load)
  have M272 := Lib.hid (T257.out.load)
  have C273 := Lib.hid (rbleq_any a b w254 F264.out F265.out ZA.out.1 ZB.out.1 ZA.out.2 ZB.out.2)
  go_wp2_with (first | ((with_reducible refine wpList_load_by (o := ⟨some 77, .load 24 (.tmp 4), _, _, _, _⟩) ?e1 24 (.tmp 4) ?e2 ⟨w.heap.size, 0, none⟩ ?e3 _ M271.out ?_); (case e1 => rfl); (case e2 => rfl); (case e3 => rfl)) | ((with_reducible refine wpList_load_by (o := ⟨some 78, .load 24 (.tmp 5), _, _, _, _⟩) ?e1 24 (.tmp 5) ?e2 ⟨(w.heap.size + 1), 0, none⟩ ?e3 _ M272.out ?_); (case e1 => rfl); (case e2 => rfl); (case e3 => rfl)))
  refine C273.out.mono ?_
  rintro e w274 ⟨rfl, hb275⟩
  have T276 := Lib.hid (T256.out.below hb275 T256.out.lt)
  have T277 := Lib.hid (T257.out.below hb275 T257.out.lt)
  have T278 := Lib.hid (T258.out.below hb275 T258.out.lt)
  have T279 := Lib.hid (T259.out.below hb275 T259.out.lt)
  have T280 := Lib.hid (T260.out.below hb275 T260.out.lt)
  have T281 := Lib.hid (T261.out.below hb275 T261.out.lt)
  have T282 := Lib.hid (T262.out.below hb275 T262.out.lt)
  have T283 := Lib.hid (T263.out.below hb275 T263.out.lt)
  have F284 := Lib.hid (F264.out.below hb275 (Nat.le_refl _))
  have F285 := Lib.hid (F265.out.below hb275 (Nat.le_refl _))
  have F286 := Lib.hid (F266.out.below hb275 (Nat.le_refl _))
  have F287 := Lib.hid (F267.out.below hb275 (Nat.le_refl _))
  have F288 := Lib.hid (F268.out.below hb275 (Nat.le_refl _))
  have F289 := Lib.hid (F269.out.below hb275 (Nat.le_refl _))
  have B290 := Lib.hid (B270.out.trans (hb275.mono B270.out.size))
  clear hb275
  have M291 := Lib.hid (load_arr16 T278.out)
  have M292 := Lib.hid (load_arr16 T279.out)
  have C293 := Lib.hid (rbless_any zx zy w274 ZX.out.2 ZY.out.2 ZX.out.1 ZY.out.1)
  go_wp2_with (first | ((with_reducible refine wpList_load_by (o := ⟨some 80, .load 26 (.tmp 6), _, _, _, _⟩) ?e1 26 (.tmp 6) ?e2 ⟨(w.heap.size + 1 + 1), 0, none⟩ ?e3 _ M291.out ?_); (case e1 => rfl); (case e2 => rfl); (case e3 => rfl)) | ((with_reducible refine wpList_load_by (o := ⟨some 81, .load 26 (.tmp 7), _, _, _, _⟩) ?e1 26 (.tmp 7) ?e2 ⟨(w.heap.size + 1 + 1 + 1), 0, none⟩ ?e3 _ M292.out ?_); (case e1 => rfl); (case e2 => rfl); (case e3 => rfl)))
  refine C293.out.mono ?_
  rintro e w294 ⟨rfl, hb295⟩
  have T296 := Lib.hid (T276.out.below hb295 T276.out.lt)
  have T297 := Lib.hid (T277.out.below hb295 T277.out.lt)
  have T298 := Lib.hid (T278.out.below hb295 T278.out.lt)
  have T299 := Lib.hid (T279.out.below hb295 T279.out.lt)
  have T300 := Lib.hid (T280.out.below hb295 T280.out.lt)
  have T301 := Lib.hid (T281.out.below hb295 T281.out.lt)
  have T302 := Lib.hid (T282.out.below hb295 T282.out.lt)
  have T303 := Lib.hid (T283.out.below hb295 T283.out.lt)
  have F304 := Lib.hid (F284.out.below hb295 (Nat.le_refl _))
  have F305 := Lib.hid (F285.out.below hb295 (Nat.le_refl _))
  have F306 := Lib.hid (F286.out.below hb295 (Nat.le_refl _))
  have F307 := Lib.hid (F287.out.below hb295 (Nat.le_refl _))
  have F308 := Lib.hid (F288.out.below hb295 (Nat.le_refl _))
  have F309 := Lib.hid (F289.out.below hb295 (Nat.le_refl _))
  have B310 := Lib.hid (B290.out.trans (hb295.mono B290.out.size))
  clear hb295
  have M311 := Lib.hid (T296.out.load)
  have C312 := Lib.hid (bmay_any a w294 F304.out)
  go_wp2_with (first | ((with_reducible refine wpList_load_by (o := ⟨some 98, .load 24 (.tmp 4), _, _, _, _⟩) ?e1 24 (.tmp 4) ?e2 ⟨w.heap.size, 0, none⟩ ?e3 _ M311.out ?_); (case e1 => rfl); (case e2 => rfl); (case e3 => rfl)))
  refine C312.out.mono ?_
  rintro e w313 ⟨rfl, hb314⟩
  have T315 := Lib.hid (T296.out.below hb314 T296.out.lt)
  have T316 := Lib.hid (T297.out.below hb314 T297.out.lt)
  have T317 := Lib.hid (T298.out.below hb314 T298.out.lt)
  have T318 := Lib.hid (T299.out.below hb314 T299.out.lt)
  have T319 := Lib.hid (T300.out.below hb314 T300.out.lt)
  have T320 := Lib.hid (T301.out.below hb314 T301.out.lt)
  have T321 := Lib.hid (T302.out.below hb314 T302.out.lt)
  have T322 := Lib.hid (T303.out.below hb314 T303.out.lt)
  have F323 := Lib.hid (F304.out.below hb314 (Nat.le_refl _))
  have F324 := Lib.hid (F305.out.below hb314 (Nat.le_refl _))
  have F325 := Lib.hid (F306.out.below hb314 (Nat.le_refl _))
  have F326 := Lib.hid (F307.out.below hb314 (Nat.le_refl _))
  have F327 := Lib.hid (F308.out.below hb314 (Nat.le_refl _))
  have F328 := Lib.hid (F309.out.below hb314 (Nat.le_refl _))
  have B329 := Lib.hid (B310.out.trans (hb314.mono B310.out.size))
  clear hb314
  have M330 := Lib.hid (T315.out.load)
  have M331 := Lib.hid (T316.out.load)
  have C332 := Lib.hid (bsame_any a b w313 F323.out F324.out)
  go_wp2_with (first | ((with_reducible refine wpList_load_by (o := ⟨some 104, .load 24 (.tmp 4), _, _, _, _⟩) ?e1 24 (.tmp 4) ?e2 ⟨w.heap.size, 0, none⟩ ?e3 _ M330.out ?_); (case e1 => rfl); (case e2 => rfl); (case e3 => rfl)) | ((with_reducible refine wpList_load_by (o := ⟨some 105, .load 24 (.tmp 5), _, _, _, _⟩) ?e1 24 (.tmp 5) ?e2 ⟨(w.heap.size + 1), 0, none⟩ ?e3 _ M331.out ?_); (case e1 => rfl); (case e2 => rfl); (case e3 => rfl)))
  refine C332.out.mono ?_
  rintro e w333 ⟨rfl, hb334⟩
  have T335 := Lib.hid (T315.out.below hb334 T315.out.lt)
  have T336 := Lib.hid (T316.out.below hb334 T316.out.lt)
  have T337 := Lib.hid (T317.out.below hb334 T317.out.lt)
  have T338 := Lib.hid (T318.out.below hb334 T318.out.lt)
  have T339 := Lib.hid (T319.out.below hb334 T319.out.lt)
  have T340 := Lib.hid (T320.out.below hb334 T320.out.lt)
  have T341 := Lib.hid (T321.out.below hb334 T321.out.lt)
  have T342 := Lib.hid (T322.out.below hb334 T322.out.lt)
  have F343 := Lib.hid (F323.out.below hb334 (Nat.le_refl _))
  have F344 := Lib.hid (F324.out.below hb334 (Nat.le_refl _))
  have F345 := Lib.hid (F325.out.below hb334 (Nat.le_refl _))
  have F346 := Lib.hid (F326.out.below hb334 (Nat.le_refl _))
  have F347 := Lib.hid (F327.out.below hb334 (Nat.le_refl _))
  have F348 := Lib.hid (F328.out.below hb334 (Nat.le_refl _))
  have B349 := Lib.hid (B329.out.trans (hb334.mono B329.out.size))
  clear hb334
  have M350 := Lib.hid (T335.out.load)
  have M351 := Lib.hid (T336.out.load)
  have C352 := Lib.hid (bleq_any a b w333 (HLA.out _ B349.out) F343.out F344.out)
  go_wp2_with (first | ((with_reducible refine wpList_load_by (o := ⟨some 111, .load 24 (.tmp 4), _, _, _, _⟩) ?e1 24 (.tmp 4) ?e2 ⟨w.heap.size, 0, none⟩ ?e3 _ M350.out ?_); (case e1 => rfl); (case e2 => rfl); (case e3 => rfl)) | ((with_reducible refine wpList_load_by (o := ⟨some 112, .load 24 (.tmp 5), _, _, _, _⟩) ?e1 24 (.tmp 5) ?e2 ⟨(w.heap.size + 1), 0, none⟩ ?e3 _ M351.out ?_); (case e1 => rfl); (case e2 => rfl); (case e3 => rfl)))
  refine C352.out.mono ?_
  rintro e w353 ⟨rfl, hb354⟩
  have T355 := Lib.hid (T335.out.below hb354 T335.out.lt)
  have T356 := Lib.hid (T336.out.below hb354 T336.out.lt)
  have T357 := Lib.hid (T337.out.below hb354 T337.out.lt)
  have T358 := Lib.hid (T338.out.below hb354 T338.out.lt)
  have T359 := Lib.hid (T339.out.below hb354 T339.out.lt)
  have T360 := Lib.hid (T340.out.below hb354 T340.out.lt)
  have T361 := Lib.hid (T341.out.below hb354 T341.out.lt)
  have T362 := Lib.hid (T342.out.below hb354 T342.out.lt)
  have F363 := Lib.hid (F343.out.below hb354 (Nat.le_refl _))
  have F364 := Lib.hid (F344.out.below hb354 (Nat.le_refl _))
  have F365 := Lib.hid (F345.out.below hb354 (Nat.le_refl _))
  have F366 := Lib.hid (F346.out.below hb354 (Nat.le_refl _))
  have F367 := Lib.hid (F347.out.below hb354 (Nat.le_refl _))
  have F368 := Lib.hid (F348.out.below hb354 (Nat.le_refl _))
  have B369 := Lib.hid (B349.out.trans (hb354.mono B349.out.size))
  clear hb354
  have M370 := Lib.hid (load_arr16 T357.out)
  have M371 := Lib.hid (load_arr16 T358.out)
  have C372 := Lib.hid (bless_any zx zy w353 ZX.out.2 ZY.out.2 ZX.out.1 ZY.out.1)
  go_wp2_with (first | ((with_reducible refine wpList_load_by (o := ⟨some 118, .load 26 (.tmp 6), _, _, _, _⟩) ?e1 26 (.tmp 6) ?e2 ⟨(w.heap.size + 1 + 1), 0, none⟩ ?e3 _ M370.out ?_); (case e1 => rfl); (case e2 => rfl); (case e3 => rfl)) | ((with_reducible refine wpList_load_by (o := ⟨some 119, .load 26 (.tmp 7), _, _, _, _⟩) ?e1 26 (.tmp 7) ?e2 ⟨(w.heap.size + 1 + 1 + 1), 0, none⟩ ?e3 _ M371.out ?_); (case e1 => rfl); (case e2 => rfl); (case e3 => rfl)))
  refine C372.out.mono ?_
  rintro e w373 ⟨rfl, hb374⟩
  have T375 := Lib.hid (T355.out.below hb374 T355.out.lt)
  have T376 := Lib.hid (T356.out.below hb374 T356.out.lt)
  have T377 := Lib.hid (T357.out.below hb374 T357.out.lt)
  have T378 := Lib.hid (T358.out.below hb374 T358.out.lt)
  have T379 := Lib.hid (T359.out.below hb374 T359.out.lt)
  have T380 := Lib.hid (T360.out.below hb374 T360.out.lt)
  have T381 := Lib.hid (T361.out.below hb374 T361.out.lt)
  have T382 := Lib.hid (T362.out.below hb374 T362.out.lt)
  have F383 := Lib.hid (F363.out.below hb374 (Nat.le_refl _))
  have F384 := Lib.hid (F364.out.below hb374 (Nat.le_refl _))
  have F385 := Lib.hid (F365.out.below hb374 (Nat.le_refl _))
  have F386 := Lib.hid (F366.out.below hb374 (Nat.le_refl _))
  have F387 := Lib.hid (F367.out.below hb374 (Nat.le_refl _))
  have F388 := Lib.hid (F368.out.below hb374 (Nat.le_refl _))
  have B389 := Lib.hid (B369.out.trans (hb374.mono B369.out.size))
  clear hb374
  go_wp2
  go_ret
  exact ⟨rfl, B389.out⟩
theorem walk_bookTells (a b : Bk) (zx zy : List Int) (w : World) (hlaid : Laid w) (wa : BkAt w a) (wb : BkAt w b) (wx : zx.length = 16 ∧ AllBytes zx) (wy : zy.length = 16 ∧ AllBytes zy) :
    Calls Tryz.prog 3 #[.agg #[.slice a.A a.xs.length a.c], .agg #[.slice b.A b.xs.length b.c], .agg (bvals zx), .agg (bvals zy)] w fun e w' => e = .returned (.bool true) ∧ Below w.heap.size w w' := by
  cases p : (fewB a.rs && fewB b.rs)
  · exact btells_few a b zx zy w hlaid wa wb wx wy p
  · exact btells_yes a b zx zy w hlaid wa wb wx wy p
end Go.Proofs.YtcmknbdeafcknaaGreatDoor

