import Derived.Test.YtepapdnchpolmaaDoorBkAwake
import Derived.Test.YtepapdnchpolmaaDoorGArgs
import Derived.Test.YtepapdnchpolmaaDoorBkFew
/-
  The law BookJoins: for every three books it answers true, and nothing that was there is written.
-/
namespace Go.Proofs.YtepapdnchpolmaaDoor
open Go.RowKit WM
set_option linter.unusedVariables false
set_option maxRecDepth 100000
set_option maxHeartbeats 16000000 in
theorem bjoins_few (a b c : Bk) (w : World) (hlaid : Laid w) (wa : BkAt w a) (wb : BkAt w b) (wc : BkAt w c) (h : (fewB a.rs && fewB b.rs && fewB c.rs) = false) :
    Calls Tryd.prog 4 #[.agg #[.slice a.A a.xs.length a.c], .agg #[.slice b.A b.xs.length b.c], .agg #[.slice c.A c.xs.length c.c]] w fun e w' => e = .returned (.bool true) ∧ Below w.heap.size w w' := by
  have HLA := Lib.hid (fun (X : World) (hX : Below w.heap.size w X) => hlaid.below hX (Nat.le_refl _))
  have Fa := Lib.hid wa
  have Fb := Lib.hid wb
  have Fc := Lib.hid wc
  clear hlaid wa wb wc
  cases pa : fewB a.rs
  · have PA := Lib.hid pa
    clear pa h
    have B1 := Lib.hid (Below.refl w.heap.size w)
    have T2n := BoAt.new w (.slice a.A a.xs.length a.c)
    have T2 := Lib.hid T2n
    clear T2n
    have B3 := Lib.hid (B1.out.alloc B1.out.size (.cells #[(.slice a.A a.xs.length a.c)] 41))
    have T4 := Lib.hid (T2.out.old (.cells #[(.slice b.A b.xs.length b.c)] 41))
    have T5n := BoAt.new (w.alloc (.cells #[(.slice a.A a.xs.length a.c)] 41)) (.slice b.A b.xs.length b.c)
    simp only [World.size_alloc] at T5n
    have T5 := Lib.hid T5n
    clear T5n
    have B6 := Lib.hid (B3.out.alloc B3.out.size (.cells #[(.slice b.A b.xs.length b.c)] 41))
    have T7 := Lib.hid (T4.out.old (.cells #[(.slice c.A c.xs.length c.c)] 41))
    have T8 := Lib.hid (T5.out.old (.cells #[(.slice c.A c.xs.length c.c)] 41))
    have T9n := BoAt.new ((w.alloc (.cells #[(.slice a.A a.xs.length a.c)] 41)).alloc (.cells #[(.slice b.A b.xs.length b.c)] 41)) (.slice c.A c.xs.length c.c)
    simp only [World.size_alloc] at T9n
    have T9 := Lib.hid T9n
    clear T9n
    have B10 := Lib.hid (B6.out.alloc B6.out.size (.cells #[(.slice c.A c.xs.length c.c)] 41))
    have F11 := Lib.hid (Fa.out.below B10.out (Nat.le_refl _))
    have F12 := Lib.hid (Fb.out.below B10.out (Nat.le_refl _))
    have F13 := Lib.hid (Fc.out.below B10.out (Nat.le_refl _))
    go_enter Tryd.func4, Tryd.ntmps4
    have C14 := Lib.hid (bkAwake (((w.alloc (.cells #[(.slice a.A a.xs.length a.c)] 41)).alloc (.cells #[(.slice b.A b.xs.length b.c)] 41)).alloc (.cells #[(.slice c.A c.xs.length c.c)] 41)) (HLA.out _ B10.out))
    go_wp2_with fail
    refine C14.out.mono ?_
    rintro e w15 ⟨rfl, hb16⟩
    have T17 := Lib.hid (T7.out.below hb16 T7.out.lt)
    have T18 := Lib.hid (T8.out.below hb16 T8.out.lt)
    have T19 := Lib.hid (T9.out.below hb16 T9.out.lt)
    have F20 := Lib.hid (F11.out.below hb16 (Nat.le_refl _))
    have F21 := Lib.hid (F12.out.below hb16 (Nat.le_refl _))
    have F22 := Lib.hid (F13.out.below hb16 (Nat.le_refl _))
    have B23 := Lib.hid (B10.out.trans (hb16.mono B10.out.size))
    clear hb16
    have M24 := Lib.hid (T17.out.load)
    have C25 := Lib.hid (fewB_any a w15 F20.out)
    rw [PA.out] at C25
    go_wp2_with (first | ((with_reducible refine wpList_load_by (o := ⟨some 24, .load 41 (.tmp 3), _, _, _, _⟩) ?e1 41 (.tmp 3) ?e2 ⟨w.heap.size, 0, none⟩ ?e3 _ M24.out ?_); (case e1 => rfl); (case e2 => rfl); (case e3 => rfl)))
    refine C25.out.mono ?_
    rintro e w26 ⟨rfl, hb27⟩
    have T28 := Lib.hid (T17.out.below hb27 T17.out.lt)
    have T29 := Lib.hid (T18.out.below hb27 T18.out.lt)
    have T30 := Lib.hid (T19.out.below hb27 T19.out.lt)
    have F31 := Lib.hid (F20.out.below hb27 (Nat.le_refl _))
    have F32 := Lib.hid (F21.out.below hb27 (Nat.le_refl _))
    have F33 := Lib.hid (F22.out.below hb27 (Nat.le_refl _))
    have B34 := Lib.hid (B23.out.trans (hb27.mono B23.out.size))
    clear hb27
    have M35 := Lib.hid (T29.out.load)
    have C36 := Lib.hid (fewB_any b w26 F32.out)
    go_wp2_with (first | ((with_reducible refine wpList_load_by (o := ⟨some 26, .load 41 (.tmp 4), _, _, _, _⟩) ?e1 41 (.tmp 4) ?e2 ⟨(w.heap.size + 1), 0, none⟩ ?e3 _ M35.out ?_); (case e1 => rfl); (case e2 => rfl); (case e3 => rfl)))
    refine C36.out.mono ?_
    rintro e w37 ⟨rfl, hb38⟩
    have T39 := Lib.hid (T28.out.below hb38 T28.out.lt)
    have T40 := Lib.hid (T29.out.below hb38 T29.out.lt)
    have T41 := Lib.hid (T30.out.below hb38 T30.out.lt)
    have F42 := Lib.hid (F31.out.below hb38 (Nat.le_refl _))
    have F43 := Lib.hid (F32.out.below hb38 (Nat.le_refl _))
    have F44 := Lib.hid (F33.out.below hb38 (Nat.le_refl _))
    have B45 := Lib.hid (B34.out.trans (hb38.mono B34.out.size))
    clear hb38
    have M46 := Lib.hid (T41.out.load)
    have C47 := Lib.hid (fewB_any c w37 F44.out)
    go_wp2_with (first | ((with_reducible refine wpList_load_by (o := ⟨some 28, .load 41 (.tmp 5), _, _, _, _⟩) ?e1 41 (.tmp 5) ?e2 ⟨(w.heap.size + 1 + 1), 0, none⟩ ?e3 _ M46.out ?_); (case e1 => rfl); (case e2 => rfl); (case e3 => rfl)))
    refine C47.out.mono ?_
    rintro e w48 ⟨rfl, hb49⟩
    have T50 := Lib.hid (T39.out.below hb49 T39.out.lt)
    have T51 := Lib.hid (T40.out.below hb49 T40.out.lt)
    have T52 := Lib.hid (T41.out.below hb49 T41.out.lt)
    have F53 := Lib.hid (F42.out.below hb49 (Nat.le_refl _))
    have F54 := Lib.hid (F43.out.below hb49 (Nat.le_refl _))
    have F55 := Lib.hid (F44.out.below hb49 (Nat.le_refl _))
    have B56 := Lib.hid (B45.out.trans (hb49.mono B45.out.size))
    clear hb49
    go_wp2
    go_ret
    exact ⟨rfl, B56.out⟩
  · cases pb : fewB b.rs
    · have PA := Lib.hid pa
      have PB := Lib.hid pb
      clear pa pb h
      have B1 := Lib.hid (Below.refl w.heap.size w)
      have T2n := BoAt.new w (.slice a.A a.xs.length a.c)
      have T2 := Lib.hid T2n
      clear T2n
      have B3 := Lib.hid (B1.out.alloc B1.out.size (.cells #[(.slice a.A a.xs.length a.c)] 41))
      have T4 := Lib.hid (T2.out.old (.cells #[(.slice b.A b.xs.length b.c)] 41))
      have T5n := BoAt.new (w.alloc (.cells #[(.slice a.A a.xs.length a.c)] 41)) (.slice b.A b.xs.length b.c)
      simp only [World.size_alloc] at T5n
      have T5 := Lib.hid T5n
      clear T5n
      have B6 := Lib.hid (B3.out.alloc B3.out.size (.cells #[(.slice b.A b.xs.length b.c)] 41))
      have T7 := Lib.hid (T4.out.old (.cells #[(.slice c.A c.xs.length c.c)] 41))
      have T8 := Lib.hid (T5.out.old (.cells #[(.slice c.A c.xs.length c.c)] 41))
      have T9n := BoAt.new ((w.alloc (.cells #[(.slice a.A a.xs.length a.c)] 41)).alloc (.cells #[(.slice b.A b.xs.length b.c)] 41)) (.slice c.A c.xs.length c.c)
      simp only [World.size_alloc] at T9n
      have T9 := Lib.hid T9n
      clear T9n
      have B10 := Lib.hid (B6.out.alloc B6.out.size (.cells #[(.slice c.A c.xs.length c.c)] 41))
      have F11 := Lib.hid (Fa.out.below B10.out (Nat.le_refl _))
      have F12 := Lib.hid (Fb.out.below B10.out (Nat.le_refl _))
      have F13 := Lib.hid (Fc.out.below B10.out (Nat.le_refl _))
      go_enter Tryd.func4, Tryd.ntmps4
      have C14 := Lib.hid (bkAwake (((w.alloc (.cells #[(.slice a.A a.xs.length a.c)] 41)).alloc (.cells #[(.slice b.A b.xs.length b.c)] 41)).alloc (.cells #[(.slice c.A c.xs.length c.c)] 41)) (HLA.out _ B10.out))
      go_wp2_with fail
      refine C14.out.mono ?_
      rintro e w15 ⟨rfl, hb16⟩
      have T17 := Lib.hid (T7.out.below hb16 T7.out.lt)
      have T18 := Lib.hid (T8.out.below hb16 T8.out.lt)
      have T19 := Lib.hid (T9.out.below hb16 T9.out.lt)
      have F20 := Lib.hid (F11.out.below hb16 (Nat.le_refl _))
      have F21 := Lib.hid (F12.out.below hb16 (Nat.le_refl _))
      have F22 := Lib.hid (F13.out.below hb16 (Nat.le_refl _))
      have B23 := Lib.hid (B10.out.trans (hb16.mono B10.out.size))
      clear hb16
      have M24 := Lib.hid (T17.out.load)
      have C25 := Lib.hid (fewB_any a w15 F20.out)
      rw [PA.out] at C25
      go_wp2_with (first | ((with_reducible refine wpList_load_by (o := ⟨some 24, .load 41 (.tmp 3), _, _, _, _⟩) ?e1 41 (.tmp 3) ?e2 ⟨w.heap.size, 0, none⟩ ?e3 _ M24.out ?_); (case e1 => rfl); (case e2 => rfl); (case e3 => rfl)))
      refine C25.out.mono ?_
      rintro e w26 ⟨rfl, hb27⟩
      have T28 := Lib.hid (T17.out.below hb27 T17.out.lt)
      have T29 := Lib.hid (T18.out.below hb27 T18.out.lt)
      have T30 := Lib.hid (T19.out.below hb27 T19.out.lt)
      have F31 := Lib.hid (F20.out.below hb27 (Nat.le_refl _))
      have F32 := Lib.hid (F21.out.below hb27 (Nat.le_refl _))
      have F33 := Lib.hid (F22.out.below hb27 (Nat.le_refl _))
      have B34 := Lib.hid (B23.out.trans (hb27.mono B23.out.size))
      clear hb27
      have M35 := Lib.hid (T29.out.load)
      have C36 := Lib.hid (fewB_any b w26 F32.out)
      rw [PB.out] at C36
      go_wp2_with (first | ((with_reducible refine wpList_load_by (o := ⟨some 26, .load 41 (.tmp 4), _, _, _, _⟩) ?e1 41 (.tmp 4) ?e2 ⟨(w.heap.size + 1), 0, none⟩ ?e3 _ M35.out ?_); (case e1 => rfl); (case e2 => rfl); (case e3 => rfl)))
      refine C36.out.mono ?_
      rintro e w37 ⟨rfl, hb38⟩
      have T39 := Lib.hid (T28.out.below hb38 T28.out.lt)
      have T40 := Lib.hid (T29.out.below hb38 T29.out.lt)
      have T41 := Lib.hid (T30.out.below hb38 T30.out.lt)
      have F42 := Lib.hid (F31.out.below hb38 (Nat.le_refl _))
      have F43 := Lib.hid (F32.out.below hb38 (Nat.le_refl _))
      have F44 := Lib.hid (F33.out.below hb38 (Nat.le_refl _))
      have B45 := Lib.hid (B34.out.trans (hb38.mono B34.out.size))
      clear hb38
      have M46 := Lib.hid (T41.out.load)
      have C47 := Lib.hid (fewB_any c w37 F44.out)
      go_wp2_with (first | ((with_reducible refine wpList_load_by (o := ⟨some 28, .load 41 (.tmp 5), _, _, _, _⟩) ?e1 41 (.tmp 5) ?e2 ⟨(w.heap.size + 1 + 1), 0, none⟩ ?e3 _ M46.out ?_); (case e1 => rfl); (case e2 => rfl); (case e3 => rfl)))
      refine C47.out.mono ?_
      rintro e w48 ⟨rfl, hb49⟩
      have T50 := Lib.hid (T39.out.below hb49 T39.out.lt)
      have T51 := Lib.hid (T40.out.below hb49 T40.out.lt)
      have T52 := Lib.hid (T41.out.below hb49 T41.out.lt)
      have F53 := Lib.hid (F42.out.below hb49 (Nat.le_refl _))
      have F54 := Lib.hid (F43.out.below hb49 (Nat.le_refl _))
      have F55 := Lib.hid (F44.out.below hb49 (Nat.le_refl _))
      have B56 := Lib.hid (B45.out.trans (hb49.mono B45.out.size))
      clear hb49
      go_wp2
      go_ret
      exact ⟨rfl, B56.out⟩
    · rw [pa, pb] at h
      have PA := Lib.hid pa
      have PB := Lib.hid pb
      have PC := Lib.hid (show fewB c.rs = false by simpa using h)
      clear pa pb h
      have B1 := Lib.hid (Below.refl w.heap.size w)
      have T2n := BoAt.new w (.slice a.A a.xs.length a.c)
      have T2 := Lib.hid T2n
      clear T2n
      have B3 := Lib.hid (B1.out.alloc B1.out.size (.cells #[(.slice a.A a.xs.length a.c)] 41))
      have T4 := Lib.hid (T2.out.old (.cells #[(.slice b.A b.xs.length b.c)] 41))
      have T5n := BoAt.new (w.alloc (.cells #[(.slice a.A a.xs.length a.c)] 41)) (.slice b.A b.xs.length b.c)
      simp only [World.size_alloc] at T5n
      have T5 := Lib.hid T5n
      clear T5n
      have B6 := Lib.hid (B3.out.alloc B3.out.size (.cells #[(.slice b.A b.xs.length b.c)] 41))
      have T7 := Lib.hid (T4.out.old (.cells #[(.slice c.A c.xs.length c.c)] 41))
      have T8 := Lib.hid (T5.out.old (.cells #[(.slice c.A c.xs.length c.c)] 41))
      have T9n := BoAt.new ((w.alloc (.cells #[(.slice a.A a.xs.length a.c)] 41)).alloc (.cells #[(.slice b.A b.xs.length b.c)] 41)) (.slice c.A c.xs.length c.c)
      simp only [World.size_alloc] at T9n
      have T9 := Lib.hid T9n
      clear T9n
      have B10 := Lib.hid (B6.out.alloc B6.out.size (.cells #[(.slice c.A c.xs.length c.c)] 41))
      have F11 := Lib.hid (Fa.out.below B10.out (Nat.le_refl _))
      have F12 := Lib.hid (Fb.out.below B10.out (Nat.le_refl _))
      have F13 := Lib.hid (Fc.out.below B10.out (Nat.le_refl _))
      go_enter Tryd.func4, Tryd.ntmps4
      have C14 := Lib.hid (bkAwake (((w.alloc (.cells #[(.slice a.A a.xs.length a.c)] 41)).alloc (.cells #[(.slice b.A b.xs.length b.c)] 41)).alloc (.cells #[(.slice c.A c.xs.length c.c)] 41)) (HLA.out _ B10.out))
      go_wp2_with fail
      refine C14.out.mono ?_
      rintro e w15 ⟨rfl, hb16⟩
      have T17 := Lib.hid (T7.out.below hb16 T7.out.lt)
      have T18 := Lib.hid (T8.out.below hb16 T8.out.lt)
      have T19 := Lib.hid (T9.out.below hb16 T9.out.lt)
      have F20 := Lib.hid (F11.out.below hb16 (Nat.le_refl _))
      have F21 := Lib.hid (F12.out.below hb16 (Nat.le_refl _))
      have F22 := Lib.hid (F13.out.below hb16 (Nat.le_refl _))
      have B23 := Lib.hid (B10.out.trans (hb16.mono B10.out.size))
      clear hb16
      have M24 := Lib.hid (T17.out.load)
      have C25 := Lib.hid (fewB_any a w15 F20.out)
      rw [PA.out] at C25
      go_wp2_with (first | ((with_reducible refine wpList_load_by (o := ⟨some 24, .load 41 (.tmp 3), _, _, _, _⟩) ?e1 41 (.tmp 3) ?e2 ⟨w.heap.size, 0, none⟩ ?e3 _ M24.out ?_); (case e1 => rfl); (case e2 => rfl); (case e3 => rfl)))
      refine C25.out.mono ?_
      rintro e w26 ⟨rfl, hb27⟩
      have T28 := Lib.hid (T17.out.below hb27 T17.out.lt)
      have T29 := Lib.hid (T18.out.below hb27 T18.out.lt)
      have T30 := Lib.hid (T19.out.below hb27 T19.out.lt)
      have F31 := Lib.hid (F20.out.below hb27 (Nat.le_refl _))
      have F32 := Lib.hid (F21.out.below hb27 (Nat.le_refl _))
      have F33 := Lib.hid (F22.out.below hb27 (Nat.le_refl _))
      have B34 := Lib.hid (B23.out.trans (hb27.mono B23.out.size))
      clear hb27
      have M35 := Lib.hid (T29.out.load)
      have C36 := Lib.hid (fewB_any b w26 F32.out)
      rw [PB.out] at C36
      go_wp2_with (first | ((with_reducible refine wpList_load_by (o := ⟨some 26, .load 41 (.tmp 4), _, _, _, _⟩) ?e1 41 (.tmp 4) ?e2 ⟨(w.heap.size + 1), 0, none⟩ ?e3 _ M35.out ?_); (case e1 => rfl); (case e2 => rfl); (case e3 => rfl)))
      refine C36.out.mono ?_
      rintro e w37 ⟨rfl, hb38⟩
      have T39 := Lib.hid (T28.out.below hb38 T28.out.lt)
      have T40 := Lib.hid (T29.out.below hb38 T29.out.lt)
      have T41 := Lib.hid (T30.out.below hb38 T30.out.lt)
      have F42 := Lib.hid (F31.out.below hb38 (Nat.le_refl _))
      have F43 := Lib.hid (F32.out.below hb38 (Nat.le_refl _))
      have F44 := Lib.hid (F33.out.below hb38 (Nat.le_refl _))
      have B45 := Lib.hid (B34.out.trans (hb38.mono B34.out.size))
      clear hb38
      have M46 := Lib.hid (T41.out.load)
      have C47 := Lib.hid (fewB_any c w37 F44.out)
      rw [PC.out] at C47
      go_wp2_with (first | ((with_reducible refine wpList_load_by (o := ⟨some 28, .load 41 (.tmp 5), _, _, _, _⟩) ?e1 41 (.tmp 5) ?e2 ⟨(w.heap.size + 1 + 1), 0, none⟩ ?e3 _ M46.out ?_); (case e1 => rfl); (case e2 => rfl); (case e3 => rfl)))
      refine C47.out.mono ?_
      rintro e w48 ⟨rfl, hb49⟩
      have T50 := Lib.hid (T39.out.below hb49 T39.out.lt)
      have T51 := Lib.hid (T40.out.below hb49 T40.out.lt)
      have T52 := Lib.hid (T41.out.below hb49 T41.out.lt)
      have F53 := Lib.hid (F42.out.below hb49 (Nat.le_refl _))
      have F54 := Lib.hid (F43.out.below hb49 (Nat.le_refl _))
      have F55 := Lib.hid (F44.out.below hb49 (Nat.le_refl _))
      have B56 := Lib.hid (B45.out.trans (hb49.mono B45.out.size))
      clear hb49
      go_wp2
      go_ret
      exact ⟨rfl, B56.out⟩
set_option maxHeartbeats 16000000 in
theorem bjoins_may (a b c : Bk) (w : World) (hlaid : Laid w) (wa : BkAt w a) (wb : BkAt w b) (wc : BkAt w c) (p : (fewB a.rs && fewB b.rs && fewB c.rs) = true) (h : (bmay a.rs && bmay b.rs && bmay c.rs) = false) :
    Calls Tryd.prog 4 #[.agg #[.slice a.A a.xs.length a.c], .agg #[.slice b.A b.xs.length b.c], .agg #[.slice c.A c.xs.length c.c]] w fun e w' => e = .returned (.bool true) ∧ Below w.heap.size w w' := by
  have HLA := Lib.hid (fun (X : World) (hX : Below w.heap.size w X) => hlaid.below hX (Nat.le_refl _))
  have Fa := Lib.hid wa
  have Fb := Lib.hid wb
  have Fc := Lib.hid wc
  clear hlaid wa wb wc
  simp only [Bool.and_eq_true] at p
  have PA := Lib.hid p.1.1
  have PB := Lib.hid p.1.2
  have PC := Lib.hid p.2
  clear p
  cases ma : bmay a.rs
  · have MA := Lib.hid ma
    clear ma h
    have B1 := Lib.hid (Below.refl w.heap.size w)
    have T2n := BoAt.new w (.slice a.A a.xs.length a.c)
    have T2 := Lib.hid T2n
    clear T2n
    have B3 := Lib.hid (B1.out.alloc B1.out.size (.cells #[(.slice a.A a.xs.length a.c)] 41))
    have T4 := Lib.hid (T2.out.old (.cells #[(.slice b.A b.xs.length b.c)] 41))
    have T5n := BoAt.new (w.alloc (.cells #[(.slice a.A a.xs.length a.c)] 41)) (.slice b.A b.xs.length b.c)
    simp only [World.size_alloc] at T5n
    have T5 := Lib.hid T5n
    clear T5n
    have B6 := Lib.hid (B3.out.alloc B3.out.size (.cells #[(.slice b.A b.xs.length b.c)] 41))
    have T7 := Lib.hid (T4.out.old (.cells #[(.slice c.A c.xs.length c.c)] 41))
    have T8 := Lib.hid (T5.out.old (.cells #[(.slice c.A c.xs.length c.c)] 41))
    have T9n := BoAt.new ((w.alloc (.cells #[(.slice a.A a.xs.length a.c)] 41)).alloc (.cells #[(.slice b.A b.xs.length b.c)] 41)) (.slice c.A c.xs.length c.c)
    simp only [World.size_alloc] at T9n
    have T9 := Lib.hid T9n
    clear T9n
    have B10 := Lib.hid (B6.out.alloc B6.out.size (.cells #[(.slice c.A c.xs.length c.c)] 41))
    have F11 := Lib.hid (Fa.out.below B10.out (Nat.le_refl _))
    have F12 := Lib.hid (Fb.out.below B10.out (Nat.le_refl _))
    have F13 := Lib.hid (Fc.out.below B10.out (Nat.le_refl _))
    go_enter Tryd.func4, Tryd.ntmps4
    have C14 := Lib.hid (bkAwake (((w.alloc (.cells #[(.slice a.A a.xs.length a.c)] 41)).alloc (.cells #[(.slice b.A b.xs.length b.c)] 41)).alloc (.cells #[(.slice c.A c.xs.length c.c)] 41)) (HLA.out _ B10.out))
    go_wp2_with fail
    refine C14.out.mono ?_
    rintro e w15 ⟨rfl, hb16⟩
    have T17 := Lib.hid (T7.out.below hb16 T7.out.lt)
    have T18 := Lib.hid (T8.out.below hb16 T8.out.lt)
    have T19 := Lib.hid (T9.out.below hb16 T9.out.lt)
    have F20 := Lib.hid (F11.out.below hb16 (Nat.le_refl _))
    have F21 := Lib.hid (F12.out.below hb16 (Nat.le_refl _))
    have F22 := Lib.hid (F13.out.below hb16 (Nat.le_refl _))
    have B23 := Lib.hid (B10.out.trans (hb16.mono B10.out.size))
    clear hb16
    have M24 := Lib.hid (T17.out.load)
    have C25 := Lib.hid (fewB_any a w15 F20.out)
    rw [PA.out] at C25
    go_wp2_with (first | ((with_reducible refine wpList_load_by (o := ⟨some 24, .load 41 (.tmp 3), _, _, _, _⟩) ?e1 41 (.tmp 3) ?e2 ⟨w.heap.size, 0, none⟩ ?e3 _ M24.out ?_); (case e1 => rfl); (case e2 => rfl); (case e3 => rfl)))
    refine C25.out.mono ?_
    rintro e w26 ⟨rfl, hb27⟩
    have T28 := Lib.hid (T17.out.below hb27 T17.out.lt)
    have T29 := Lib.hid (T18.out.below hb27 T18.out.lt)
    have T30 := Lib.hid (T19.out.below hb27 T19.out.lt)
    have F31 := Lib.hid (F20.out.below hb27 (Nat.le_refl _))
    have F32 := Lib.hid (F21.out.below hb27 (Nat.le_refl _))
    have F33 := Lib.hid (F22.out.below hb27 (Nat.le_refl _))
    have B34 := Lib.hid (B23.out.trans (hb27.mono B23.out.size))
    clear hb27
    have M35 := Lib.hid (T29.out.load)
    have C36 := Lib.hid (fewB_any b w26 F32.out)
    rw [PB.out] at C36
    go_wp2_with (first | ((with_reducible refine wpList_load_by (o := ⟨some 26, .load 41 (.tmp 4), _, _, _, _⟩) ?e1 41 (.tmp 4) ?e2 ⟨(w.heap.size + 1), 0, none⟩ ?e3 _ M35.out ?_); (case e1 => rfl); (case e2 => rfl); (case e3 => rfl)))
    refine C36.out.mono ?_
    rintro e w37 ⟨rfl, hb38⟩
    have T39 := Lib.hid (T28.out.below hb38 T28.out.lt)
    have T40 := Lib.hid (T29.out.below hb38 T29.out.lt)
    have T41 := Lib.hid (T30.out.below hb38 T30.out.lt)
    have F42 := Lib.hid (F31.out.below hb38 (Nat.le_refl _))
    have F43 := Lib.hid (F32.out.below hb38 (Nat.le_refl _))
    have F44 := Lib.hid (F33.out.below hb38 (Nat.le_refl _))
    have B45 := Lib.hid (B34.out.trans (hb38.mono B34.out.size))
    clear hb38
    have M46 := Lib.hid (T41.out.load)
    have C47 := Lib.hid (fewB_any c w37 F44.out)
    rw [PC.out] at C47
    go_wp2_with (first | ((with_reducible refine wpList_load_by (o := ⟨some 28, .load 41 (.tmp 5), _, _, _, _⟩) ?e1 41 (.tmp 5) ?e2 ⟨(w.heap.size + 1 + 1), 0, none⟩ ?e3 _ M46.out ?_); (case e1 => rfl); (case e2 => rfl); (case e3 => rfl)))
    refine C47.out.mono ?_
    rintro e w48 ⟨rfl, hb49⟩
    have T50 := Lib.hid (T39.out.below hb49 T39.out.lt)
    have T51 := Lib.hid (T40.out.below hb49 T40.out.lt)
    have T52 := Lib.hid (T41.out.below hb49 T41.out.lt)
    have F53 := Lib.hid (F42.out.below hb49 (Nat.le_refl _))
    have F54 := Lib.hid (F43.out.below hb49 (Nat.le_refl _))
    have F55 := Lib.hid (F44.out.below hb49 (Nat.le_refl _))
    have B56 := Lib.hid (B45.out.trans (hb49.mono B45.out.size))
    clear hb49
    have M57 := Lib.hid (T50.out.load)
    have C58 := Lib.hid (bmay_any a w48 F53.out)
    rw [MA.out] at C58
    go_wp2_with (first | ((with_reducible refine wpList_load_by (o := ⟨some 45, .load 41 (.tmp 3), _, _, _, _⟩) ?e1 41 (.tmp 3) ?e2 ⟨w.heap.size, 0, none⟩ ?e3 _ M57.out ?_); (case e1 => rfl); (case e2 => rfl); (case e3 => rfl)))
    refine C58.out.mono ?_
    rintro e w59 ⟨rfl, hb60⟩
    have T61 := Lib.hid (T50.out.below hb60 T50.out.lt)
    have T62 := Lib.hid (T51.out.below hb60 T51.out.lt)
    have T63 := Lib.hid (T52.out.below hb60 T52.out.lt)
    have F64 := Lib.hid (F53.out.below hb60 (Nat.le_refl _))
    have F65 := Lib.hid (F54.out.below hb60 (Nat.le_refl _))
    have F66 := Lib.hid (F55.out.below hb60 (Nat.le_refl _))
    have B67 := Lib.hid (B56.out.trans (hb60.mono B56.out.size))
    clear hb60
    go_wp2
    go_ret
    exact ⟨rfl, B67.out⟩
  · cases mb : bmay b.rs
    · have MA := Lib.hid ma
      have MB := Lib.hid mb
      clear ma mb h
      have B1 := Lib.hid (Below.refl w.heap.size w)
      have T2n := BoAt.new w (.slice a.A a.xs.length a.c)
      have T2 := Lib.hid T2n
      clear T2n
      have B3 := Lib.hid (B1.out.alloc B1.out.size (.cells #[(.slice a.A a.xs.length a.c)] 41))
      have T4 := Lib.hid (T2.out.old (.cells #[(.slice b.A b.xs.length b.c)] 41))
      have T5n := BoAt.new (w.alloc (.cells #[(.slice a.A a.xs.length a.c)] 41)) (.slice b.A b.xs.length b.c)
      simp only [World.size_alloc] at T5n
      have T5 := Lib.hid T5n
      clear T5n
      have B6 := Lib.hid (B3.out.alloc B3.out.size (.cells #[(.slice b.A b.xs.length b.c)] 41))
      have T7 := Lib.hid (T4.out.old (.cells #[(.slice c.A c.xs.length c.c)] 41))
      have T8 := Lib.hid (T5.out.old (.cells #[(.slice c.A c.xs.length c.c)] 41))
      have T9n := BoAt.new ((w.alloc (.cells #[(.slice a.A a.xs.length a.c)] 41)).alloc (.cells #[(.slice b.A b.xs.length b.c)] 41)) (.slice c.A c.xs.length c.c)
      simp only [World.size_alloc] at T9n
      have T9 := Lib.hid T9n
      clear T9n
      have B10 := Lib.hid (B6.out.alloc B6.out.size (.cells #[(.slice c.A c.xs.length c.c)] 41))
      have F11 := Lib.hid (Fa.out.below B10.out (Nat.le_refl _))
      have F12 := Lib.hid (Fb.out.below B10.out (Nat.le_refl _))
      have F13 := Lib.hid (Fc.out.below B10.out (Nat.le_refl _))
      go_enter Tryd.func4, Tryd.ntmps4
      have C14 := Lib.hid (bkAwake (((w.alloc (.cells #[(.slice a.A a.xs.length a.c)] 41)).alloc (.cells #[(.slice b.A b.xs.length b.c)] 41)).alloc (.cells #[(.slice c.A c.xs.length c.c)] 41)) (HLA.out _ B10.out))
      go_wp2_with fail
      refine C14.out.mono ?_
      rintro e w15 ⟨rfl, hb16⟩
      have T17 := Lib.hid (T7.out.below hb16 T7.out.lt)
      have T18 := Lib.hid (T8.out.below hb16 T8.out.lt)
      have T19 := Lib.hid (T9.out.below hb16 T9.out.lt)
      have F20 := Lib.hid (F11.out.below hb16 (Nat.le_refl _))
      have F21 := Lib.hid (F12.out.below hb16 (Nat.le_refl _))
      have F22 := Lib.hid (F13.out.below hb16 (Nat.le_refl _))
      have B23 := Lib.hid (B10.out.trans (hb16.mono B10.out.size))
      clear hb16
      have M24 := Lib.hid (T17.out.load)
      have C25 := Lib.hid (fewB_any a w15 F20.out)
      rw [PA.out] at C25
      go_wp2_with (first | ((with_reducible refine wpList_load_by (o := ⟨some 24, .load 41 (.tmp 3), _, _, _, _⟩) ?e1 41 (.tmp 3) ?e2 ⟨w.heap.size, 0, none⟩ ?e3 _ M24.out ?_); (case e1 => rfl); (case e2 => rfl); (case e3 => rfl)))
      refine C25.out.mono ?_
      rintro e w26 ⟨rfl, hb27⟩
      have T28 := Lib.hid (T17.out.below hb27 T17.out.lt)
      have T29 := Lib.hid (T18.out.below hb27 T18.out.lt)
      have T30 := Lib.hid (T19.out.below hb27 T19.out.lt)
      have F31 := Lib.hid (F20.out.below hb27 (Nat.le_refl _))
      have F32 := Lib.hid (F21.out.below hb27 (Nat.le_refl _))
      have F33 := Lib.hid (F22.out.below hb27 (Nat.le_refl _))
      have B34 := Lib.hid (B23.out.trans (hb27.mono B23.out.size))
      clear hb27
      have M35 := Lib.hid (T29.out.load)
      have C36 := Lib.hid (fewB_any b w26 F32.out)
      rw [PB.out] at C36
      go_wp2_with (first | ((with_reducible refine wpList_load_by (o := ⟨some 26, .load 41 (.tmp 4), _, _, _, _⟩) ?e1 41 (.tmp 4) ?e2 ⟨(w.heap.size + 1), 0, none⟩ ?e3 _ M35.out ?_); (case e1 => rfl); (case e2 => rfl); (case e3 => rfl)))
      refine C36.out.mono ?_
      rintro e w37 ⟨rfl, hb38⟩
      have T39 := Lib.hid (T28.out.below hb38 T28.out.lt)
      have T40 := Lib.hid (T29.out.below hb38 T29.out.lt)
      have T41 := Lib.hid (T30.out.below hb38 T30.out.lt)
      have F42 := Lib.hid (F31.out.below hb38 (Nat.le_refl _))
      have F43 := Lib.hid (F32.out.below hb38 (Nat.le_refl _))
      have F44 := Lib.hid (F33.out.below hb38 (Nat.le_refl _))
      have B45 := Lib.hid (B34.out.trans (hb38.mono B34.out.size))
      clear hb38
      have M46 := Lib.hid (T41.out.load)
      have C47 := Lib.hid (fewB_any c w37 F44.out)
      rw [PC.out] at C47
      go_wp2_with (first | ((with_reducible refine wpList_load_by (o := ⟨some 28, .load 41 (.tmp 5), _, _, _, _⟩) ?e1 41 (.tmp 5) ?e2 ⟨(w.heap.size + 1 + 1), 0, none⟩ ?e3 _ M46.out ?_); (case e1 => rfl); (case e2 => rfl); (case e3 => rfl)))
      refine C47.out.mono ?_
      rintro e w48 ⟨rfl, hb49⟩
      have T50 := Lib.hid (T39.out.below hb49 T39.out.lt)
      have T51 := Lib.hid (T40.out.below hb49 T40.out.lt)
      have T52 := Lib.hid (T41.out.below hb49 T41.out.lt)
      have F53 := Lib.hid (F42.out.below hb49 (Nat.le_refl _))
      have F54 := Lib.hid (F43.out.below hb49 (Nat.le_refl _))
      have F55 := Lib.hid (F44.out.below hb49 (Nat.le_refl _))
      have B56 := Lib.hid (B45.out.trans (hb49.mono B45.out.size))
      clear hb49
      have M57 := Lib.hid (T50.out.load)
      have C58 := Lib.hid (bmay_any a w48 F53.out)
      rw [MA.out] at C58
      go_wp2_with (first | ((with_reducible refine wpList_load_by (o := ⟨some 45, .load 41 (.tmp 3), _, _, _, _⟩) ?e1 41 (.tmp 3) ?e2 ⟨w.heap.size, 0, none⟩ ?e3 _ M57.out ?_); (case e1 => rfl); (case e2 => rfl); (case e3 => rfl)))
      refine C58.out.mono ?_
      rintro e w59 ⟨rfl, hb60⟩
      have T61 := Lib.hid (T50.out.below hb60 T50.out.lt)
      have T62 := Lib.hid (T51.out.below hb60 T51.out.lt)
      have T63 := Lib.hid (T52.out.below hb60 T52.out.lt)
      have F64 := Lib.hid (F53.out.below hb60 (Nat.le_refl _))
      have F65 := Lib.hid (F54.out.below hb60 (Nat.le_refl _))
      have F66 := Lib.hid (F55.out.below hb60 (Nat.le_refl _))
      have B67 := Lib.hid (B56.out.trans (hb60.mono B56.out.size))
      clear hb60
      have M68 := Lib.hid (T62.out.load)
      have C69 := Lib.hid (bmay_any b w59 F65.out)
      rw [MB.out] at C69
      go_wp2_with (first | ((with_reducible refine wpList_load_by (o := ⟨some 50, .load 41 (.tmp 4), _, _, _, _⟩) ?e1 41 (.tmp 4) ?e2 ⟨(w.heap.size + 1), 0, none⟩ ?e3 _ M68.out ?_); (case e1 => rfl); (case e2 => rfl); (case e3 => rfl)))
      refine C69.out.mono ?_
      rintro e w70 ⟨rfl, hb71⟩
      have T72 := Lib.hid (T61.out.below hb71 T61.out.lt)
      have T73 := Lib.hid (T62.out.below hb71 T62.out.lt)
      have T74 := Lib.hid (T63.out.below hb71 T63.out.lt)
      have F75 := Lib.hid (F64.out.below hb71 (Nat.le_refl _))
      have F76 := Lib.hid (F65.out.below hb71 (Nat.le_refl _))
      have F77 := Lib.hid (F66.out.below hb71 (Nat.le_refl _))
      have B78 := Lib.hid (B67.out.trans (hb71.mono B67.out.size))
      clear hb71
      go_wp2
      go_ret
      exact ⟨rfl, B78.out⟩
    · rw [ma, mb] at h
      have MA := Lib.hid ma
      have MB := Lib.hid mb
      have MC := Lib.hid (show bmay c.rs = false by simpa using h)
      clear ma mb h
      have B1 := Lib.hid (Below.refl w.heap.size w)
      have T2n := BoAt.new w (.slice a.A a.xs.length a.c)
      have T2 := Lib.hid T2n
      clear T2n
      have B3 := Lib.hid (B1.out.alloc B1.out.size (.cells #[(.slice a.A a.xs.length a.c)] 41))
      have T4 := Lib.hid (T2.out.old (.cells #[(.slice b.A b.xs.length b.c)] 41))
      have T5n := BoAt.new (w.alloc (.cells #[(.slice a.A a.xs.length a.c)] 41)) (.slice b.A b.xs.length b.c)
      simp only [World.size_alloc] at T5n
      have T5 := Lib.hid T5n
      clear T5n
      have B6 := Lib.hid (B3.out.alloc B3.out.size (.cells #[(.slice b.A b.xs.length b.c)] 41))
      have T7 := Lib.hid (T4.out.old (.cells #[(.slice c.A c.xs.length c.c)] 41))
      have T8 := Lib.hid (T5.out.old (.cells #[(.slice c.A c.xs.length c.c)] 41))
      have T9n := BoAt.new ((w.alloc (.cells #[(.slice a.A a.xs.length a.c)] 41)).alloc (.cells #[(.slice b.A b.xs.length b.c)] 41)) (.slice c.A c.xs.length c.c)
      simp only [World.size_alloc] at T9n
      have T9 := Lib.hid T9n
      clear T9n
      have B10 := Lib.hid (B6.out.alloc B6.out.size (.cells #[(.slice c.A c.xs.length c.c)] 41))
      have F11 := Lib.hid (Fa.out.below B10.out (Nat.le_refl _))
      have F12 := Lib.hid (Fb.out.below B10.out (Nat.le_refl _))
      have F13 := Lib.hid (Fc.out.below B10.out (Nat.le_refl _))
      go_enter Tryd.func4, Tryd.ntmps4
      have C14 := Lib.hid (bkAwake (((w.alloc (.cells #[(.slice a.A a.xs.length a.c)] 41)).alloc (.cells #[(.slice b.A b.xs.length b.c)] 41)).alloc (.cells #[(.slice c.A c.xs.length c.c)] 41)) (HLA.out _ B10.out))
      go_wp2_with fail
      refine C14.out.mono ?_
      rintro e w15 ⟨rfl, hb16⟩
      have T17 := Lib.hid (T7.out.below hb16 T7.out.lt)
      have T18 := Lib.hid (T8.out.below hb16 T8.out.lt)
      have T19 := Lib.hid (T9.out.below hb16 T9.out.lt)
      have F20 := Lib.hid (F11.out.below hb16 (Nat.le_refl _))
      have F21 := Lib.hid (F12.out.below hb16 (Nat.le_refl _))
      have F22 := Lib.hid (F13.out.below hb16 (Nat.le_refl _))
      have B23 := Lib.hid (B10.out.trans (hb16.mono B10.out.size))
      clear hb16
      have M24 := Lib.hid (T17.out.load)
      have C25 := Lib.hid (fewB_any a w15 F20.out)
      rw [PA.out] at C25
      go_wp2_with (first | ((with_reducible refine wpList_load_by (o := ⟨some 24, .load 41 (.tmp 3), _, _, _, _⟩) ?e1 41 (.tmp 3) ?e2 ⟨w.heap.size, 0, none⟩ ?e3 _ M24.out ?_); (case e1 => rfl); (case e2 => rfl); (case e3 => rfl)))
      refine C25.out.mono ?_
      rintro e w26 ⟨rfl, hb27⟩
      have T28 := Lib.hid (T17.out.below hb27 T17.out.lt)
      have T29 := Lib.hid (T18.out.below hb27 T18.out.lt)
      have T30 := Lib.hid (T19.out.below hb27 T19.out.lt)
      have F31 := Lib.hid (F20.out.below hb27 (Nat.le_refl _))
      have F32 := Lib.hid (F21.out.below hb27 (Nat.le_refl _))
      have F33 := Lib.hid (F22.out.below hb27 (Nat.le_refl _))
      have B34 := Lib.hid (B23.out.trans (hb27.mono B23.out.size))
      clear hb27
      have M35 := Lib.hid (T29.out.load)
      have C36 := Lib.hid (fewB_any b w26 F32.out)
      rw [PB.out] at C36
      go_wp2_with (first | ((with_reducible refine wpList_load_by (o := ⟨some 26, .load 41 (.tmp 4), _, _, _, _⟩) ?e1 41 (.tmp 4) ?e2 ⟨(w.heap.size + 1), 0, none⟩ ?e3 _ M35.out ?_); (case e1 => rfl); (case e2 => rfl); (case e3 => rfl)))
      refine C36.out.mono ?_
      rintro e w37 ⟨rfl, hb38⟩
      have T39 := Lib.hid (T28.out.below hb38 T28.out.lt)
      have T40 := Lib.hid (T29.out.below hb38 T29.out.lt)
      have T41 := Lib.hid (T30.out.below hb38 T30.out.lt)
      have F42 := Lib.hid (F31.out.below hb38 (Nat.le_refl _))
      have F43 := Lib.hid (F32.out.below hb38 (Nat.le_refl _))
      have F44 := Lib.hid (F33.out.below hb38 (Nat.le_refl _))
      have B45 := Lib.hid (B34.out.trans (hb38.mono B34.out.size))
      clear hb38
      have M46 := Lib.hid (T41.out.load)
      have C47 := Lib.hid (fewB_any c w37 F44.out)
      rw [PC.out] at C47
      go_wp2_with (first | ((with_reducible refine wpList_load_by (o := ⟨some 28, .load 41 (.tmp 5), _, _, _, _⟩) ?e1 41 (.tmp 5) ?e2 ⟨(w.heap.size + 1 + 1), 0, none⟩ ?e3 _ M46.out ?_); (case e1 => rfl); (case e2 => rfl); (case e3 => rfl)))
      refine C47.out.mono ?_
      rintro e w48 ⟨rfl, hb49⟩
      have T50 := Lib.hid (T39.out.below hb49 T39.out.lt)
      have T51 := Lib.hid (T40.out.below hb49 T40.out.lt)
      have T52 := Lib.hid (T41.out.below hb49 T41.out.lt)
      have F53 := Lib.hid (F42.out.below hb49 (Nat.le_refl _))
      have F54 := Lib.hid (F43.out.below hb49 (Nat.le_refl _))
      have F55 := Lib.hid (F44.out.below hb49 (Nat.le_refl _))
      have B56 := Lib.hid (B45.out.trans (hb49.mono B45.out.size))
      clear hb49
      have M57 := Lib.hid (T50.out.load)
      have C58 := Lib.hid (bmay_any a w48 F53.out)
      rw [MA.out] at C58
      go_wp2_with (first | ((with_reducible refine wpList_load_by (o := ⟨some 45, .load 41 (.tmp 3), _, _, _, _⟩) ?e1 41 (.tmp 3) ?e2 ⟨w.heap.size, 0, none⟩ ?e3 _ M57.out ?_); (case e1 => rfl); (case e2 => rfl); (case e3 => rfl)))
      refine C58.out.mono ?_
      rintro e w59 ⟨rfl, hb60⟩
      have T61 := Lib.hid (T50.out.below hb60 T50.out.lt)
      have T62 := Lib.hid (T51.out.below hb60 T51.out.lt)
      have T63 := Lib.hid (T52.out.below hb60 T52.out.lt)
      have F64 := Lib.hid (F53.out.below hb60 (Nat.le_refl _))
      have F65 := Lib.hid (F54.out.below hb60 (Nat.le_refl _))
      have F66 := Lib.hid (F55.out.below hb60 (Nat.le_refl _))
      have B67 := Lib.hid (B56.out.trans (hb60.mono B56.out.size))
      clear hb60
      have M68 := Lib.hid (T62.out.load)
      have C69 := Lib.hid (bmay_any b w59 F65.out)
      rw [MB.out] at C69
      go_wp2_with (first | ((with_reducible refine wpList_load_by (o := ⟨some 50, .load 41 (.tmp 4), _, _, _, _⟩) ?e1 41 (.tmp 4) ?e2 ⟨(w.heap.size + 1), 0, none⟩ ?e3 _ M68.out ?_); (case e1 => rfl); (case e2 => rfl); (case e3 => rfl)))
      refine C69.out.mono ?_
      rintro e w70 ⟨rfl, hb71⟩
      have T72 := Lib.hid (T61.out.below hb71 T61.out.lt)
      have T73 := Lib.hid (T62.out.below hb71 T62.out.lt)
      have T74 := Lib.hid (T63.out.below hb71 T63.out.lt)
      have F75 := Lib.hid (F64.out.below hb71 (Nat.le_refl _))
      have F76 := Lib.hid (F65.out.below hb71 (Nat.le_refl _))
      have F77 := Lib.hid (F66.out.below hb71 (Nat.le_refl _))
      have B78 := Lib.hid (B67.out.trans (hb71.mono B67.out.size))
      clear hb71
      have M79 := Lib.hid (T74.out.load)
      have C80 := Lib.hid (bmay_any c w70 F77.out)
      rw [MC.out] at C80
      go_wp2_with (first | ((with_reducible refine wpList_load_by (o := ⟨some 55, .load 41 (.tmp 5), _, _, _, _⟩) ?e1 41 (.tmp 5) ?e2 ⟨(w.heap.size + 1 + 1), 0, none⟩ ?e3 _ M79.out ?_); (case e1 => rfl); (case e2 => rfl); (case e3 => rfl)))
      refine C80.out.mono ?_
      rintro e w81 ⟨rfl, hb82⟩
      have T83 := Lib.hid (T72.out.below hb82 T72.out.lt)
      have T84 := Lib.hid (T73.out.below hb82 T73.out.lt)
      have T85 := Lib.hid (T74.out.below hb82 T74.out.lt)
      have F86 := Lib.hid (F75.out.below hb82 (Nat.le_refl _))
      have F87 := Lib.hid (F76.out.below hb82 (Nat.le_refl _))
      have F88 := Lib.hid (F77.out.below hb82 (Nat.le_refl _))
      have B89 := Lib.hid (B78.out.trans (hb82.mono B78.out.size))
      clear hb82
      go_wp2
      go_ret
      exact ⟨rfl, B89.out⟩
set_option maxHeartbeats 16000000 in
theorem bjoins_40 (a b c : Bk) (w : World) (hlaid : Laid w) (wa : BkAt w a) (wb : BkAt w b) (wc : BkAt w c) (p : (fewB a.rs && fewB b.rs && fewB c.rs) = true) (X Z V : List Rc) (iMA : bmay a.rs = true) (iMB : bmay b.rs = true) (iMC : bmay c.rs = true) (iJX : bjE a.rs b.rs = (4, X)) (iJY : bjE b.rs a.rs = (4, X)) (iJZ : bjE b.rs c.rs = (0, Z)) (iJO : bjE a.rs a.rs = (0, a.rs)) (iSX : bsame X X = true) (iSA : bsame a.rs a.rs = true) :
    Calls Tryd.prog 4 #[.agg #[.slice a.A a.xs.length a.c], .agg #[.slice b.A b.xs.length b.c], .agg #[.slice c.A c.xs.length c.c]] w fun e w' => e = .returned (.bool true) ∧ Below w.heap.size w w' := by
  have HLA := Lib.hid (fun (X : World) (hX : Below w.heap.size w X) => hlaid.below hX (Nat.le_refl _))
  have Fa := Lib.hid wa
  have Fb := Lib.hid wb
  have Fc := Lib.hid wc
  clear hlaid wa wb wc
  simp only [Bool.and_eq_true] at p
  have PA := Lib.hid p.1.1
  have PB := Lib.hid p.1.2
  have PC := Lib.hid p.2
  clear p
  have MA := Lib.hid iMA
  have MB := Lib.hid iMB
  have MC := Lib.hid iMC
  have JX := Lib.hid iJX
  have JY := Lib.hid iJY
  have JZ := Lib.hid iJZ
  have JO := Lib.hid iJO
  have SX := Lib.hid iSX
  have SA := Lib.hid iSA
  clear iMA iMB iMC iJX iJY iJZ iJO iSX iSA
  have B1 := Lib.hid (Below.refl w.heap.size w)
  have T2n := BoAt.new w (.slice a.A a.xs.length a.c)
  have T2 := Lib.hid T2n
  clear T2n
  have B3 := Lib.hid (B1.out.alloc B1.out.size (.cells #[(.slice a.A a.xs.length a.c)] 41))
  have T4 := Lib.hid (T2.out.old (.cells #[(.slice b.A b.xs.length b.c)] 41))
  have T5n := BoAt.new (w.alloc (.cells #[(.slice a.A a.xs.length a.c)] 41)) (.slice b.A b.xs.length b.c)
  simp only [World.size_alloc] at T5n
  have T5 := Lib.hid T5n
  clear T5n
  have B6 := Lib.hid (B3.out.alloc B3.out.size (.cells #[(.slice b.A b.xs.length b.c)] 41))
  have T7 := Lib.hid (T4.out.old (.cells #[(.slice c.A c.xs.length c.c)] 41))
  have T8 := Lib.hid (T5.out.old (.cells #[(.slice c.A c.xs.length c.c)] 41))
  have T9n := BoAt.new ((w.alloc (.cells #[(.slice a.A a.xs.length a.c)] 41)).alloc (.cells #[(.slice b.A b.xs.length b.c)] 41)) (.slice c.A c.xs.length c.c)
  simp only [World.size_alloc] at T9n
  have T9 := Lib.hid T9n
  clear T9n
  have B10 := Lib.hid (B6.out.alloc B6.out.size (.cells #[(.slice c.A c.xs.length c.c)] 41))
  have F11 := Lib.hid (Fa.out.below B10.out (Nat.le_refl _))
  have F12 := Lib.hid (Fb.out.below B10.out (Nat.le_refl _))
  have F13 := Lib.hid (Fc.out.below B10.out (Nat.le_refl _))
  go_enter Tryd.func4, Tryd.ntmps4
  have C14 := Lib.hid (bkAwake (((w.alloc (.cells #[(.slice a.A a.xs.length a.c)] 41)).alloc (.cells #[(.slice b.A b.xs.length b.c)] 41)).alloc (.cells #[(.slice c.A c.xs.length c.c)] 41)) (HLA.out _ B10.out))
  go_wp2_with fail
  refine C14.out.mono ?_
  rintro e w15 ⟨rfl, hb16⟩
  have T17 := Lib.hid (T7.out.below hb16 T7.out.lt)
  have T18 := Lib.hid (T8.out.below hb16 T8.out.lt)
  have T19 := Lib.hid (T9.out.below hb16 T9.out.lt)
  have F20 := Lib.hid (F11.out.below hb16 (Nat.le_refl _))
  have F21 := Lib.hid (F12.out.below hb16 (Nat.le_refl _))
  have F22 := Lib.hid (F13.out.below hb16 (Nat.le_refl _))
  have B23 := Lib.hid (B10.out.trans (hb16.mono B10.out.size))
  clear hb16
  have M24 := Lib.hid (T17.out.load)
  have C25 := Lib.hid (fewB_any a w15 F20.out)
  rw [PA.out] at C25
  go_wp2_with (first | ((with_reducible refine wpList_load_by (o := ⟨some 24, .load 41 (.tmp 3), _, _, _, _⟩) ?e1 41 (.tmp 3) ?e2 ⟨w.heap.size, 0, none⟩ ?e3 _ M24.out ?_); (case e1 => rfl); (case e2 => rfl); (case e3 => rfl)))
  refine C25.out.mono ?_
  rintro e w26 ⟨rfl, hb27⟩
  have T28 := Lib.hid (T17.out.below hb27 T17.out.lt)
  have T29 := Lib.hid (T18.out.below hb27 T18.out.lt)
  have T30 := Lib.hid (T19.out.below hb27 T19.out.lt)
  have F31 := Lib.hid (F20.out.below hb27 (Nat.le_refl _))
  have F32 := Lib.hid (F21.out.below hb27 (Nat.le_refl _))
  have F33 := Lib.hid (F22.out.below hb27 (Nat.le_refl _))
  have B34 := Lib.hid (B23.out.trans (hb27.mono B23.out.size))
  clear hb27
  have M35 := Lib.hid (T29.out.load)
  have C36 := Lib.hid (fewB_any b w26 F32.out)
  rw [PB.out] at C36
  go_wp2_with (first | ((with_reducible refine wpList_load_by (o := ⟨some 26, .load 41 (.tmp 4), _, _, _, _⟩) ?e1 41 (.tmp 4) ?e2 ⟨(w.heap.size + 1), 0, none⟩ ?e3 _ M35.out ?_); (case e1 => rfl); (case e2 => rfl); (case e3 => rfl)))
  refine C36.out.mono ?_
  rintro e w37 ⟨rfl, hb38⟩
  have T39 := Lib.hid (T28.out.below hb38 T28.out.lt)
  have T40 := Lib.hid (T29.out.below hb38 T29.out.lt)
  have T41 := Lib.hid (T30.out.below hb38 T30.out.lt)
  have F42 := Lib.hid (F31.out.below hb38 (Nat.le_refl _))
  have F43 := Lib.hid (F32.out.below hb38 (Nat.le_refl _))
  have F44 := Lib.hid (F33.out.below hb38 (Nat.le_refl _))
  have B45 := Lib.hid (B34.out.trans (hb38.mono B34.out.size))
  clear hb38
  have M46 := Lib.hid (T41.out.load)
  have C47 := Lib.hid (fewB_any c w37 F44.out)
  rw [PC.out] at C47
  go_wp2_with (first | ((with_reducible refine wpList_load_by (o := ⟨some 28, .load 41 (.tmp 5), _, _, _, _⟩) ?e1 41 (.tmp 5) ?e2 ⟨(w.heap.size + 1 + 1), 0, none⟩ ?e3 _ M46.out ?_); (case e1 => rfl); (case e2 => rfl); (case e3 => rfl)))
  refine C47.out.mono ?_
  rintro e w48 ⟨rfl, hb49⟩
  have T50 := Lib.hid (T39.out.below hb49 T39.out.lt)
  have T51 := Lib.hid (T40.out.below hb49 T40.out.lt)
  have T52 := Lib.hid (T41.out.below hb49 T41.out.lt)
  have F53 := Lib.hid (F42.out.below hb49 (Nat.le_refl _))
  have F54 := Lib.hid (F43.out.below hb49 (Nat.le_refl _))
  have F55 := Lib.hid (F44.out.below hb49 (Nat.le_refl _))
  have B56 := Lib.hid (B45.out.trans (hb49.mono B45.out.size))
  clear hb49
  have M57 := Lib.hid (T50.out.load)
  have C58 := Lib.hid (bmay_any a w48 F53.out)
  rw [MA.out] at C58
  go_wp2_with (first | ((with_reducible refine wpList_load_by (o := ⟨some 45, .load 41 (.tmp 3), _, _, _, _⟩) ?e1 41 (.tmp 3) ?e2 ⟨w.heap.size, 0, none⟩ ?e3 _ M57.out ?_); (case e1 => rfl); (case e2 => rfl); (case e3 => rfl)))
  refine C58.out.mono ?_
  rintro e w59 ⟨rfl, hb60⟩
  have T61 := Lib.hid (T50.out.below hb60 T50.out.lt)
  have T62 := Lib.hid (T51.out.below hb60 T51.out.lt)
  have T63 := Lib.hid (T52.out.below hb60 T52.out.lt)
  have F64 := Lib.hid (F53.out.below hb60 (Nat.le_refl _))
  have F65 := Lib.hid (F54.out.below hb60 (Nat.le_refl _))
  have F66 := Lib.hid (F55.out.below hb60 (Nat.le_refl _))
  have B67 := Lib.hid (B56.out.trans (hb60.mono B56.out.size))
  clear hb60
  have M68 := Lib.hid (T62.out.load)
  have C69 := Lib.hid (bmay_any b w59 F65.out)
  rw [MB.out] at C69
  go_wp2_with (first | ((with_reducible refine wpList_load_by (o := ⟨some 50, .load 41 (.tmp 4), _, _, _, _⟩) ?e1 41 (.tmp 4) ?e2 ⟨(w.heap.size + 1), 0, none⟩ ?e3 _ M68.out ?_); (case e1 => rfl); (case e2 => rfl); (case e3 => rfl)))
  refine C69.out.mono ?_
  rintro e w70 ⟨rfl, hb71⟩
  have T72 := Lib.hid (T61.out.below hb71 T61.out.lt)
  have T73 := Lib.hid (T62.out.below hb71 T62.out.lt)
  have T74 := Lib.hid (T63.out.below hb71 T63.out.lt)
  have F75 := Lib.hid (F64.out.below hb71 (Nat.le_refl _))
  have F76 := Lib.hid (F65.out.below hb71 (Nat.le_refl _))
  have F77 := Lib.hid (F66.out.below hb71 (Nat.le_refl _))
  have B78 := Lib.hid (B67.out.trans (hb71.mono B67.out.size))
  clear hb71
  have M79 := Lib.hid (T74.out.load)
  have C80 := Lib.hid (bmay_any c w70 F77.out)
  rw [MC.out] at C80
  go_wp2_with (first | ((with_reducible refine wpList_load_by (o := ⟨some 55, .load 41 (.tmp 5), _, _, _, _⟩) ?e1 41 (.tmp 5) ?e2 ⟨(w.heap.size + 1 + 1), 0, none⟩ ?e3 _ M79.out ?_); (case e1 => rfl); (case e2 => rfl); (case e3 => rfl)))
  refine C80.out.mono ?_
  rintro e w81 ⟨rfl, hb82⟩
  have T83 := Lib.hid (T72.out.below hb82 T72.out.lt)
  have T84 := Lib.hid (T73.out.below hb82 T73.out.lt)
  have T85 := Lib.hid (T74.out.below hb82 T74.out.lt)
  have F86 := Lib.hid (F75.out.below hb82 (Nat.le_refl _))
  have F87 := Lib.hid (F76.out.below hb82 (Nat.le_refl _))
  have F88 := Lib.hid (F77.out.below hb82 (Nat.le_refl _))
  have B89 := Lib.hid (B78.out.trans (hb82.mono B78.out.size))
  clear hb82
  have M93 := Lib.hid (T83.out.load)
  have M94 := Lib.hid (T84.out.load)
  have C95 := Lib.hid (bjoin_any a b w81 (HLA.out _ B89.out) F86.out F87.out)
  unfold BJoinPost at C95
  rw [JX.out] at C95
  dsimp only at C95
  go_wp2_with (first | ((with_reducible refine wpList_load_by (o := ⟨some 61, .load 41 (.tmp 3), _, _, _, _⟩) ?e1 41 (.tmp 3) ?e2 ⟨w.heap.size, 0, none⟩ ?e3 _ M93.out ?_); (case e1 => rfl); (case e2 => rfl); (case e3 => rfl)) | ((with_reducible refine wpList_load_by (o := ⟨some 62, .load 41 (.tmp 4), _, _, _, _⟩) ?e1 41 (.tmp 4) ?e2 ⟨(w.heap.size + 1), 0, none⟩ ?e3 _ M94.out ?_); (case e1 => rfl); (case e2 => rfl); (case e3 => rfl)))
  refine C95.out.mono ?_
  rintro e w96 ⟨d90, rfl, hd91, hk92, hb97⟩
  have T98 := Lib.hid (T83.out.below hb97 T83.out.lt)
  have T99 := Lib.hid (T84.out.below hb97 T84.out.lt)
  have T100 := Lib.hid (T85.out.below hb97 T85.out.lt)
  have F101 := Lib.hid (F86.out.below hb97 (Nat.le_refl _))
  have F102 := Lib.hid (F87.out.below hb97 (Nat.le_refl _))
  have F103 := Lib.hid (F88.out.below hb97 (Nat.le_refl _))
  have B104 := Lib.hid (B89.out.trans (hb97.mono B89.out.size))
  clear hb97
  have E105 := Lib.hid (hd91)
  have F106 := Lib.hid (hk92)
  clear hd91 hk92
  have hb107 := (Below.refl w96.heap.size w96).alloc (Nat.le_refl _) (.cells #[(.slice d90.A d90.xs.length d90.c)] 41)
  have T108 := Lib.hid (BoAt.new w96 (.slice d90.A d90.xs.length d90.c))
  have T109 := Lib.hid (T98.out.below hb107 T98.out.lt)
  have T110 := Lib.hid (T99.out.below hb107 T99.out.lt)
  have T111 := Lib.hid (T100.out.below hb107 T100.out.lt)
  have F112 := Lib.hid (F101.out.below hb107 (Nat.le_refl _))
  have F113 := Lib.hid (F102.out.below hb107 (Nat.le_refl _))
  have F114 := Lib.hid (F103.out.below hb107 (Nat.le_refl _))
  have F115 := Lib.hid (F106.out.below hb107 (Nat.le_refl _))
  have B116 := Lib.hid (B104.out.trans (hb107.mono B104.out.size))
  clear hb107
  have M120 := Lib.hid (T110.out.load)
  have M121 := Lib.hid (T109.out.load)
  have C122 := Lib.hid (bjoin_any b a (w96.alloc (.cells #[(.slice d90.A d90.xs.length d90.c)] 41)) (HLA.out _ B116.out) F113.out F112.out)
  unfold BJoinPost at C122
  rw [JY.out] at C122
  dsimp only at C122
  go_wp2_with (first | ((with_reducible refine wpList_load_by (o := ⟨some 67, .load 41 (.tmp 4), _, _, _, _⟩) ?e1 41 (.tmp 4) ?e2 ⟨(w.heap.size + 1), 0, none⟩ ?e3 _ M120.out ?_); (case e1 => rfl); (case e2 => rfl); (case e3 => rfl)) | ((with_reducible refine wpList_load_by (o := ⟨some 68, .load 41 (.tmp 3), _, _, _, _⟩) ?e1 41 (.tmp 3) ?e2 ⟨w.heap.size, 0, none⟩ ?e3 _ M121.out ?_); (case e1 => rfl); (case e2 => rfl); (case e3 => rfl)))
  refine C122.out.mono ?_
  rintro e w123 ⟨d117, rfl, hd118, hk119, hb124⟩
  have T125 := Lib.hid (T109.out.below hb124 T109.out.lt)
  have T126 := Lib.hid (T110.out.below hb124 T110.out.lt)
  have T127 := Lib.hid (T111.out.below hb124 T111.out.lt)
  have T128 := Lib.hid (T108.out.below hb124 T108.out.lt)
  have F129 := Lib.hid (F112.out.below hb124 (Nat.le_refl _))
  have F130 := Lib.hid (F113.out.below hb124 (Nat.le_refl _))
  have F131 := Lib.hid (F114.out.below hb124 (Nat.le_refl _))
  have F132 := Lib.hid (F115.out.below hb124 (Nat.le_refl _))
  have B133 := Lib.hid (B116.out.trans (hb124.mono B116.out.size))
  clear hb124
  have E134 := Lib.hid (hd118)
  have F135 := Lib.hid (hk119)
  clear hd118 hk119
  have hb136 := (Below.refl w123.heap.size w123).alloc (Nat.le_refl _) (.cells #[(.slice d117.A d117.xs.length d117.c)] 41)
  have T137 := Lib.hid (BoAt.new w123 (.slice d117.A d117.xs.length d117.c))
  have T138 := Lib.hid (T125.out.below hb136 T125.out.lt)
  have T139 := Lib.hid (T126.out.below hb136 T126.out.lt)
  have T140 := Lib.hid (T127.out.below hb136 T127.out.lt)
  have T141 := Lib.hid (T128.out.below hb136 T128.out.lt)
  have F142 := Lib.hid (F129.out.below hb136 (Nat.le_refl _))
  have F143 := Lib.hid (F130.out.below hb136 (Nat.le_refl _))
  have F144 := Lib.hid (F131.out.below hb136 (Nat.le_refl _))
  have F145 := Lib.hid (F132.out.below hb136 (Nat.le_refl _))
  have F146 := Lib.hid (F135.out.below hb136 (Nat.le_refl _))
  have B147 := Lib.hid (B133.out.trans (hb136.mono B133.out.size))
  clear hb136
  have M151 := Lib.hid (T139.out.load)
  have M152 := Lib.hid (T140.out.load)
  have C153 := Lib.hid (bjoin_any b c (w123.alloc (.cells #[(.slice d117.A d117.xs.length d117.c)] 41)) (HLA.out _ B147.out) F143.out F144.out)
  unfold BJoinPost at C153
  rw [JZ.out] at C153
  dsimp only at C153
  go_wp2_with (first | ((with_reducible refine wpList_load_by (o := ⟨some 73, .load 41 (.tmp 4), _, _, _, _⟩) ?e1 41 (.tmp 4) ?e2 ⟨(w.heap.size + 1), 0, none⟩ ?e3 _ M151.out ?_); (case e1 => rfl); (case e2 => rfl); (case e3 => rfl)) | ((with_reducible refine wpList_load_by (o := ⟨some 74, .load 41 (.tmp 5), _, _, _, _⟩) ?e1 41 (.tmp 5) ?e2 ⟨(w.heap.size + 1 + 1), 0, none⟩ ?e3 _ M152.out ?_); (case e1 => rfl); (case e2 => rfl); (case e3 => rfl)))
  refine C153.out.mono ?_
  rintro e w154 ⟨d148, rfl, hd149, hk150, hb155⟩
  have T156 := Lib.hid (T138.out.below hb155 T138.out.lt)
  have T157 := Lib.hid (T139.out.below hb155 T139.out.lt)
  have T158 := Lib.hid (T140.out.below hb155 T140.out.lt)
  have T159 := Lib.hid (T141.out.below hb155 T141.out.lt)
  have T160 := Lib.hid (T137.out.below hb155 T137.out.lt)
  have F161 := Lib.hid (F142.out.below hb155 (Nat.le_refl _))
  have F162 := Lib.hid (F143.out.below hb155 (Nat.le_refl _))
  have F163 := Lib.hid (F144.out.below hb155 (Nat.le_refl _))
  have F164 := Lib.hid (F145.out.below hb155 (Nat.le_refl _))
  have F165 := Lib.hid (F146.out.below hb155 (Nat.le_refl _))
  have B166 := Lib.hid (B147.out.trans (hb155.mono B147.out.size))
  clear hb155
  have E167 := Lib.hid (hd149)
  have F168 := Lib.hid (hk150)
  clear hd149 hk150
  have hb169 := (Below.refl w154.heap.size w154).alloc (Nat.le_refl _) (.cells #[(.slice d148.A d148.xs.length d148.c)] 41)
  have T170 := Lib.hid (BoAt.new w154 (.slice d148.A d148.xs.length d148.c))
  have T171 := Lib.hid (T156.out.below hb169 T156.out.lt)
  have T172 := Lib.hid (T157.out.below hb169 T157.out.lt)
  have T173 := Lib.hid (T158.out.below hb169 T158.out.lt)
  have T174 := Lib.hid (T159.out.below hb169 T159.out.lt)
  have T175 := Lib.hid (T160.out.below hb169 T160.out.lt)
  have F176 := Lib.hid (F161.out.below hb169 (Nat.le_refl _))
  have F177 := Lib.hid (F162.out.below hb169 (Nat.le_refl _))
  have F178 := Lib.hid (F163.out.below hb169 (Nat.le_refl _))
  have F179 := Lib.hid (F164.out.below hb169 (Nat.le_refl _))
  have F180 := Lib.hid (F165.out.below hb169 (Nat.le_refl _))
  have F181 := Lib.hid (F168.out.below hb169 (Nat.le_refl _))
  have B182 := Lib.hid (B166.out.trans (hb169.mono B166.out.size))
  clear hb169
  have M186 := Lib.hid (T171.out.load)
  have M187 := Lib.hid (T171.out.load)
  have C188 := Lib.hid (bjoin_any a a (w154.alloc (.cells #[(.slice d148.A d148.xs.length d148.c)] 41)) (HLA.out _ B182.out) F176.out F176.out)
  unfold BJoinPost at C188
  rw [JO.out] at C188
  dsimp only at C188
  go_wp2_with (first | ((with_reducible refine wpList_load_by (o := ⟨some 79, .load 41 (.tmp 3), _, _, _, _⟩) ?e1 41 (.tmp 3) ?e2 ⟨w.heap.size, 0, none⟩ ?e3 _ M186.out ?_); (case e1 => rfl); (case e2 => rfl); (case e3 => rfl)) | ((with_reducible refine wpList_load_by (o := ⟨some 80, .load 41 (.tmp 3), _, _, _, _⟩) ?e1 41 (.tmp 3) ?e2 ⟨w.heap.size, 0, none⟩ ?e3 _ M187.out ?_); (case e1 => rfl); (case e2 => rfl); (case e3 => rfl)))
  refine C188.out.mono ?_
  rintro e w189 ⟨d183, rfl, hd184, hk185, hb190⟩
  have T191 := Lib.hid (T171.out.below hb190 T171.out.lt)
  have T192 := Lib.hid (T172.out.below hb190 T172.out.lt)
  have T193 := Lib.hid (T173.out.below hb190 T173.out.lt)
  have T194 := Lib.hid (T174.out.below hb190 T174.out.lt)
  have T195 := Lib.hid (T175.out.below hb190 T175.out.lt)
  have T196 := Lib.hid (T170.out.below hb190 T170.out.lt)
  have F197 := Lib.hid (F176.out.below hb190 (Nat.le_refl _))
  have F198 := Lib.hid (F177.out.below hb190 (Nat.le_refl _))
  have F199 := Lib.hid (F178.out.below hb190 (Nat.le_refl _))
  have F200 := Lib.hid (F179.out.below hb190 (Nat.le_refl _))
  have F201 := Lib.hid (F180.out.below hb190 (Nat.le_refl _))
  have F202 := Lib.hid (F181.out.below hb190 (Nat.le_refl _))
  have B203 := Lib.hid (B182.out.trans (hb190.mono B182.out.size))
  clear hb190
  have E204 := Lib.hid (hd184)
  have F205 := Lib.hid (hk185)
  clear hd184 hk185
  have hb206 := (Below.refl w189.heap.size w189).alloc (Nat.le_refl _) (.cells #[(.slice d183.A d183.xs.length d183.c)] 41)
  have T207 := Lib.hid (BoAt.new w189 (.slice d183.A d183.xs.length d183.c))
  have T208 := Lib.hid (T191.out.below hb206 T191.out.lt)
  have T209 := Lib.hid (T192.out.below hb206 T192.out.lt)
  have T210 := Lib.hid (T193.out.below hb206 T193.out.lt)
  have T211 := Lib.hid (T194.out.below hb206 T194.out.lt)
  have T212 := Lib.hid (T195.out.below hb206 T195.out.lt)
  have T213 := Lib.hid (T196.out.below hb206 T196.out.lt)
  have F214 := Lib.hid (F197.out.below hb206 (Nat.le_refl _))
  have F215 := Lib.hid (F198.out.below hb206 (Nat.le_refl _))
  have F216 := Lib.hid (F199.out.below hb206 (Nat.le_refl _))
  have F217 := Lib.hid (F200.out.below hb206 (Nat.le_refl _))
  have F218 := Lib.hid (F201.out.below hb206 (Nat.le_refl _))
  have F219 := Lib.hid (F202.out.below hb206 (Nat.le_refl _))
  have F220 := Lib.hid (F205.out.below hb206 (Nat.le_refl _))
  have B221 := Lib.hid (B203.out.trans (hb206.mono B203.out.size))
  clear hb206
  have M222 := Lib.hid (T211.out.load)
  have M223 := Lib.hid (T212.out.load)
  have C224 := Lib.hid (bsame_any d90 d117 (w189.alloc (.cells #[(.slice d183.A d183.xs.length d183.c)] 41)) F217.out F218.out)
  try rw [E105.out] at C224
  try rw [E134.out] at C224
  rw [SX.out] at C224
  go_wp2_with (first | ((with_reducible refine wpList_load_by (o := ⟨some 88, .load 41 (.tmp 11), _, _, _, _⟩) ?e1 41 (.tmp 11) ?e2 ⟨w96.heap.size, 0, none⟩ ?e3 _ M222.out ?_); (case e1 => rfl); (case e2 => rfl); (case e3 => rfl)) | ((with_reducible refine wpList_load_by (o := ⟨some 89, .load 41 (.tmp 13), _, _, _, _⟩) ?e1 41 (.tmp 13) ?e2 ⟨w123.heap.size, 0, none⟩ ?e3 _ M223.out ?_); (case e1 => rfl); (case e2 => rfl); (case e3 => rfl)))
  refine C224.out.mono ?_
  rintro e w225 ⟨rfl, hb226⟩
  have T227 := Lib.hid (T208.out.below hb226 T208.out.lt)
  have T228 := Lib.hid (T209.out.below hb226 T209.out.lt)
  have T229 := Lib.hid (T210.out.below hb226 T210.out.lt)
  have T230 := Lib.hid (T211.out.below hb226 T211.out.lt)
  have T231 := Lib.hid (T212.out.below hb226 T212.out.lt)
  have T232 := Lib.hid (T213.out.below hb226 T213.out.lt)
  have T233 := Lib.hid (T207.out.below hb226 T207.out.lt)
  have F234 := Lib.hid (F214.out.below hb226 (Nat.le_refl _))
  have F235 := Lib.hid (F215.out.below hb226 (Nat.le_refl _))
  have F236 := Lib.hid (F216.out.below hb226 (Nat.le_refl _))
  have F237 := Lib.hid (F217.out.below hb226 (Nat.le_refl _))
  have F238 := Lib.hid (F218.out.below hb226 (Nat.le_refl _))
  have F239 := Lib.hid (F219.out.below hb226 (Nat.le_refl _))
  have F240 := Lib.hid (F220.out.below hb226 (Nat.le_refl _))
  have B241 := Lib.hid (B221.out.trans (hb226.mono B221.out.size))
  clear hb226
  have M242 := Lib.hid (T233.out.load)
  have M243 := Lib.hid (T227.out.load)
  have C244 := Lib.hid (bsame_any d183 a w225 F240.out F234.out)
  try rw [E204.out] at C244
  rw [SA.out] at C244
  go_wp2_with (first | ((with_reducible refine wpList_load_by (o := ⟨some 98, .load 41 (.tmp 17), _, _, _, _⟩) ?e1 41 (.tmp 17) ?e2 ⟨w189.heap.size, 0, none⟩ ?e3 _ M242.out ?_); (case e1 => rfl); (case e2 => rfl); (case e3 => rfl)) | ((with_reducible refine wpList_load_by (o := ⟨some 99, .load 41 (.tmp 3), _, _, _, _⟩) ?e1 41 (.tmp 3) ?e2 ⟨w.heap.size, 0, none⟩ ?e3 _ M243.out ?_); (case e1 => rfl); (case e2 => rfl); (case e3 => rfl)))
  refine C244.out.mono ?_
  rintro e w245 ⟨rfl, hb246⟩
  have T247 := Lib.hid (T227.out.below hb246 T227.out.lt)
  have T248 := Lib.hid (T228.out.below hb246 T228.out.lt)
  have T249 := Lib.hid (T229.out.below hb246 T229.out.lt)
  have T250 := Lib.hid (T230.out.below hb246 T230.out.lt)
  have T251 := Lib.hid (T231.out.below hb246 T231.out.lt)
  have T252 := Lib.hid (T232.out.below hb246 T232.out.lt)
  have T253 := Lib.hid (T233.out.below hb246 T233.out.lt)
  have F254 := Lib.hid (F234.out.below hb246 (Nat.le_refl _))
  have F255 := Lib.hid (F235.out.below hb246 (Nat.le_refl _))
  have F256 := Lib.hid (F236.out.below hb246 (Nat.le_refl _))
  have F257 := Lib.hid (F237.out.below hb246 (Nat.le_refl _))
  have F258 := Lib.hid (F238.out.below hb246 (Nat.le_refl _))
  have F259 := Lib.hid (F239.out.below hb246 (Nat.le_refl _))
  have F260 := Lib.hid (F240.out.below hb246 (Nat.le_refl _))
  have B261 := Lib.hid (B241.out.trans (hb246.mono B241.out.size))
  clear hb246
  go_wp2
  go_ret
  exact ⟨rfl, B261.out⟩
set_option maxHeartbeats 16000000 in
theorem bjoins_44 (a b c : Bk) (w : World) (hlaid : Laid w) (wa : BkAt w a) (wb : BkAt w b) (wc : BkAt w c) (p : (fewB a.rs && fewB b.rs && fewB c.rs) = true) (X Z V : List Rc) (iMA : bmay a.rs = true) (iMB : bmay b.rs = true) (iMC : bmay c.rs = true) (iJX : bjE a.rs b.rs = (4, X)) (iJY : bjE b.rs a.rs = (4, X)) (iJZ : bjE b.rs c.rs = (4, Z)) (iJO : bjE a.rs a.rs = (0, a.rs)) (iSX : bsame X X = true) (iSA : bsame a.rs a.rs = true) :
    Calls Tryd.prog 4 #[.agg #[.slice a.A a.xs.length a.c], .agg #[.slice b.A b.xs.length b.c], .agg #[.slice c.A c.xs.length c.c]] w fun e w' => e = .returned (.bool true) ∧ Below w.heap.size w w' := by
  have HLA := Lib.hid (fun (X : World) (hX : Below w.heap.size w X) => hlaid.below hX (Nat.le_refl _))
  have Fa := Lib.hid wa
  have Fb := Lib.hid wb
  have Fc := Lib.hid wc
  clear hlaid wa wb wc
  simp only [Bool.and_eq_true] at p
  have PA := Lib.hid p.1.1
  have PB := Lib.hid p.1.2
  have PC := Lib.hid p.2
  clear p
  have MA := Lib.hid iMA
  have MB := Lib.hid iMB
  have MC := Lib.hid iMC
  have JX := Lib.hid iJX
  have JY := Lib.hid iJY
  have JZ := Lib.hid iJZ
  have JO := Lib.hid iJO
  have SX := Lib.hid iSX
  have SA := Lib.hid iSA
  clear iMA iMB iMC iJX iJY iJZ iJO iSX iSA
  have B1 := Lib.hid (Below.refl w.heap.size w)
  have T2n := BoAt.new w (.slice a.A a.xs.length a.c)
  have T2 := Lib.hid T2n
  clear T2n
  have B3 := Lib.hid (B1.out.alloc B1.out.size (.cells #[(.slice a.A a.xs.length a.c)] 41))
  have T4 := Lib.hid (T2.out.old (.cells #[(.slice b.A b.xs.length b.c)] 41))
  have T5n := BoAt.new (w.alloc (.cells #[(.slice a.A a.xs.length a.c)] 41)) (.slice b.A b.xs.length b.c)
  simp only [World.size_alloc] at T5n
  have T5 := Lib.hid T5n
  clear T5n
  have B6 := Lib.hid (B3.out.alloc B3.out.size (.cells #[(.slice b.A b.xs.length b.c)] 41))
  have T7 := Lib.hid (T4.out.old (.cells #[(.slice c.A c.xs.length c.c)] 41))
  have T8 := Lib.hid (T5.out.old (.cells #[(.slice c.A c.xs.length c.c)] 41))
  have T9n := BoAt.new ((w.alloc (.cells #[(.slice a.A a.xs.length a.c)] 41)).alloc (.cells #[(.slice b.A b.xs.length b.c)] 41)) (.slice c.A c.xs.length c.c)
  simp only [World.size_alloc] at T9n
  have T9 := Lib.hid T9n
  clear T9n
  have B10 := Lib.hid (B6.out.alloc B6.out.size (.cells #[(.slice c.A c.xs.length c.c)] 41))
  have F11 := Lib.hid (Fa.out.below B10.out (Nat.le_refl _))
  have F12 := Lib.hid (Fb.out.below B10.out (Nat.le_refl _))
  have F13 := Lib.hid (Fc.out.below B10.out (Nat.le_refl _))
  go_enter Tryd.func4, Tryd.ntmps4
  have C14 := Lib.hid (bkAwake (((w.alloc (.cells #[(.slice a.A a.xs.length a.c)] 41)).alloc (.cells #[(.slice b.A b.xs.length b.c)] 41)).alloc (.cells #[(.slice c.A c.xs.length c.c)] 41)) (HLA.out _ B10.out))
  go_wp2_with fail
  refine C14.out.mono ?_
  rintro e w15 ⟨rfl, hb16⟩
  have T17 := Lib.hid (T7.out.below hb16 T7.out.lt)
  have T18 := Lib.hid (T8.out.below hb16 T8.out.lt)
  have T19 := Lib.hid (T9.out.below hb16 T9.out.lt)
  have F20 := Lib.hid (F11.out.below hb16 (Nat.le_refl _))
  have F21 := Lib.hid (F12.out.below hb16 (Nat.le_refl _))
  have F22 := Lib.hid (F13.out.below hb16 (Nat.le_refl _))
  have B23 := Lib.hid (B10.out.trans (hb16.mono B10.out.size))
  clear hb16
  have M24 := Lib.hid (T17.out.load)
  have C25 := Lib.hid (fewB_any a w15 F20.out)
  rw [PA.out] at C25
  go_wp2_with (first | ((with_reducible refine wpList_load_by (o := ⟨some 24, .load 41 (.tmp 3), _, _, _, _⟩) ?e1 41 (.tmp 3) ?e2 ⟨w.heap.size, 0, none⟩ ?e3 _ M24.out ?_); (case e1 => rfl); (case e2 => rfl); (case e3 => rfl)))
  refine C25.out.mono ?_
  rintro e w26 ⟨rfl, hb27⟩
  have T28 := Lib.hid (T17.out.below hb27 T17.out.lt)
  have T29 := Lib.hid (T18.out.below hb27 T18.out.lt)
  have T30 := Lib.hid (T19.out.below hb27 T19.out.lt)
  have F31 := Lib.hid (F20.out.below hb27 (Nat.le_refl _))
  have F32 := Lib.hid (F21.out.below hb27 (Nat.le_refl _))
  have F33 := Lib.hid (F22.out.below hb27 (Nat.le_refl _))
  have B34 := Lib.hid (B23.out.trans (hb27.mono B23.out.size))
  clear hb27
  have M35 := Lib.hid (T29.out.load)
  have C36 := Lib.hid (fewB_any b w26 F32.out)
  rw [PB.out] at C36
  go_wp2_with (first | ((with_reducible refine wpList_load_by (o := ⟨some 26, .load 41 (.tmp 4), _, _, _, _⟩) ?e1 41 (.tmp 4) ?e2 ⟨(w.heap.size + 1), 0, none⟩ ?e3 _ M35.out ?_); (case e1 => rfl); (case e2 => rfl); (case e3 => rfl)))
  refine C36.out.mono ?_
  rintro e w37 ⟨rfl, hb38⟩
  have T39 := Lib.hid (T28.out.below hb38 T28.out.lt)
  have T40 := Lib.hid (T29.out.below hb38 T29.out.lt)
  have T41 := Lib.hid (T30.out.below hb38 T30.out.lt)
  have F42 := Lib.hid (F31.out.below hb38 (Nat.le_refl _))
  have F43 := Lib.hid (F32.out.below hb38 (Nat.le_refl _))
  have F44 := Lib.hid (F33.out.below hb38 (Nat.le_refl _))
  have B45 := Lib.hid (B34.out.trans (hb38.mono B34.out.size))
  clear hb38
  have M46 := Lib.hid (T41.out.load)
  have C47 := Lib.hid (fewB_any c w37 F44.out)
  rw [PC.out] at C47
  go_wp2_with (first | ((with_reducible refine wpList_load_by (o := ⟨some 28, .load 41 (.tmp 5), _, _, _, _⟩) ?e1 41 (.tmp 5) ?e2 ⟨(w.heap.size + 1 + 1), 0, none⟩ ?e3 _ M46.out ?_); (case e1 => rfl); (case e2 => rfl); (case e3 => rfl)))
  refine C47.out.mono ?_
  rintro e w48 ⟨rfl, hb49⟩
  have T50 := Lib.hid (T39.out.below hb49 T39.out.lt)
  have T51 := Lib.hid (T40.out.below hb49 T40.out.lt)
  have T52 := Lib.hid (T41.out.below hb49 T41.out.lt)
  have F53 := Lib.hid (F42.out.below hb49 (Nat.le_refl _))
  have F54 := Lib.hid (F43.out.below hb49 (Nat.le_refl _))
  have F55 := Lib.hid (F44.out.below hb49 (Nat.le_refl _))
  have B56 := Lib.hid (B45.out.trans (hb49.mono B45.out.size))
  clear hb49
  have M57 := Lib.hid (T50.out.load)
  have C58 := Lib.hid (bmay_any a w48 F53.out)
  rw [MA.out] at C58
  go_wp2_with (first | ((with_reducible refine wpList_load_by (o := ⟨some 45, .load 41 (.tmp 3), _, _, _, _⟩) ?e1 41 (.tmp 3) ?e2 ⟨w.heap.size, 0, none⟩ ?e3 _ M57.out ?_); (case e1 => rfl); (case e2 => rfl); (case e3 => rfl)))
  refine C58.out.mono ?_
  rintro e w59 ⟨rfl, hb60⟩
  have T61 := Lib.hid (T50.out.below hb60 T50.out.lt)
  have T62 := Lib.hid (T51.out.below hb60 T51.out.lt)
  have T63 := Lib.hid (T52.out.below hb60 T52.out.lt)
  have F64 := Lib.hid (F53.out.below hb60 (Nat.le_refl _))
  have F65 := Lib.hid (F54.out.below hb60 (Nat.le_refl _))
  have F66 := Lib.hid (F55.out.below hb60 (Nat.le_refl _))
  have B67 := Lib.hid (B56.out.trans (hb60.mono B56.out.size))
  clear hb60
  have M68 := Lib.hid (T62.out.load)
  have C69 := Lib.hid (bmay_any b w59 F65.out)
  rw [MB.out] at C69
  go_wp2_with (first | ((with_reducible refine wpList_load_by (o := ⟨some 50, .load 41 (.tmp 4), _, _, _, _⟩) ?e1 41 (.tmp 4) ?e2 ⟨(w.heap.size + 1), 0, none⟩ ?e3 _ M68.out ?_); (case e1 => rfl); (case e2 => rfl); (case e3 => rfl)))
  refine C69.out.mono ?_
  rintro e w70 ⟨rfl, hb71⟩
  have T72 := Lib.hid (T61.out.below hb71 T61.out.lt)
  have T73 := Lib.hid (T62.out.below hb71 T62.out.lt)
  have T74 := Lib.hid (T63.out.below hb71 T63.out.lt)
  have F75 := Lib.hid (F64.out.below hb71 (Nat.le_refl _))
  have F76 := Lib.hid (F65.out.below hb71 (Nat.le_refl _))
  have F77 := Lib.hid (F66.out.below hb71 (Nat.le_refl _))
  have B78 := Lib.hid (B67.out.trans (hb71.mono B67.out.size))
  clear hb71
  have M79 := Lib.hid (T74.out.load)
  have C80 := Lib.hid (bmay_any c w70 F77.out)
  rw [MC.out] at C80
  go_wp2_with (first | ((with_reducible refine wpList_load_by (o := ⟨some 55, .load 41 (.tmp 5), _, _, _, _⟩) ?e1 41 (.tmp 5) ?e2 ⟨(w.heap.size + 1 + 1), 0, none⟩ ?e3 _ M79.out ?_); (case e1 => rfl); (case e2 => rfl); (case e3 => rfl)))
  refine C80.out.mono ?_
  rintro e w81 ⟨rfl, hb82⟩
  have T83 := Lib.hid (T72.out.below hb82 T72.out.lt)
  have T84 := Lib.hid (T73.out.below hb82 T73.out.lt)
  have T85 := Lib.hid (T74.out.below hb82 T74.out.lt)
  have F86 := Lib.hid (F75.out.below hb82 (Nat.le_refl _))
  have F87 := Lib.hid (F76.out.below hb82 (Nat.le_refl _))
  have F88 := Lib.hid (F77.out.below hb82 (Nat.le_refl _))
  have B89 := Lib.hid (B78.out.trans (hb82.mono B78.out.size))
  clear hb82
  have M93 := Lib.hid (T83.out.load)
  have M94 := Lib.hid (T84.out.load)
  have C95 := Lib.hid (bjoin_any a b w81 (HLA.out _ B89.out) F86.out F87.out)
  unfold BJoinPost at C95
  rw [JX.out] at C95
  dsimp only at C95
  go_wp2_with (first | ((with_reducible refine wpList_load_by (o := ⟨some 61, .load 41 (.tmp 3), _, _, _, _⟩) ?e1 41 (.tmp 3) ?e2 ⟨w.heap.size, 0, none⟩ ?e3 _ M93.out ?_); (case e1 => rfl); (case e2 => rfl); (case e3 => rfl)) | ((with_reducible refine wpList_load_by (o := ⟨some 62, .load 41 (.tmp 4), _, _, _, _⟩) ?e1 41 (.tmp 4) ?e2 ⟨(w.heap.size + 1), 0, none⟩ ?e3 _ M94.out ?_); (case e1 => rfl); (case e2 => rfl); (case e3 => rfl)))
  refine C95.out.mono ?_
  rintro e w96 ⟨d90, rfl, hd91, hk92, hb97⟩
  have T98 := Lib.hid (T83.out.below hb97 T83.out.lt)
  have T99 := Lib.hid (T84.out.below hb97 T84.out.lt)
  have T100 := Lib.hid (T85.out.below hb97 T85.out.lt)
  have F101 := Lib.hid (F86.out.below hb97 (Nat.le_refl _))
  have F102 := Lib.hid (F87.out.below hb97 (Nat.le_refl _))
  have F103 := Lib.hid (F88.out.below hb97 (Nat.le_refl _))
  have B104 := Lib.hid (B89.out.trans (hb97.mono B89.out.size))
  clear hb97
  have E105 := Lib.hid (hd91)
  have F106 := Lib.hid (hk92)
  clear hd91 hk92
  have hb107 := (Below.refl w96.heap.size w96).alloc (Nat.le_refl _) (.cells #[(.slice d90.A d90.xs.length d90.c)] 41)
  have T108 := Lib.hid (BoAt.new w96 (.slice d90.A d90.xs.length d90.c))
  have T109 := Lib.hid (T98.out.below hb107 T98.out.lt)
  have T110 := Lib.hid (T99.out.below hb107 T99.out.lt)
  have T111 := Lib.hid (T100.out.below hb107 T100.out.lt)
  have F112 := Lib.hid (F101.out.below hb107 (Nat.le_refl _))
  have F113 := Lib.hid (F102.out.below hb107 (Nat.le_refl _))
  have F114 := Lib.hid (F103.out.below hb107 (Nat.le_refl _))
  have F115 := Lib.hid (F106.out.below hb107 (Nat.le_refl _))
  have B116 := Lib.hid (B104.out.trans (hb107.mono B104.out.size))
  clear hb107
  have M120 := Lib.hid (T110.out.load)
  have M121 := Lib.hid (T109.out.load)
  have C122 := Lib.hid (bjoin_any b a (w96.alloc (.cells #[(.slice d90.A d90.xs.length d90.c)] 41)) (HLA.out _ B116.out) F113.out F112.out)
  unfold BJoinPost at C122
  rw [JY.out] at C122
  dsimp only at C122
  go_wp2_with (first | ((with_reducible refine wpList_load_by (o := ⟨some 67, .load 41 (.tmp 4), _, _, _, _⟩) ?e1 41 (.tmp 4) ?e2 ⟨(w.heap.size + 1), 0, none⟩ ?e3 _ M120.out ?_); (case e1 => rfl); (case e2 => rfl); (case e3 => rfl)) | ((with_reducible refine wpList_load_by (o := ⟨some 68, .load 41 (.tmp 3), _, _, _, _⟩) ?e1 41 (.tmp 3) ?e2 ⟨w.heap.size, 0, none⟩ ?e3 _ M121.out ?_); (case e1 => rfl); (case e2 => rfl); (case e3 => rfl)))
  refine C122.out.mono ?_
  rintro e w123 ⟨d117, rfl, hd118, hk119, hb124⟩
  have T125 := Lib.hid (T109.out.below hb124 T109.out.lt)
  have T126 := Lib.hid (T110.out.below hb124 T110.out.lt)
  have T127 := Lib.hid (T111.out.below hb124 T111.out.lt)
  have T128 := Lib.hid (T108.out.below hb124 T108.out.lt)
  have F129 := Lib.hid (F112.out.below hb124 (Nat.le_refl _))
  have F130 := Lib.hid (F113.out.below hb124 (Nat.le_refl _))
  have F131 := Lib.hid (F114.out.below hb124 (Nat.le_refl _))
  have F132 := Lib.hid (F115.out.below hb124 (Nat.le_refl _))
  have B133 := Lib.hid (B116.out.trans (hb124.mono B116.out.size))
  clear hb124
  have E134 := Lib.hid (hd118)
  have F135 := Lib.hid (hk119)
  clear hd118 hk119
  have hb136 := (Below.refl w123.heap.size w123).alloc (Nat.le_refl _) (.cells #[(.slice d117.A d117.xs.length d117.c)] 41)
  have T137 := Lib.hid (BoAt.new w123 (.slice d117.A d117.xs.length d117.c))
  have T138 := Lib.hid (T125.out.below hb136 T125.out.lt)
  have T139 := Lib.hid (T126.out.below hb136 T126.out.lt)
  have T140 := Lib.hid (T127.out.below hb136 T127.out.lt)
  have T141 := Lib.hid (T128.out.below hb136 T128.out.lt)
  have F142 := Lib.hid (F129.out.below hb136 (Nat.le_refl _))
  have F143 := Lib.hid (F130.out.below hb136 (Nat.le_refl _))
  have F144 := Lib.hid (F131.out.below hb136 (Nat.le_refl _))
  have F145 := Lib.hid (F132.out.below hb136 (Nat.le_refl _))
  have F146 := Lib.hid (F135.out.below hb136 (Nat.le_refl _))
  have B147 := Lib.hid (B133.out.trans (hb136.mono B133.out.size))
  clear hb136
  have M151 := Lib.hid (T139.out.load)
  have M152 := Lib.hid (T140.out.load)
  have C153 := Lib.hid (bjoin_any b c (w123.alloc (.cells #[(.slice d117.A d117.xs.length d117.c)] 41)) (HLA.out _ B147.out) F143.out F144.out)
  unfold BJoinPost at C153
  rw [JZ.out] at C153
  dsimp only at C153
  go_wp2_with (first | ((with_reducible refine wpList_load_by (o := ⟨some 73, .load 41 (.tmp 4), _, _, _, _⟩) ?e1 41 (.tmp 4) ?e2 ⟨(w.heap.size + 1), 0, none⟩ ?e3 _ M151.out ?_); (case e1 => rfl); (case e2 => rfl); (case e3 => rfl)) | ((with_reducible refine wpList_load_by (o := ⟨some 74, .load 41 (.tmp 5), _, _, _, _⟩) ?e1 41 (.tmp 5) ?e2 ⟨(w.heap.size + 1 + 1), 0, none⟩ ?e3 _ M152.out ?_); (case e1 => rfl); (case e2 => rfl); (case e3 => rfl)))
  refine C153.out.mono ?_
  rintro e w154 ⟨d148, rfl, hd149, hk150, hb155⟩
  have T156 := Lib.hid (T138.out.below hb155 T138.out.lt)
  have T157 := Lib.hid (T139.out.below hb155 T139.out.lt)
  have T158 := Lib.hid (T140.out.below hb155 T140.out.lt)
  have T159 := Lib.hid (T141.out.below hb155 T141.out.lt)
  have T160 := Lib.hid (T137.out.below hb155 T137.out.lt)
  have F161 := Lib.hid (F142.out.below hb155 (Nat.le_refl _))
  have F162 := Lib.hid (F143.out.below hb155 (Nat.le_refl _))
  have F163 := Lib.hid (F144.out.below hb155 (Nat.le_refl _))
  have F164 := Lib.hid (F145.out.below hb155 (Nat.le_refl _))
  have F165 := Lib.hid (F146.out.below hb155 (Nat.le_refl _))
  have B166 := Lib.hid (B147.out.trans (hb155.mono B147.out.size))
  clear hb155
  have E167 := Lib.hid (hd149)
  have F168 := Lib.hid (hk150)
  clear hd149 hk150
  have hb169 := (Below.refl w154.heap.size w154).alloc (Nat.le_refl _) (.cells #[(.slice d148.A d148.xs.length d148.c)] 41)
  have T170 := Lib.hid (BoAt.new w154 (.slice d148.A d148.xs.length d148.c))
  have T171 := Lib.hid (T156.out.below hb169 T156.out.lt)
  have T172 := Lib.hid (T157.out.below hb169 T157.out.lt)
  have T173 := Lib.hid (T158.out.below hb169 T158.out.lt)
  have T174 := Lib.hid (T159.out.below hb169 T159.out.lt)
  have T175 := Lib.hid (T160.out.below hb169 T160.out.lt)
  have F176 := Lib.hid (F161.out.below hb169 (Nat.le_refl _))
  have F177 := Lib.hid (F162.out.below hb169 (Nat.le_refl _))
  have F178 := Lib.hid (F163.out.below hb169 (Nat.le_refl _))
  have F179 := Lib.hid (F164.out.below hb169 (Nat.le_refl _))
  have F180 := Lib.hid (F165.out.below hb169 (Nat.le_refl _))
  have F181 := Lib.hid (F168.out.below hb169 (Nat.le_refl _))
  have B182 := Lib.hid (B166.out.trans (hb169.mono B166.out.size))
  clear hb169
  have M186 := Lib.hid (T171.out.load)
  have M187 := Lib.hid (T171.out.load)
  have C188 := Lib.hid (bjoin_any a a (w154.alloc (.cells #[(.slice d148.A d148.xs.length d148.c)] 41)) (HLA.out _ B182.out) F176.out F176.out)
  unfold BJoinPost at C188
  rw [JO.out] at C188
  dsimp only at C188
  go_wp2_with (first | ((with_reducible refine wpList_load_by (o := ⟨some 79, .load 41 (.tmp 3), _, _, _, _⟩) ?e1 41 (.tmp 3) ?e2 ⟨w.heap.size, 0, none⟩ ?e3 _ M186.out ?_); (case e1 => rfl); (case e2 => rfl); (case e3 => rfl)) | ((with_reducible refine wpList_load_by (o := ⟨some 80, .load 41 (.tmp 3), _, _, _, _⟩) ?e1 41 (.tmp 3) ?e2 ⟨w.heap.size, 0, none⟩ ?e3 _ M187.out ?_); (case e1 => rfl); (case e2 => rfl); (case e3 => rfl)))
  refine C188.out.mono ?_
  rintro e w189 ⟨d183, rfl, hd184, hk185, hb190⟩
  have T191 := Lib.hid (T171.out.below hb190 T171.out.lt)
  have T192 := Lib.hid (T172.out.below hb190 T172.out.lt)
  have T193 := Lib.hid (T173.out.below hb190 T173.out.lt)
  have T194 := Lib.hid (T174.out.below hb190 T174.out.lt)
  have T195 := Lib.hid (T175.out.below hb190 T175.out.lt)
  have T196 := Lib.hid (T170.out.below hb190 T170.out.lt)
  have F197 := Lib.hid (F176.out.below hb190 (Nat.le_refl _))
  have F198 := Lib.hid (F177.out.below hb190 (Nat.le_refl _))
  have F199 := Lib.hid (F178.out.below hb190 (Nat.le_refl _))
  have F200 := Lib.hid (F179.out.below hb190 (Nat.le_refl _))
  have F201 := Lib.hid (F180.out.below hb190 (Nat.le_refl _))
  have F202 := Lib.hid (F181.out.below hb190 (Nat.le_refl _))
  have B203 := Lib.hid (B182.out.trans (hb190.mono B182.out.size))
  clear hb190
  have E204 := Lib.hid (hd184)
  have F205 := Lib.hid (hk185)
  clear hd184 hk185
  have hb206 := (Below.refl w189.heap.size w189).alloc (Nat.le_refl _) (.cells #[(.slice d183.A d183.xs.length d183.c)] 41)
  have T207 := Lib.hid (BoAt.new w189 (.slice d183.A d183.xs.length d183.c))
  have T208 := Lib.hid (T191.out.below hb206 T191.out.lt)
  have T209 := Lib.hid (T192.out.below hb206 T192.out.lt)
  have T210 := Lib.hid (T193.out.below hb206 T193.out.lt)
  have T211 := Lib.hid (T194.out.below hb206 T194.out.lt)
  have T212 := Lib.hid (T195.out.below hb206 T195.out.lt)
  have T213 := Lib.hid (T196.out.below hb206 T196.out.lt)
  have F214 := Lib.hid (F197.out.below hb206 (Nat.le_refl _))
  have F215 := Lib.hid (F198.out.below hb206 (Nat.le_refl _))
  have F216 := Lib.hid (F199.out.below hb206 (Nat.le_refl _))
  have F217 := Lib.hid (F200.out.below hb206 (Nat.le_refl _))
  have F218 := Lib.hid (F201.out.below hb206 (Nat.le_refl _))
  have F219 := Lib.hid (F202.out.below hb206 (Nat.le_refl _))
  have F220 := Lib.hid (F205.out.below hb206 (Nat.le_refl _))
  have B221 := Lib.hid (B203.out.trans (hb206.mono B203.out.size))
  clear hb206
  have M222 := Lib.hid (T211.out.load)
  have M223 := Lib.hid (T212.out.load)
  have C224 := Lib.hid (bsame_any d90 d117 (w189.alloc (.cells #[(.slice d183.A d183.xs.length d183.c)] 41)) F217.out F218.out)
  try rw [E105.out] at C224
  try rw [E134.out] at C224
  rw [SX.out] at C224
  go_wp2_with (first | ((with_reducible refine wpList_load_by (o := ⟨some 88, .load 41 (.tmp 11), _, _, _, _⟩) ?e1 41 (.tmp 11) ?e2 ⟨w96.heap.size, 0, none⟩ ?e3 _ M222.out ?_); (case e1 => rfl); (case e2 => rfl); (case e3 => rfl)) | ((with_reducible refine wpList_load_by (o := ⟨some 89, .load 41 (.tmp 13), _, _, _, _⟩) ?e1 41 (.tmp 13) ?e2 ⟨w123.heap.size, 0, none⟩ ?e3 _ M223.out ?_); (case e1 => rfl); (case e2 => rfl); (case e3 => rfl)))
  refine C224.out.mono ?_
  rintro e w225 ⟨rfl, hb226⟩
  have T227 := Lib.hid (T208.out.below hb226 T208.out.lt)
  have T228 := Lib.hid (T209.out.below hb226 T209.out.lt)
  have T229 := Lib.hid (T210.out.below hb226 T210.out.lt)
  have T230 := Lib.hid (T211.out.below hb226 T211.out.lt)
  have T231 := Lib.hid (T212.out.below hb226 T212.out.lt)
  have T232 := Lib.hid (T213.out.below hb226 T213.out.lt)
  have T233 := Lib.hid (T207.out.below hb226 T207.out.lt)
  have F234 := Lib.hid (F214.out.below hb226 (Nat.le_refl _))
  have F235 := Lib.hid (F215.out.below hb226 (Nat.le_refl _))
  have F236 := Lib.hid (F216.out.below hb226 (Nat.le_refl _))
  have F237 := Lib.hid (F217.out.below hb226 (Nat.le_refl _))
  have F238 := Lib.hid (F218.out.below hb226 (Nat.le_refl _))
  have F239 := Lib.hid (F219.out.below hb226 (Nat.le_refl _))
  have F240 := Lib.hid (F220.out.below hb226 (Nat.le_refl _))
  have B241 := Lib.hid (B221.out.trans (hb226.mono B221.out.size))
  clear hb226
  have M242 := Lib.hid (T233.out.load)
  have M243 := Lib.hid (T227.out.load)
  have C244 := Lib.hid (bsame_any d183 a w225 F240.out F234.out)
  try rw [E204.out] at C244
  rw [SA.out] at C244
  go_wp2_with (first | ((with_reducible refine wpList_load_by (o := ⟨some 98, .load 41 (.tmp 17), _, _, _, _⟩) ?e1 41 (.tmp 17) ?e2 ⟨w189.heap.size, 0, none⟩ ?e3 _ M242.out ?_); (case e1 => rfl); (case e2 => rfl); (case e3 => rfl)) | ((with_reducible refine wpList_load_by (o := ⟨some 99, .load 41 (.tmp 3), _, _, _, _⟩) ?e1 41 (.tmp 3) ?e2 ⟨w.heap.size, 0, none⟩ ?e3 _ M243.out ?_); (case e1 => rfl); (case e2 => rfl); (case e3 => rfl)))
  refine C244.out.mono ?_
  rintro e w245 ⟨rfl, hb246⟩
  have T247 := Lib.hid (T227.out.below hb246 T227.out.lt)
  have T248 := Lib.hid (T228.out.below hb246 T228.out.lt)
  have T249 := Lib.hid (T229.out.below hb246 T229.out.lt)
  have T250 := Lib.hid (T230.out.below hb246 T230.out.lt)
  have T251 := Lib.hid (T231.out.below hb246 T231.out.lt)
  have T252 := Lib.hid (T232.out.below hb246 T232.out.lt)
  have T253 := Lib.hid (T233.out.below hb246 T233.out.lt)
  have F254 := Lib.hid (F234.out.below hb246 (Nat.le_refl _))
  have F255 := Lib.hid (F235.out.below hb246 (Nat.le_refl _))
  have F256 := Lib.hid (F236.out.below hb246 (Nat.le_refl _))
  have F257 := Lib.hid (F237.out.below hb246 (Nat.le_refl _))
  have F258 := Lib.hid (F238.out.below hb246 (Nat.le_refl _))
  have F259 := Lib.hid (F239.out.below hb246 (Nat.le_refl _))
  have F260 := Lib.hid (F240.out.below hb246 (Nat.le_refl _))
  have B261 := Lib.hid (B241.out.trans (hb246.mono B241.out.size))
  clear hb246
  go_wp2
  go_ret
  exact ⟨rfl, B261.out⟩
set_option maxHeartbeats 16000000 in
theorem bjoins_04 (a b c : Bk) (w : World) (hlaid : Laid w) (wa : BkAt w a) (wb : BkAt w b) (wc : BkAt w c) (p : (fewB a.rs && fewB b.rs && fewB c.rs) = true) (X Z V : List Rc) (iMA : bmay a.rs = true) (iMB : bmay b.rs = true) (iMC : bmay c.rs = true) (iJX : bjE a.rs b.rs = (0, X)) (iJY : bjE b.rs a.rs = (0, X)) (iJZ : bjE b.rs c.rs = (4, Z)) (iJO : bjE a.rs a.rs = (0, a.rs)) (iSX : bsame X X = true) (iSA : bsame a.rs a.rs = true) :
    Calls Tryd.prog 4 #[.agg #[.slice a.A a.xs.length a.c], .agg #[.slice b.A b.xs.length b.c], .agg #[.slice c.A c.xs.length c.c]] w fun e w' => e = .returned (.bool true) ∧ Below w.heap.size w w' := by
  have HLA := Lib.hid (fun (X : World) (hX : Below w.heap.size w X) => hlaid.below hX (Nat.le_refl _))
  have Fa := Lib.hid wa
  have Fb := Lib.hid wb
  have Fc := Lib.hid wc
  clear hlaid wa wb wc
  simp only [Bool.and_eq_true] at p
  have PA := Lib.hid p.1.1
  have PB := Lib.hid p.1.2
  have PC := Lib.hid p.2
  clear p
  have MA := Lib.hid iMA
  have MB := Lib.hid iMB
  have MC := Lib.hid iMC
  have JX := Lib.hid iJX
  have JY := Lib.hid iJY
  have JZ := Lib.hid iJZ
  have JO := Lib.hid iJO
  have SX := Lib.hid iSX
  have SA := Lib.hid iSA
  clear iMA iMB iMC iJX iJY iJZ iJO iSX iSA
  have B1 := Lib.hid (Below.refl w.heap.size w)
  have T2n := BoAt.new w (.slice a.A a.xs.length a.c)
  have T2 := Lib.hid T2n
  clear T2n
  have B3 := Lib.hid (B1.out.alloc B1.out.size (.cells #[(.slice a.A a.xs.length a.c)] 41))
  have T4 := Lib.hid (T2.out.old (.cells #[(.slice b.A b.xs.length b.c)] 41))
  have T5n := BoAt.new (w.alloc (.cells #[(.slice a.A a.xs.length a.c)] 41)) (.slice b.A b.xs.length b.c)
  simp only [World.size_alloc] at T5n
  have T5 := Lib.hid T5n
  clear T5n
  have B6 := Lib.hid (B3.out.alloc B3.out.size (.cells #[(.slice b.A b.xs.length b.c)] 41))
  have T7 := Lib.hid (T4.out.old (.cells #[(.slice c.A c.xs.length c.c)] 41))
  have T8 := Lib.hid (T5.out.old (.cells #[(.slice c.A c.xs.length c.c)] 41))
  have T9n := BoAt.new ((w.alloc (.cells #[(.slice a.A a.xs.length a.c)] 41)).alloc (.cells #[(.slice b.A b.xs.length b.c)] 41)) (.slice c.A c.xs.length c.c)
  simp only [World.size_alloc] at T9n
  have T9 := Lib.hid T9n
  clear T9n
  have B10 := Lib.hid (B6.out.alloc B6.out.size (.cells #[(.slice c.A c.xs.length c.c)] 41))
  have F11 := Lib.hid (Fa.out.below B10.out (Nat.le_refl _))
  have F12 := Lib.hid (Fb.out.below B10.out (Nat.le_refl _))
  have F13 := Lib.hid (Fc.out.below B10.out (Nat.le_refl _))
  go_enter Tryd.func4, Tryd.ntmps4
  have C14 := Lib.hid (bkAwake (((w.alloc (.cells #[(.slice a.A a.xs.length a.c)] 41)).alloc (.cells #[(.slice b.A b.xs.length b.c)] 41)).alloc (.cells #[(.slice c.A c.xs.length c.c)] 41)) (HLA.out _ B10.out))
  go_wp2_with fail
  refine C14.out.mono ?_
  rintro e w15 ⟨rfl, hb16⟩
  have T17 := Lib.hid (T7.out.below hb16 T7.out.lt)
  have T18 := Lib.hid (T8.out.below hb16 T8.out.lt)
  have T19 := Lib.hid (T9.out.below hb16 T9.out.lt)
  have F20 := Lib.hid (F11.out.below hb16 (Nat.le_refl _))
  have F21 := Lib.hid (F12.out.below hb16 (Nat.le_refl _))
  have F22 := Lib.hid (F13.out.below hb16 (Nat.le_refl _))
  have B23 := Lib.hid (B10.out.trans (hb16.mono B10.out.size))
  clear hb16
  have M24 := Lib.hid (T17.out.load)
  have C25 := Lib.hid (fewB_any a w15 F20.out)
  rw [PA.out] at C25
  go_wp2_with (first | ((with_reducible refine wpList_load_by (o := ⟨some 24, .load 41 (.tmp 3), _, _, _, _⟩) ?e1 41 (.tmp 3) ?e2 ⟨w.heap.size, 0, none⟩ ?e3 _ M24.out ?_); (case e1 => rfl); (case e2 => rfl); (case e3 => rfl)))
  refine C25.out.mono ?_
  rintro e w26 ⟨rfl, hb27⟩
  have T28 := Lib.hid (T17.out.below hb27 T17.out.lt)
  have T29 := Lib.hid (T18.out.below hb27 T18.out.lt)
  have T30 := Lib.hid (T19.out.below hb27 T19.out.lt)
  have F31 := Lib.hid (F20.out.below hb27 (Nat.le_refl _))
  have F32 := Lib.hid (F21.out.below hb27 (Nat.le_refl _))
  have F33 := Lib.hid (F22.out.below hb27 (Nat.le_refl _))
  have B34 := Lib.hid (B23.out.trans (hb27.mono B23.out.size))
  clear hb27
  have M35 := Lib.hid (T29.out.load)
  have C36 := Lib.hid (fewB_any b w26 F32.out)
  rw [PB.out] at C36
  go_wp2_with (first | ((with_reducible refine wpList_load_by (o := ⟨some 26, .load 41 (.tmp 4), _, _, _, _⟩) ?e1 41 (.tmp 4) ?e2 ⟨(w.heap.size + 1), 0, none⟩ ?e3 _ M35.out ?_); (case e1 => rfl); (case e2 => rfl); (case e3 => rfl)))
  refine C36.out.mono ?_
  rintro e w37 ⟨rfl, hb38⟩
  have T39 := Lib.hid (T28.out.below hb38 T28.out.lt)
  have T40 := Lib.hid (T29.out.below hb38 T29.out.lt)
  have T41 := Lib.hid (T30.out.below hb38 T30.out.lt)
  have F42 := Lib.hid (F31.out.below hb38 (Nat.le_refl _))
  have F43 := Lib.hid (F32.out.below hb38 (Nat.le_refl _))
  have F44 := Lib.hid (F33.out.below hb38 (Nat.le_refl _))
  have B45 := Lib.hid (B34.out.trans (hb38.mono B34.out.size))
  clear hb38
  have M46 := Lib.hid (T41.out.load)
  have C47 := Lib.hid (fewB_any c w37 F44.out)
  rw [PC.out] at C47
  go_wp2_with (first | ((with_reducible refine wpList_load_by (o := ⟨some 28, .load 41 (.tmp 5), _, _, _, _⟩) ?e1 41 (.tmp 5) ?e2 ⟨(w.heap.size + 1 + 1), 0, none⟩ ?e3 _ M46.out ?_); (case e1 => rfl); (case e2 => rfl); (case e3 => rfl)))
  refine C47.out.mono ?_
  rintro e w48 ⟨rfl, hb49⟩
  have T50 := Lib.hid (T39.out.below hb49 T39.out.lt)
  have T51 := Lib.hid (T40.out.below hb49 T40.out.lt)
  have T52 := Lib.hid (T41.out.below hb49 T41.out.lt)
  have F53 := Lib.hid (F42.out.below hb49 (Nat.le_refl _))
  have F54 := Lib.hid (F43.out.below hb49 (Nat.le_refl _))
  have F55 := Lib.hid (F44.out.below hb49 (Nat.le_refl _))
  have B56 := Lib.hid (B45.out.trans (hb49.mono B45.out.size))
  clear hb49
  have M57 := Lib.hid (T50.out.load)
  have C58 := Lib.hid (bmay_any a w48 F53.out)
  rw [MA.out] at C58
  go_wp2_with (first | ((with_reducible refine wpList_load_by (o := ⟨some 45, .load 41 (.tmp 3), _, _, _, _⟩) ?e1 41 (.tmp 3) ?e2 ⟨w.heap.size, 0, none⟩ ?e3 _ M57.out ?_); (case e1 => rfl); (case e2 => rfl); (case e3 => rfl)))
  refine C58.out.mono ?_
  rintro e w59 ⟨rfl, hb60⟩
  have T61 := Lib.hid (T50.out.below hb60 T50.out.lt)
  have T62 := Lib.hid (T51.out.below hb60 T51.out.lt)
  have T63 := Lib.hid (T52.out.below hb60 T52.out.lt)
  have F64 := Lib.hid (F53.out.below hb60 (Nat.le_refl _))
  have F65 := Lib.hid (F54.out.below hb60 (Nat.le_refl _))
  have F66 := Lib.hid (F55.out.below hb60 (Nat.le_refl _))
  have B67 := Lib.hid (B56.out.trans (hb60.mono B56.out.size))
  clear hb60
  have M68 := Lib.hid (T62.out.load)
  have C69 := Lib.hid (bmay_any b w59 F65.out)
  rw [MB.out] at C69
  go_wp2_with (first | ((with_reducible refine wpList_load_by (o := ⟨some 50, .load 41 (.tmp 4), _, _, _, _⟩) ?e1 41 (.tmp 4) ?e2 ⟨(w.heap.size + 1), 0, none⟩ ?e3 _ M68.out ?_); (case e1 => rfl); (case e2 => rfl); (case e3 => rfl)))
  refine C69.out.mono ?_
  rintro e w70 ⟨rfl, hb71⟩
  have T72 := Lib.hid (T61.out.below hb71 T61.out.lt)
  have T73 := Lib.hid (T62.out.below hb71 T62.out.lt)
  have T74 := Lib.hid (T63.out.below hb71 T63.out.lt)
  have F75 := Lib.hid (F64.out.below hb71 (Nat.le_refl _))
  have F76 := Lib.hid (F65.out.below hb71 (Nat.le_refl _))
  have F77 := Lib.hid (F66.out.below hb71 (Nat.le_refl _))
  have B78 := Lib.hid (B67.out.trans (hb71.mono B67.out.size))
  clear hb71
  have M79 := Lib.hid (T74.out.load)
  have C80 := Lib.hid (bmay_any c w70 F77.out)
  rw [MC.out] at C80
  go_wp2_with (first | ((with_reducible refine wpList_load_by (o := ⟨some 55, .load 41 (.tmp 5), _, _, _, _⟩) ?e1 41 (.tmp 5) ?e2 ⟨(w.heap.size + 1 + 1), 0, none⟩ ?e3 _ M79.out ?_); (case e1 => rfl); (case e2 => rfl); (case e3 => rfl)))
  refine C80.out.mono ?_
  rintro e w81 ⟨rfl, hb82⟩
  have T83 := Lib.hid (T72.out.below hb82 T72.out.lt)
  have T84 := Lib.hid (T73.out.below hb82 T73.out.lt)
  have T85 := Lib.hid (T74.out.below hb82 T74.out.lt)
  have F86 := Lib.hid (F75.out.below hb82 (Nat.le_refl _))
  have F87 := Lib.hid (F76.out.below hb82 (Nat.le_refl _))
  have F88 := Lib.hid (F77.out.below hb82 (Nat.le_refl _))
  have B89 := Lib.hid (B78.out.trans (hb82.mono B78.out.size))
  clear hb82
  have M93 := Lib.hid (T83.out.load)
  have M94 := Lib.hid (T84.out.load)
  have C95 := Lib.hid (bjoin_any a b w81 (HLA.out _ B89.out) F86.out F87.out)
  unfold BJoinPost at C95
  rw [JX.out] at C95
  dsimp only at C95
  go_wp2_with (first | ((with_reducible refine wpList_load_by (o := ⟨some 61, .load 41 (.tmp 3), _, _, _, _⟩) ?e1 41 (.tmp 3) ?e2 ⟨w.heap.size, 0, none⟩ ?e3 _ M93.out ?_); (case e1 => rfl); (case e2 => rfl); (case e3 => rfl)) | ((with_reducible refine wpList_load_by (o := ⟨some 62, .load 41 (.tmp 4), _, _, _, _⟩) ?e1 41 (.tmp 4) ?e2 ⟨(w.heap.size + 1), 0, none⟩ ?e3 _ M94.out ?_); (case e1 => rfl); (case e2 => rfl); (case e3 => rfl)))
  refine C95.out.mono ?_
  rintro e w96 ⟨d90, rfl, hd91, hk92, hb97⟩
  have T98 := Lib.hid (T83.out.below hb97 T83.out.lt)
  have T99 := Lib.hid (T84.out.below hb97 T84.out.lt)
  have T100 := Lib.hid (T85.out.below hb97 T85.out.lt)
  have F101 := Lib.hid (F86.out.below hb97 (Nat.le_refl _))
  have F102 := Lib.hid (F87.out.below hb97 (Nat.le_refl _))
  have F103 := Lib.hid (F88.out.below hb97 (Nat.le_refl _))
  have B104 := Lib.hid (B89.out.trans (hb97.mono B89.out.size))
  clear hb97
  have E105 := Lib.hid (hd91)
  have F106 := Lib.hid (hk92)
  clear hd91 hk92
  have hb107 := (Below.refl w96.heap.size w96).alloc (Nat.le_refl _) (.cells #[(.slice d90.A d90.xs.length d90.c)] 41)
  have T108 := Lib.hid (BoAt.new w96 (.slice d90.A d90.xs.length d90.c))
  have T109 := Lib.hid (T98.out.below hb107 T98.out.lt)
  have T110 := Lib.hid (T99.out.below hb107 T99.out.lt)
  have T111 := Lib.hid (T100.out.below hb107 T100.out.lt)
  have F112 := Lib.hid (F101.out.below hb107 (Nat.le_refl _))
  have F113 := Lib.hid (F102.out.below hb107 (Nat.le_refl _))
  have F114 := Lib.hid (F103.out.below hb107 (Nat.le_refl _))
  have F115 := Lib.hid (F106.out.below hb107 (Nat.le_refl _))
  have B116 := Lib.hid (B104.out.trans (hb107.mono B104.out.size))
  clear hb107
  have M120 := Lib.hid (T110.out.load)
  have M121 := Lib.hid (T109.out.load)
  have C122 := Lib.hid (bjoin_any b a (w96.alloc (.cells #[(.slice d90.A d90.xs.length d90.c)] 41)) (HLA.out _ B116.out) F113.out F112.out)
  unfold BJoinPost at C122
  rw [JY.out] at C122
  dsimp only at C122
  go_wp2_with (first | ((with_reducible refine wpList_load_by (o := ⟨some 67, .load 41 (.tmp 4), _, _, _, _⟩) ?e1 41 (.tmp 4) ?e2 ⟨(w.heap.size + 1), 0, none⟩ ?e3 _ M120.out ?_); (case e1 => rfl); (case e2 => rfl); (case e3 => rfl)) | ((with_reducible refine wpList_load_by (o := ⟨some 68, .load 41 (.tmp 3), _, _, _, _⟩) ?e1 41 (.tmp 3) ?e2 ⟨w.heap.size, 0, none⟩ ?e3 _ M121.out ?_); (case e1 => rfl); (case e2 => rfl); (case e3 => rfl)))
  refine C122.out.mono ?_
  rintro e w123 ⟨d117, rfl, hd118, hk119, hb124⟩
  have T125 := Lib.hid (T109.out.below hb124 T109.out.lt)
  have T126 := Lib.hid (T110.out.below hb124 T110.out.lt)
  have T127 := Lib.hid (T111.out.below hb124 T111.out.lt)
  have T128 := Lib.hid (T108.out.below hb124 T108.out.lt)
  have F129 := Lib.hid (F112.out.below hb124 (Nat.le_refl _))
  have F130 := Lib.hid (F113.out.below hb124 (Nat.le_refl _))
  have F131 := Lib.hid (F114.out.below hb124 (Nat.le_refl _))
  have F132 := Lib.hid (F115.out.below hb124 (Nat.le_refl _))
  have B133 := Lib.hid (B116.out.trans (hb124.mono B116.out.size))
  clear hb124
  have E134 := Lib.hid (hd118)
  have F135 := Lib.hid (hk119)
  clear hd118 hk119
  have hb136 := (Below.refl w123.heap.size w123).alloc (Nat.le_refl _) (.cells #[(.slice d117.A d117.xs.length d117.c)] 41)
  have T137 := Lib.hid (BoAt.new w123 (.slice d117.A d117.xs.length d117.c))
  have T138 := Lib.hid (T125.out.below hb136 T125.out.lt)
  have T139 := Lib.hid (T126.out.below hb136 T126.out.lt)
  have T140 := Lib.hid (T127.out.below hb136 T127.out.lt)
  have T141 := Lib.hid (T128.out.below hb136 T128.out.lt)
  have F142 := Lib.hid (F129.out.below hb136 (Nat.le_refl _))
  have F143 := Lib.hid (F130.out.below hb136 (Nat.le_refl _))
  have F144 := Lib.hid (F131.out.below hb136 (Nat.le_refl _))
  have F145 := Lib.hid (F132.out.below hb136 (Nat.le_refl _))
  have F146 := Lib.hid (F135.out.below hb136 (Nat.le_refl _))
  have B147 := Lib.hid (B133.out.trans (hb136.mono B133.out.size))
  clear hb136
  have M151 := Lib.hid (T139.out.load)
  have M152 := Lib.hid (T140.out.load)
  have C153 := Lib.hid (bjoin_any b c (w123.alloc (.cells #[(.slice d117.A d117.xs.length d117.c)] 41)) (HLA.out _ B147.out) F143.out F144.out)
  unfold BJoinPost at C153
  rw [JZ.out] at C153
  dsimp only at C153
  go_wp2_with (first | ((with_reducible refine wpList_load_by (o := ⟨some 73, .load 41 (.tmp 4), _, _, _, _⟩) ?e1 41 (.tmp 4) ?e2 ⟨(w.heap.size + 1), 0, none⟩ ?e3 _ M151.out ?_); (case e1 => rfl); (case e2 => rfl); (case e3 => rfl)) | ((with_reducible refine wpList_load_by (o := ⟨some 74, .load 41 (.tmp 5), _, _, _, _⟩) ?e1 41 (.tmp 5) ?e2 ⟨(w.heap.size + 1 + 1), 0, none⟩ ?e3 _ M152.out ?_); (case e1 => rfl); (case e2 => rfl); (case e3 => rfl)))
  refine C153.out.mono ?_
  rintro e w154 ⟨d148, rfl, hd149, hk150, hb155⟩
  have T156 := Lib.hid (T138.out.below hb155 T138.out.lt)
  have T157 := Lib.hid (T139.out.below hb155 T139.out.lt)
  have T158 := Lib.hid (T140.out.below hb155 T140.out.lt)
  have T159 := Lib.hid (T141.out.below hb155 T141.out.lt)
  have T160 := Lib.hid (T137.out.below hb155 T137.out.lt)
  have F161 := Lib.hid (F142.out.below hb155 (Nat.le_refl _))
  have F162 := Lib.hid (F143.out.below hb155 (Nat.le_refl _))
  have F163 := Lib.hid (F144.out.below hb155 (Nat.le_refl _))
  have F164 := Lib.hid (F145.out.below hb155 (Nat.le_refl _))
  have F165 := Lib.hid (F146.out.below hb155 (Nat.le_refl _))
  have B166 := Lib.hid (B147.out.trans (hb155.mono B147.out.size))
  clear hb155
  have E167 := Lib.hid (hd149)
  have F168 := Lib.hid (hk150)
  clear hd149 hk150
  have hb169 := (Below.refl w154.heap.size w154).alloc (Nat.le_refl _) (.cells #[(.slice d148.A d148.xs.length d148.c)] 41)
  have T170 := Lib.hid (BoAt.new w154 (.slice d148.A d148.xs.length d148.c))
  have T171 := Lib.hid (T156.out.below hb169 T156.out.lt)
  have T172 := Lib.hid (T157.out.below hb169 T157.out.lt)
  have T173 := Lib.hid (T158.out.below hb169 T158.out.lt)
  have T174 := Lib.hid (T159.out.below hb169 T159.out.lt)
  have T175 := Lib.hid (T160.out.below hb169 T160.out.lt)
  have F176 := Lib.hid (F161.out.below hb169 (Nat.le_refl _))
  have F177 := Lib.hid (F162.out.below hb169 (Nat.le_refl _))
  have F178 := Lib.hid (F163.out.below hb169 (Nat.le_refl _))
  have F179 := Lib.hid (F164.out.below hb169 (Nat.le_refl _))
  have F180 := Lib.hid (F165.out.below hb169 (Nat.le_refl _))
  have F181 := Lib.hid (F168.out.below hb169 (Nat.le_refl _))
  have B182 := Lib.hid (B166.out.trans (hb169.mono B166.out.size))
  clear hb169
  have M186 := Lib.hid (T171.out.load)
  have M187 := Lib.hid (T171.out.load)
  have C188 := Lib.hid (bjoin_any a a (w154.alloc (.cells #[(.slice d148.A d148.xs.length d148.c)] 41)) (HLA.out _ B182.out) F176.out F176.out)
  unfold BJoinPost at C188
  rw [JO.out] at C188
  dsimp only at C188
  go_wp2_with (first | ((with_reducible refine wpList_load_by (o := ⟨some 79, .load 41 (.tmp 3), _, _, _, _⟩) ?e1 41 (.tmp 3) ?e2 ⟨w.heap.size, 0, none⟩ ?e3 _ M186.out ?_); (case e1 => rfl); (case e2 => rfl); (case e3 => rfl)) | ((with_reducible refine wpList_load_by (o := ⟨some 80, .load 41 (.tmp 3), _, _, _, _⟩) ?e1 41 (.tmp 3) ?e2 ⟨w.heap.size, 0, none⟩ ?e3 _ M187.out ?_); (case e1 => rfl); (case e2 => rfl); (case e3 => rfl)))
  refine C188.out.mono ?_
  rintro e w189 ⟨d183, rfl, hd184, hk185, hb190⟩
  have T191 := Lib.hid (T171.out.below hb190 T171.out.lt)
  have T192 := Lib.hid (T172.out.below hb190 T172.out.lt)
  have T193 := Lib.hid (T173.out.below hb190 T173.out.lt)
  have T194 := Lib.hid (T174.out.below hb190 T174.out.lt)
  have T195 := Lib.hid (T175.out.below hb190 T175.out.lt)
  have T196 := Lib.hid (T170.out.below hb190 T170.out.lt)
  have F197 := Lib.hid (F176.out.below hb190 (Nat.le_refl _))
  have F198 := Lib.hid (F177.out.below hb190 (Nat.le_refl _))
  have F199 := Lib.hid (F178.out.below hb190 (Nat.le_refl _))
  have F200 := Lib.hid (F179.out.below hb190 (Nat.le_refl _))
  have F201 := Lib.hid (F180.out.below hb190 (Nat.le_refl _))
  have F202 := Lib.hid (F181.out.below hb190 (Nat.le_refl _))
  have B203 := Lib.hid (B182.out.trans (hb190.mono B182.out.size))
  clear hb190
  have E204 := Lib.hid (hd184)
  have F205 := Lib.hid (hk185)
  clear hd184 hk185
  have hb206 := (Below.refl w189.heap.size w189).alloc (Nat.le_refl _) (.cells #[(.slice d183.A d183.xs.length d183.c)] 41)
  have T207 := Lib.hid (BoAt.new w189 (.slice d183.A d183.xs.length d183.c))
  have T208 := Lib.hid (T191.out.below hb206 T191.out.lt)
  have T209 := Lib.hid (T192.out.below hb206 T192.out.lt)
  have T210 := Lib.hid (T193.out.below hb206 T193.out.lt)
  have T211 := Lib.hid (T194.out.below hb206 T194.out.lt)
  have T212 := Lib.hid (T195.out.below hb206 T195.out.lt)
  have T213 := Lib.hid (T196.out.below hb206 T196.out.lt)
  have F214 := Lib.hid (F197.out.below hb206 (Nat.le_refl _))
  have F215 := Lib.hid (F198.out.below hb206 (Nat.le_refl _))
  have F216 := Lib.hid (F199.out.below hb206 (Nat.le_refl _))
  have F217 := Lib.hid (F200.out.below hb206 (Nat.le_refl _))
  have F218 := Lib.hid (F201.out.below hb206 (Nat.le_refl _))
  have F219 := Lib.hid (F202.out.below hb206 (Nat.le_refl _))
  have F220 := Lib.hid (F205.out.below hb206 (Nat.le_refl _))
  have B221 := Lib.hid (B203.out.trans (hb206.mono B203.out.size))
  clear hb206
  have M222 := Lib.hid (T211.out.load)
  have M223 := Lib.hid (T212.out.load)
  have C224 := Lib.hid (bsame_any d90 d117 (w189.alloc (.cells #[(.slice d183.A d183.xs.length d183.c)] 41)) F217.out F218.out)
  try rw [E105.out] at C224
  try rw [E134.out] at C224
  rw [SX.out] at C224
  go_wp2_with (first | ((with_reducible refine wpList_load_by (o := ⟨some 88, .load 41 (.tmp 11), _, _, _, _⟩) ?e1 41 (.tmp 11) ?e2 ⟨w96.heap.size, 0, none⟩ ?e3 _ M222.out ?_); (case e1 => rfl); (case e2 => rfl); (case e3 => rfl)) | ((with_reducible refine wpList_load_by (o := ⟨some 89, .load 41 (.tmp 13), _, _, _, _⟩) ?e1 41 (.tmp 13) ?e2 ⟨w123.heap.size, 0, none⟩ ?e3 _ M223.out ?_); (case e1 => rfl); (case e2 => rfl); (case e3 => rfl)))
  refine C224.out.mono ?_
  rintro e w225 ⟨rfl, hb226⟩
  have T227 := Lib.hid (T208.out.below hb226 T208.out.lt)
  have T228 := Lib.hid (T209.out.below hb226 T209.out.lt)
  have T229 := Lib.hid (T210.out.below hb226 T210.out.lt)
  have T230 := Lib.hid (T211.out.below hb226 T211.out.lt)
  have T231 := Lib.hid (T212.out.below hb226 T212.out.lt)
  have T232 := Lib.hid (T213.out.below hb226 T213.out.lt)
  have T233 := Lib.hid (T207.out.below hb226 T207.out.lt)
  have F234 := Lib.hid (F214.out.below hb226 (Nat.le_refl _))
  have F235 := Lib.hid (F215.out.below hb226 (Nat.le_refl _))
  have F236 := Lib.hid (F216.out.below hb226 (Nat.le_refl _))
  have F237 := Lib.hid (F217.out.below hb226 (Nat.le_refl _))
  have F238 := Lib.hid (F218.out.below hb226 (Nat.le_refl _))
  have F239 := Lib.hid (F219.out.below hb226 (Nat.le_refl _))
  have F240 := Lib.hid (F220.out.below hb226 (Nat.le_refl _))
  have B241 := Lib.hid (B221.out.trans (hb226.mono B221.out.size))
  clear hb226
  have M242 := Lib.hid (T233.out.load)
  have M243 := Lib.hid (T227.out.load)
  have C244 := Lib.hid (bsame_any d183 a w225 F240.out F234.out)
  try rw [E204.out] at C244
  rw [SA.out] at C244
  go_wp2_with (first | ((with_reducible refine wpList_load_by (o := ⟨some 98, .load 41 (.tmp 17), _, _, _, _⟩) ?e1 41 (.tmp 17) ?e2 ⟨w189.heap.size, 0, none⟩ ?e3 _ M242.out ?_); (case e1 => rfl); (case e2 => rfl); (case e3 => rfl)) | ((with_reducible refine wpList_load_by (o := ⟨some 99, .load 41 (.tmp 3), _, _, _, _⟩) ?e1 41 (.tmp 3) ?e2 ⟨w.heap.size, 0, none⟩ ?e3 _ M243.out ?_); (case e1 => rfl); (case e2 => rfl); (case e3 => rfl)))
  refine C244.out.mono ?_
  rintro e w245 ⟨rfl, hb246⟩
  have T247 := Lib.hid (T227.out.below hb246 T227.out.lt)
  have T248 := Lib.hid (T228.out.below hb246 T228.out.lt)
  have T249 := Lib.hid (T229.out.below hb246 T229.out.lt)
  have T250 := Lib.hid (T230.out.below hb246 T230.out.lt)
  have T251 := Lib.hid (T231.out.below hb246 T231.out.lt)
  have T252 := Lib.hid (T232.out.below hb246 T232.out.lt)
  have T253 := Lib.hid (T233.out.below hb246 T233.out.lt)
  have F254 := Lib.hid (F234.out.below hb246 (Nat.le_refl _))
  have F255 := Lib.hid (F235.out.below hb246 (Nat.le_refl _))
  have F256 := Lib.hid (F236.out.below hb246 (Nat.le_refl _))
  have F257 := Lib.hid (F237.out.below hb246 (Nat.le_refl _))
  have F258 := Lib.hid (F238.out.below hb246 (Nat.le_refl _))
  have F259 := Lib.hid (F239.out.below hb246 (Nat.le_refl _))
  have F260 := Lib.hid (F240.out.below hb246 (Nat.le_refl _))
  have B261 := Lib.hid (B241.out.trans (hb246.mono B241.out.size))
  clear hb246
  go_wp2
  go_ret
  exact ⟨rfl, B261.out⟩
set_option maxHeartbeats 16000000 in
theorem bjoins_004 (a b c : Bk) (w : World) (hlaid : Laid w) (wa : BkAt w a) (wb : BkAt w b) (wc : BkAt w c) (p : (fewB a.rs && fewB b.rs && fewB c.rs) = true) (X Z V : List Rc) (iMA : bmay a.rs = true) (iMB : bmay b.rs = true) (iMC : bmay c.rs = true) (iJX : bjE a.rs b.rs = (0, X)) (iJY : bjE b.rs a.rs = (0, X)) (iJZ : bjE b.rs c.rs = (0, Z)) (iJO : bjE a.rs a.rs = (0, a.rs)) (iSX : bsame X X = true) (iSA : bsame a.rs a.rs = true) (iJV : bjE X c.rs = (4, V)) (iJW : bjE a.rs Z = (4, V)) (iSV : bsame V V = true) (iMX : bmay X = true) (iLAX : bleq a.rs X = true) (iLBX : bleq b.rs X = true) :
    Calls Tryd.prog 4 #[.agg #[.slice a.A a.xs.length a.c], .agg #[.slice b.A b.xs.length b.c], .agg #[.slice c.A c.xs.length c.c]] w fun e w' => e = .returned (.bool true) ∧ Below w.heap.size w w' := by
  have HLA := Lib.hid (fun (X : World) (hX : Below w.heap.size w X) => hlaid.below hX (Nat.le_refl _))
  have Fa := Lib.hid wa
  have Fb := Lib.hid wb
  have Fc := Lib.hid wc
  clear hlaid wa wb wc
  simp only [Bool.and_eq_true] at p
  have PA := Lib.hid p.1.1
  have PB := Lib.hid p.1.2
  have PC := Lib.hid p.2
  clear p
  have MA := Lib.hid iMA
  have MB := Lib.hid iMB
  have MC := Lib.hid iMC
  have JX := Lib.hid iJX
  have JY := Lib.hid iJY
  have JZ := Lib.hid iJZ
  have JO := Lib.hid iJO
  have SX := Lib.hid iSX
  have SA := Lib.hid iSA
  have JV := Lib.hid iJV
  have JW := Lib.hid iJW
  have SV := Lib.hid iSV
  have MX := Lib.hid iMX
  have LAX := Lib.hid iLAX
  have LBX := Lib.hid iLBX
  clear iMA iMB iMC iJX iJY iJZ iJO iSX iSA iJV iJW iSV iMX iLAX iLBX
  have B1 := Lib.hid (Below.refl w.heap.size w)
  have T2n := BoAt.new w (.slice a.A a.xs.length a.c)
  have T2 := Lib.hid T2n
  clear T2n
  have B3 := Lib.hid (B1.out.alloc B1.out.size (.cells #[(.slice a.A a.xs.length a.c)] 41))
  have T4 := Lib.hid (T2.out.old (.cells #[(.slice b.A b.xs.length b.c)] 41))
  have T5n := BoAt.new (w.alloc (.cells #[(.slice a.A a.xs.length a.c)] 41)) (.slice b.A b.xs.length b.c)
  simp only [World.size_alloc] at T5n
  have T5 := Lib.hid T5n
  clear T5n
  have B6 := Lib.hid (B3.out.alloc B3.out.size (.cells #[(.slice b.A b.xs.length b.c)] 41))
  have T7 := Lib.hid (T4.out.old (.cells #[(.slice c.A c.xs.length c.c)] 41))
  have T8 := Lib.hid (T5.out.old (.cells #[(.slice c.A c.xs.length c.c)] 41))
  have T9n := BoAt.new ((w.alloc (.cells #[(.slice a.A a.xs.length a.c)] 41)).alloc (.cells #[(.slice b.A b.xs.length b.c)] 41)) (.slice c.A c.xs.length c.c)
  simp only [World.size_alloc] at T9n
  have T9 := Lib.hid T9n
  clear T9n
  have B10 := Lib.hid (B6.out.alloc B6.out.size (.cells #[(.slice c.A c.xs.length c.c)] 41))
  have F11 := Lib.hid (Fa.out.below B10.out (Nat.le_refl _))
  have F12 := Lib.hid (Fb.out.below B10.out (Nat.le_refl _))
  have F13 := Lib.hid (Fc.out.below B10.out (Nat.le_refl _))
  go_enter Tryd.func4, Tryd.ntmps4
  have C14 := Lib.hid (bkAwake (((w.alloc (.cells #[(.slice a.A a.xs.length a.c)] 41)).alloc (.cells #[(.slice b.A b.xs.length b.c)] 41)).alloc (.cells #[(.slice c.A c.xs.length c.c)] 41)) (HLA.out _ B10.out))
  go_wp2_with fail
  refine C14.out.mono ?_
  rintro e w15 ⟨rfl, hb16⟩
  have T17 := Lib.hid (T7.out.below hb16 T7.out.lt)
  have T18 := Lib.hid (T8.out.below hb16 T8.out.lt)
  have T19 := Lib.hid (T9.out.below hb16 T9.out.lt)
  have F20 := Lib.hid (F11.out.below hb16 (Nat.le_refl _))
  have F21 := Lib.hid (F12.out.below hb16 (Nat.le_refl _))
  have F22 := Lib.hid (F13.out.below hb16 (Nat.le_refl _))
  have B23 := Lib.hid (B10.out.trans (hb16.mono B10.out.size))
  clear hb16
  have M24 := Lib.hid (T17.out.load)
  have C25 := Lib.hid (fewB_any a w15 F20.out)
  rw [PA.out] at C25
  go_wp2_with (first | ((with_reducible refine wpList_load_by (o := ⟨some 24, .load 41 (.tmp 3), _, _, _, _⟩) ?e1 41 (.tmp 3) ?e2 ⟨w.heap.size, 0, none⟩ ?e3 _ M24.out ?_); (case e1 => rfl); (case e2 => rfl); (case e3 => rfl)))
  refine C25.out.mono ?_
  rintro e w26 ⟨rfl, hb27⟩
  have T28 := Lib.hid (T17.out.below hb27 T17.out.lt)
  have T29 := Lib.hid (T18.out.below hb27 T18.out.lt)
  have T30 := Lib.hid (T19.out.below hb27 T19.out.lt)
  have F31 := Lib.hid (F20.out.below hb27 (Nat.le_refl _))
  have F32 := Lib.hid (F21.out.below hb27 (Nat.le_refl _))
  have F33 := Lib.hid (F22.out.below hb27 (Nat.le_refl _))
  have B34 := Lib.hid (B23.out.trans (hb27.mono B23.out.size))
  clear hb27
  have M35 := Lib.hid (T29.out.load)
  have C36 := Lib.hid (fewB_any b w26 F32.out)
  rw [PB.out] at C36
  go_wp2_with (first | ((with_reducible refine wpList_load_by (o := ⟨some 26, .load 41 (.tmp 4), _, _, _, _⟩) ?e1 41 (.tmp 4) ?e2 ⟨(w.heap.size + 1), 0, none⟩ ?e3 _ M35.out ?_); (case e1 => rfl); (case e2 => rfl); (case e3 => rfl)))
  refine C36.out.mono ?_
  rintro e w37 ⟨rfl, hb38⟩
  have T39 := Lib.hid (T28.out.below hb38 T28.out.lt)
  have T40 := Lib.hid (T29.out.below hb38 T29.out.lt)
  have T41 := Lib.hid (T30.out.below hb38 T30.out.lt)
  have F42 := Lib.hid (F31.out.below hb38 (Nat.le_refl _))
  have F43 := Lib.hid (F32.out.below hb38 (Nat.le_refl _))
  have F44 := Lib.hid (F33.out.below hb38 (Nat.le_refl _))
  have B45 := Lib.hid (B34.out.trans (hb38.mono B34.out.size))
  clear hb38
  have M46 := Lib.hid (T41.out.load)
  have C47 := Lib.hid (fewB_any c w37 F44.out)
  rw [PC.out] at C47
  go_wp2_with (first | ((with_reducible refine wpList_load_by (o := ⟨some 28, .load 41 (.tmp 5), _, _, _, _⟩) ?e1 41 (.tmp 5) ?e2 ⟨(w.heap.size + 1 + 1), 0, none⟩ ?e3 _ M46.out ?_); (case e1 => rfl); (case e2 => rfl); (case e3 => rfl)))
  refine C47.out.mono ?_
  rintro e w48 ⟨rfl, hb49⟩
  have T50 := Lib.hid (T39.out.below hb49 T39.out.lt)
  have T51 := Lib.hid (T40.out.below hb49 T40.out.lt)
  have T52 := Lib.hid (T41.out.below hb49 T41.out.lt)
  have F53 := Lib.hid (F42.out.below hb49 (Nat.le_refl _))
  have F54 := Lib.hid (F43.out.below hb49 (Nat.le_refl _))
  have F55 := Lib.hid (F44.out.below hb49 (Nat.le_refl _))
  have B56 := Lib.hid (B45.out.trans (hb49.mono B45.out.size))
  clear hb49
  have M57 := Lib.hid (T50.out.load)
  have C58 := Lib.hid (bmay_any a w48 F53.out)
  rw [MA.out] at C58
  go_wp2_with (first | ((with_reducible refine wpList_load_by (o := ⟨some 45, .load 41 (.tmp 3), _, _, _, _⟩) ?e1 41 (.tmp 3) ?e2 ⟨w.heap.size, 0, none⟩ ?e3 _ M57.out ?_); (case e1 => rfl); (case e2 => rfl); (case e3 => rfl)))
  refine C58.out.mono ?_
  rintro e w59 ⟨rfl, hb60⟩
  have T61 := Lib.hid (T50.out.below hb60 T50.out.lt)
  have T62 := Lib.hid (T51.out.below hb60 T51.out.lt)
  have T63 := Lib.hid (T52.out.below hb60 T52.out.lt)
  have F64 := Lib.hid (F53.out.below hb60 (Nat.le_refl _))
  have F65 := Lib.hid (F54.out.below hb60 (Nat.le_refl _))
  have F66 := Lib.hid (F55.out.below hb60 (Nat.le_refl _))
  have B67 := Lib.hid (B56.out.trans (hb60.mono B56.out.size))
  clear hb60
  have M68 := Lib.hid (T62.out.load)
  have C69 := Lib.hid (bmay_any b w59 F65.out)
  rw [MB.out] at C69
  go_wp2_with (first | ((with_reducible refine wpList_load_by (o := ⟨some 50, .load 41 (.tmp 4), _, _, _, _⟩) ?e1 41 (.tmp 4) ?e2 ⟨(w.heap.size + 1), 0, none⟩ ?e3 _ M68.out ?_); (case e1 => rfl); (case e2 => rfl); (case e3 => rfl)))
  refine C69.out.mono ?_
  rintro e w70 ⟨rfl, hb71⟩
  have T72 := Lib.hid (T61.out.below hb71 T61.out.lt)
  have T73 := Lib.hid (T62.out.below hb71 T62.out.lt)
  have T74 := Lib.hid (T63.out.below hb71 T63.out.lt)
  have F75 := Lib.hid (F64.out.below hb71 (Nat.le_refl _))
  have F76 := Lib.hid (F65.out.below hb71 (Nat.le_refl _))
  have F77 := Lib.hid (F66.out.below hb71 (Nat.le_refl _))
  have B78 := Lib.hid (B67.out.trans (hb71.mono B67.out.size))
  clear hb71
  have M79 := Lib.hid (T74.out.load)
  have C80 := Lib.hid (bmay_any c w70 F77.out)
  rw [MC.out] at C80
  go_wp2_with (first | ((with_reducible refine wpList_load_by (o := ⟨some 55, .load 41 (.tmp 5), _, _, _, _⟩) ?e1 41 (.tmp 5) ?e2 ⟨(w.heap.size + 1 + 1), 0, none⟩ ?e3 _ M79.out ?_); (case e1 => rfl); (case e2 => rfl); (case e3 => rfl)))
  refine C80.out.mono ?_
  rintro e w81 ⟨rfl, hb82⟩
  have T83 := Lib.hid (T72.out.below hb82 T72.out.lt)
  have T84 := Lib.hid (T73.out.below hb82 T73.out.lt)
  have T85 := Lib.hid (T74.out.below hb82 T74.out.lt)
  have F86 := Lib.hid (F75.out.below hb82 (Nat.le_refl _))
  have F87 := Lib.hid (F76.out.below hb82 (Nat.le_refl _))
  have F88 := Lib.hid (F77.out.below hb82 (Nat.le_refl _))
  have B89 := Lib.hid (B78.out.trans (hb82.mono B78.out.size))
  clear hb82
  have M93 := Lib.hid (T83.out.load)
  have M94 := Lib.hid (T84.out.load)
  have C95 := Lib.hid (bjoin_any a b w81 (HLA.out _ B89.out) F86.out F87.out)
  unfold BJoinPost at C95
  rw [JX.out] at C95
  dsimp only at C95
  go_wp2_with (first | ((with_reducible refine wpList_load_by (o := ⟨some 61, .load 41 (.tmp 3), _, _, _, _⟩) ?e1 41 (.tmp 3) ?e2 ⟨w.heap.size, 0, none⟩ ?e3 _ M93.out ?_); (case e1 => rfl); (case e2 => rfl); (case e3 => rfl)) | ((with_reducible refine wpList_load_by (o := ⟨some 62, .load 41 (.tmp 4), _, _, _, _⟩) ?e1 41 (.tmp 4) ?e2 ⟨(w.heap.size + 1), 0, none⟩ ?e3 _ M94.out ?_); (case e1 => rfl); (case e2 => rfl); (case e3 => rfl)))
  refine C95.out.mono ?_
  rintro e w96 ⟨d90, rfl, hd91, hk92, hb97⟩
  have T98 := Lib.hid (T83.out.below hb97 T83.out.lt)
  have T99 := Lib.hid (T84.out.below hb97 T84.out.lt)
  have T100 := Lib.hid (T85.out.below hb97 T85.out.lt)
  have F101 := Lib.hid (F86.out.below hb97 (Nat.le_refl _))
  have F102 := Lib.hid (F87.out.below hb97 (Nat.le_refl _))
  have F103 := Lib.hid (F88.out.below hb97 (Nat.le_refl _))
  have B104 := Lib.hid (B89.out.trans (hb97.mono B89.out.size))
  clear hb97
  have E105 := Lib.hid (hd91)
  have F106 := Lib.hid (hk92)
  clear hd91 hk92
  have hb107 := (Below.refl w96.heap.size w96).alloc (Nat.le_refl _) (.cells #[(.slice d90.A d90.xs.length d90.c)] 41)
  have T108 := Lib.hid (BoAt.new w96 (.slice d90.A d90.xs.length d90.c))
  have T109 := Lib.hid (T98.out.below hb107 T98.out.lt)
  have T110 := Lib.hid (T99.out.below hb107 T99.out.lt)
  have T111 := Lib.hid (T100.out.below hb107 T100.out.lt)
  have F112 := Lib.hid (F101.out.below hb107 (Nat.le_refl _))
  have F113 := Lib.hid (F102.out.below hb107 (Nat.le_refl _))
  have F114 := Lib.hid (F103.out.below hb107 (Nat.le_refl _))
  have F115 := Lib.hid (F106.out.below hb107 (Nat.le_refl _))
  have B116 := Lib.hid (B104.out.trans (hb107.mono B104.out.size))
  clear hb107
  have M120 := Lib.hid (T110.out.load)
  have M121 := Lib.hid (T109.out.load)
  have C122 := Lib.hid (bjoin_any b a (w96.alloc (.cells #[(.slice d90.A d90.xs.length d90.c)] 41)) (HLA.out _ B116.out) F113.out F112.out)
  unfold BJoinPost at C122
  rw [JY.out] at C122
  dsimp only at C122
  go_wp2_with (first | ((with_reducible refine wpList_load_by (o := ⟨some 67, .load 41 (.tmp 4), _, _, _, _⟩) ?e1 41 (.tmp 4) ?e2 ⟨(w.heap.size + 1), 0, none⟩ ?e3 _ M120.out ?_); (case e1 => rfl); (case e2 => rfl); (case e3 => rfl)) | ((with_reducible refine wpList_load_by (o := ⟨some 68, .load 41 (.tmp 3), _, _, _, _⟩) ?e1 41 (.tmp 3) ?e2 ⟨w.heap.size, 0, none⟩ ?e3 _ M121.out ?_); (case e1 => rfl); (case e2 => rfl); (case e3 => rfl)))
  refine C122.out.mono ?_
  rintro e w123 ⟨d117, rfl, hd118, hk119, hb124⟩
  have T125 := Lib.hid (T109.out.below hb124 T109.out.lt)
  have T126 := Lib.hid (T110.out.below hb124 T110.out.lt)
  have T127 := Lib.hid (T111.out.below hb124 T111.out.lt)
  have T128 := Lib.hid (T108.out.below hb124 T108.out.lt)
  have F129 := Lib.hid (F112.out.below hb124 (Nat.le_refl _))
  have F130 := Lib.hid (F113.out.below hb124 (Nat.le_refl _))
  have F131 := Lib.hid (F114.out.below hb124 (Nat.le_refl _))
  have F132 := Lib.hid (F115.out.below hb124 (Nat.le_refl _))
  have B133 := Lib.hid (B116.out.trans (hb124.mono B116.out.size))
  clear hb124
  have E134 := Lib.hid (hd118)
  have F135 := Lib.hid (hk119)
  clear hd118 hk119
  have hb136 := (Below.refl w123.heap.size w123).alloc (Nat.le_refl _) (.cells #[(.slice d117.A d117.xs.length d117.c)] 41)
  have T137 := Lib.hid (BoAt.new w123 (.slice d117.A d117.xs.length d117.c))
  have T138 := Lib.hid (T125.out.below hb136 T125.out.lt)
  have T139 := Lib.hid (T126.out.below hb136 T126.out.lt)
  have T140 := Lib.hid (T127.out.below hb136 T127.out.lt)
  have T141 := Lib.hid (T128.out.below hb136 T128.out.lt)
  have F142 := Lib.hid (F129.out.below hb136 (Nat.le_refl _))
  have F143 := Lib.hid (F130.out.below hb136 (Nat.le_refl _))
  have F144 := Lib.hid (F131.out.below hb136 (Nat.le_refl _))
  have F145 := Lib.hid (F132.out.below hb136 (Nat.le_refl _))
  have F146 := Lib.hid (F135.out.below hb136 (Nat.le_refl _))
  have B147 := Lib.hid (B133.out.trans (hb136.mono B133.out.size))
  clear hb136
  have M151 := Lib.hid (T139.out.load)
  have M152 := Lib.hid (T140.out.load)
  have C153 := Lib.hid (bjoin_any b c (w123.alloc (.cells #[(.slice d117.A d117.xs.length d117.c)] 41)) (HLA.out _ B147.out) F143.out F144.out)
  unfold BJoinPost at C153
  rw [JZ.out] at C153
  dsimp only at C153
  go_wp2_with (first | ((with_reducible refine wpList_load_by (o := ⟨some 73, .load 41 (.tmp 4), _, _, _, _⟩) ?e1 41 (.tmp 4) ?e2 ⟨(w.heap.size + 1), 0, none⟩ ?e3 _ M151.out ?_); (case e1 => rfl); (case e2 => rfl); (case e3 => rfl)) | ((with_reducible refine wpList_load_by (o := ⟨some 74, .load 41 (.tmp 5), _, _, _, _⟩) ?e1 41 (.tmp 5) ?e2 ⟨(w.heap.size + 1 + 1), 0, none⟩ ?e3 _ M152.out ?_); (case e1 => rfl); (case e2 => rfl); (case e3 => rfl)))
  refine C153.out.mono ?_
  rintro e w154 ⟨d148, rfl, hd149, hk150, hb155⟩
  have T156 := Lib.hid (T138.out.below hb155 T138.out.lt)
  have T157 := Lib.hid (T139.out.below hb155 T139.out.lt)
  have T158 := Lib.hid (T140.out.below hb155 T140.out.lt)
  have T159 := Lib.hid (T141.out.below hb155 T141.out.lt)
  have T160 := Lib.hid (T137.out.below hb155 T137.out.lt)
  have F161 := Lib.hid (F142.out.below hb155 (Nat.le_refl _))
  have F162 := Lib.hid (F143.out.below hb155 (Nat.le_refl _))
  have F163 := Lib.hid (F144.out.below hb155 (Nat.le_refl _))
  have F164 := Lib.hid (F145.out.below hb155 (Nat.le_refl _))
  have F165 := Lib.hid (F146.out.below hb155 (Nat.le_refl _))
  have B166 := Lib.hid (B147.out.trans (hb155.mono B147.out.size))
  clear hb155
  have E167 := Lib.hid (hd149)
  have F168 := Lib.hid (hk150)
  clear hd149 hk150
  have hb169 := (Below.refl w154.heap.size w154).alloc (Nat.le_refl _) (.cells #[(.slice d148.A d148.xs.length d148.c)] 41)
  have T170 := Lib.hid (BoAt.new w154 (.slice d148.A d148.xs.length d148.c))
  have T171 := Lib.hid (T156.out.below hb169 T156.out.lt)
  have T172 := Lib.hid (T157.out.below hb169 T157.out.lt)
  have T173 := Lib.hid (T158.out.below hb169 T158.out.lt)
  have T174 := Lib.hid (T159.out.below hb169 T159.out.lt)
  have T175 := Lib.hid (T160.out.below hb169 T160.out.lt)
  have F176 := Lib.hid (F161.out.below hb169 (Nat.le_refl _))
  have F177 := Lib.hid (F162.out.below hb169 (Nat.le_refl _))
  have F178 := Lib.hid (F163.out.below hb169 (Nat.le_refl _))
  have F179 := Lib.hid (F164.out.below hb169 (Nat.le_refl _))
  have F180 := Lib.hid (F165.out.below hb169 (Nat.le_refl _))
  have F181 := Lib.hid (F168.out.below hb169 (Nat.le_refl _))
  have B182 := Lib.hid (B166.out.trans (hb169.mono B166.out.size))
  clear hb169
  have M186 := Lib.hid (T171.out.load)
  have M187 := Lib.hid (T171.out.load)
  have C188 := Lib.hid (bjoin_any a a (w154.alloc (.cells #[(.slice d148.A d148.xs.length d148.c)] 41)) (HLA.out _ B182.out) F176.out F176.out)
  unfold BJoinPost at C188
  rw [JO.out] at C188
  dsimp only at C188
  go_wp2_with (first | ((with_reducible refine wpList_load_by (o := ⟨some 79, .load 41 (.tmp 3), _, _, _, _⟩) ?e1 41 (.tmp 3) ?e2 ⟨w.heap.size, 0, none⟩ ?e3 _ M186.out ?_); (case e1 => rfl); (case e2 => rfl); (case e3 => rfl)) | ((with_reducible refine wpList_load_by (o := ⟨some 80, .load 41 (.tmp 3), _, _, _, _⟩) ?e1 41 (.tmp 3) ?e2 ⟨w.heap.size, 0, none⟩ ?e3 _ M187.out ?_); (case e1 => rfl); (case e2 => rfl); (case e3 => rfl)))
  refine C188.out.mono ?_
  rintro e w189 ⟨d183, rfl, hd184, hk185, hb190⟩
  have T191 := Lib.hid (T171.out.below hb190 T171.out.lt)
  have T192 := Lib.hid (T172.out.below hb190 T172.out.lt)
  have T193 := Lib.hid (T173.out.below hb190 T173.out.lt)
  have T194 := Lib.hid (T174.out.below hb190 T174.out.lt)
  have T195 := Lib.hid (T175.out.below hb190 T175.out.lt)
  have T196 := Lib.hid (T170.out.below hb190 T170.out.lt)
  have F197 := Lib.hid (F176.out.below hb190 (Nat.le_refl _))
  have F198 := Lib.hid (F177.out.below hb190 (Nat.le_refl _))
  have F199 := Lib.hid (F178.out.below hb190 (Nat.le_refl _))
  have F200 := Lib.hid (F179.out.below hb190 (Nat.le_refl _))
  have F201 := Lib.hid (F180.out.below hb190 (Nat.le_refl _))
  have F202 := Lib.hid (F181.out.below hb190 (Nat.le_refl _))
  have B203 := Lib.hid (B182.out.trans (hb190.mono B182.out.size))
  clear hb190
  have E204 := Lib.hid (hd184)
  have F205 := Lib.hid (hk185)
  clear hd184 hk185
  have hb206 := (Below.refl w189.heap.size w189).alloc (Nat.le_refl _) (.cells #[(.slice d183.A d183.xs.length d183.c)] 41)
  have T207 := Lib.hid (BoAt.new w189 (.slice d183.A d183.xs.length d183.c))
  have T208 := Lib.hid (T191.out.below hb206 T191.out.lt)
  have T209 := Lib.hid (T192.out.below hb206 T192.out.lt)
  have T210 := Lib.hid (T193.out.below hb206 T193.out.lt)
  have T211 := Lib.hid (T194.out.below hb206 T194.out.lt)
  have T212 := Lib.hid (T195.out.below hb206 T195.out.lt)
  have T213 := Lib.hid (T196.out.below hb206 T196.out.lt)
  have F214 := Lib.hid (F197.out.below hb206 (Nat.le_refl _))
  have F215 := Lib.hid (F198.out.below hb206 (Nat.le_refl _))
  have F216 := Lib.hid (F199.out.below hb206 (Nat.le_refl _))
  have F217 := Lib.hid (F200.out.below hb206 (Nat.le_refl _))
  have F218 := Lib.hid (F201.out.below hb206 (Nat.le_refl _))
  have F219 := Lib.hid (F202.out.below hb206 (Nat.le_refl _))
  have F220 := Lib.hid (F205.out.below hb206 (Nat.le_refl _))
  have B221 := Lib.hid (B203.out.trans (hb206.mono B203.out.size))
  clear hb206
  have M222 := Lib.hid (T211.out.load)
  have M223 := Lib.hid (T212.out.load)
  have C224 := Lib.hid (bsame_any d90 d117 (w189.alloc (.cells #[(.slice d183.A d183.xs.length d183.c)] 41)) F217.out F218.out)
  try rw [E105.out] at C224
  try rw [E134.out] at C224
  rw [SX.out] at C224
  go_wp2_with (first | ((with_reducible refine wpList_load_by (o := ⟨some 88, .load 41 (.tmp 11), _, _, _, _⟩) ?e1 41 (.tmp 11) ?e2 ⟨w96.heap.size, 0, none⟩ ?e3 _ M222.out ?_); (case e1 => rfl); (case e2 => rfl); (case e3 => rfl)) | ((with_reducible refine wpList_load_by (o := ⟨some 89, .load 41 (.tmp 13), _, _, _, _⟩) ?e1 41 (.tmp 13) ?e2 ⟨w123.heap.size, 0, none⟩ ?e3 _ M223.out ?_); (case e1 => rfl); (case e2 => rfl); (case e3 => rfl)))
  refine C224.out.mono ?_
  rintro e w225 ⟨rfl, hb226⟩
  have T227 := Lib.hid (T208.out.below hb226 T208.out.lt)
  have T228 := Lib.hid (T209.out.below hb226 T209.out.lt)
  have T229 := Lib.hid (T210.out.below hb226 T210.out.lt)
  have T230 := Lib.hid (T211.out.below hb226 T211.out.lt)
  have T231 := Lib.hid (T212.out.below hb226 T212.out.lt)
  have T232 := Lib.hid (T213.out.below hb226 T213.out.lt)
  have T233 := Lib.hid (T207.out.below hb226 T207.out.lt)
  have F234 := Lib.hid (F214.out.below hb226 (Nat.le_refl _))
  have F235 := Lib.hid (F215.out.below hb226 (Nat.le_refl _))
  have F236 := Lib.hid (F216.out.below hb226 (Nat.le_refl _))
  have F237 := Lib.hid (F217.out.below hb226 (Nat.le_refl _))
  have F238 := Lib.hid (F218.out.below hb226 (Nat.le_refl _))
  have F239 := Lib.hid (F219.out.below hb226 (Nat.le_refl _))
  have F240 := Lib.hid (F220.out.below hb226 (Nat.le_refl _))
  have B241 := Lib.hid (B221.out.trans (hb226.mono B221.out.size))
  clear hb226
  have M242 := Lib.hid (T233.out.load)
  have M243 := Lib.hid (T227.out.load)
  have C244 := Lib.hid (bsame_any d183 a w225 F240.out F234.out)
  try rw [E204.out] at C244
  rw [SA.out] at C244
  go_wp2_with (first | ((with_reducible refine wpList_load_by (o := ⟨some 98, .load 41 (.tmp 17), _, _, _, _⟩) ?e1 41 (.tmp 17) ?e2 ⟨w189.heap.size, 0, none⟩ ?e3 _ M242.out ?_); (case e1 => rfl); (case e2 => rfl); (case e3 => rfl)) | ((with_reducible refine wpList_load_by (o := ⟨some 99, .load 41 (.tmp 3), _, _, _, _⟩) ?e1 41 (.tmp 3) ?e2 ⟨w.heap.size, 0, none⟩ ?e3 _ M243.out ?_); (case e1 => rfl); (case e2 => rfl); (case e3 => rfl)))
  refine C244.out.mono ?_
  rintro e w245 ⟨rfl, hb246⟩
  have T247 := Lib.hid (T227.out.below hb246 T227.out.lt)
  have T248 := Lib.hid (T228.out.below hb246 T228.out.lt)
  have T249 := Lib.hid (T229.out.below hb246 T229.out.lt)
  have T250 := Lib.hid (T230.out.below hb246 T230.out.lt)
  have T251 := Lib.hid (T231.out.below hb246 T231.out.lt)
  have T252 := Lib.hid (T232.out.below hb246 T232.out.lt)
  have T253 := Lib.hid (T233.out.below hb246 T233.out.lt)
  have F254 := Lib.hid (F234.out.below hb246 (Nat.le_refl _))
  have F255 := Lib.hid (F235.out.below hb246 (Nat.le_refl _))
  have F256 := Lib.hid (F236.out.below hb246 (Nat.le_refl _))
  have F257 := Lib.hid (F237.out.below hb246 (Nat.le_refl _))
  have F258 := Lib.hid (F238.out.below hb246 (Nat.le_refl _))
  have F259 := Lib.hid (F239.out.below hb246 (Nat.le_refl _))
  have F260 := Lib.hid (F240.out.below hb246 (Nat.le_refl _))
  have B261 := Lib.hid (B241.out.trans (hb246.mono B241.out.size))
  clear hb246
  have M265 := Lib.hid (T250.out.load)
  have M266 := Lib.hid (T249.out.load)
  have C267 := Lib.hid (bjoin_any d90 c w245 (HLA.out _ B261.out) F257.out F256.out)
  unfold BJoinPost at C267
  try rw [E105.out] at C267
  rw [JV.out] at C267
  dsimp only at C267
  go_wp2_with (first | ((with_reducible refine wpList_load_by (o := ⟨some 116, .load 41 (.tmp 11), _, _, _, _⟩) ?e1 41 (.tmp 11) ?e2 ⟨w96.heap.size, 0, none⟩ ?e3 _ M265.out ?_); (case e1 => rfl); (case e2 => rfl); (case e3 => rfl)) | ((with_reducible refine wpList_load_by (o := ⟨some 117, .load 41 (.tmp 5), _, _, _, _⟩) ?e1 41 (.tmp 5) ?e2 ⟨(w.heap.size + 1 + 1), 0, none⟩ ?e3 _ M266.out ?_); (case e1 => rfl); (case e2 => rfl); (case e3 => rfl)))
  refine C267.out.mono ?_
  rintro e w268 ⟨d262, rfl, hd263, hk264, hb269⟩
  have T270 := Lib.hid (T247.out.below hb269 T247.out.lt)
  have T271 := Lib.hid (T248.out.below hb269 T248.out.lt)
  have T272 := Lib.hid (T249.out.below hb269 T249.out.lt)
  have T273 := Lib.hid (T250.out.below hb269 T250.out.lt)
  have T274 := Lib.hid (T251.out.below hb269 T251.out.lt)
  have T275 := Lib.hid (T252.out.below hb269 T252.out.lt)
  have T276 := Lib.hid (T253.out.below hb269 T253.out.lt)
  have F277 := Lib.hid (F254.out.below hb269 (Nat.le_refl _))
  have F278 := Lib.hid (F255.out.below hb269 (Nat.le_refl _))
  have F279 := Lib.hid (F256.out.below hb269 (Nat.le_refl _))
  have F280 := Lib.hid (F257.out.below hb269 (Nat.le_refl _))
  have F281 := Lib.hid (F258.out.below hb269 (Nat.le_refl _))
  have F282 := Lib.hid (F259.out.below hb269 (Nat.le_refl _))
  have F283 := Lib.hid (F260.out.below hb269 (Nat.le_refl _))
  have B284 := Lib.hid (B261.out.trans (hb269.mono B261.out.size))
  clear hb269
  have E285 := Lib.hid (hd263)
  have F286 := Lib.hid (hk264)
  clear hd263 hk264
  have hb287 := (Below.refl w268.heap.size w268).alloc (Nat.le_refl _) (.cells #[(.slice d262.A d262.xs.length d262.c)] 41)
  have T288 := Lib.hid (BoAt.new w268 (.slice d262.A d262.xs.length d262.c))
  have T289 := Lib.hid (T270.out.below hb287 T270.out.lt)
  have T290 := Lib.hid (T271.out.below hb287 T271.out.lt)
  have T291 := Lib.hid (T272.out.below hb287 T272.out.lt)
  have T292 := Lib.hid (T273.out.below hb287 T273.out.lt)
  have T293 := Lib.hid (T274.out.below hb287 T274.out.lt)
  have T294 := Lib.hid (T275.out.below hb287 T275.out.lt)
  have T295 := Lib.hid (T276.out.below hb287 T276.out.lt)
  have F296 := Lib.hid (F277.out.below hb287 (Nat.le_refl _))
  have F297 := Lib.hid (F278.out.below hb287 (Nat.le_refl _))
  have F298 := Lib.hid (F279.out.below hb287 (Nat.le_refl _))
  have F299 := Lib.hid (F280.out.below hb287 (Nat.le_refl _))
  have F300 := Lib.hid (F281.out.below hb287 (Nat.le_refl _))
  have F301 := Lib.hid (F282.out.below hb287 (Nat.le_refl _))
  have F302 := Lib.hid (F283.out.below hb287 (Nat.le_refl _))
  have F303 := Lib.hid (F286.out.below hb287 (Nat.le_refl _))
  have B304 := Lib.hid (B284.out.trans (hb287.mono B284.out.size))
  clear hb287
  have M308 := Lib.hid (T289.out.load)
  have M309 := Lib.hid (T294.out.load)
  have C310 := Lib.hid (bjoin_any a d148 (w268.alloc (.cells #[(.slice d262.A d262.xs.length d262.c)] 41)) (HLA.out _ B304.out) F296.out F301.out)
  unfold BJoinPost at C310
  try rw [E167.out] at C310
  rw [JW.out] at C310
  dsimp only at C310
  go_wp2_with (first | ((with_reducible refine wpList_load_by (o := ⟨some 122, .load 41 (.tmp 3), _, _, _, _⟩) ?e1 41 (.tmp 3) ?e2 ⟨w.heap.size, 0, none⟩ ?e3 _ M308.out ?_); (case e1 => rfl); (case e2 => rfl); (case e3 => rfl)) | ((with_reducible refine wpList_load_by (o := ⟨some 123, .load 41 (.tmp 15), _, _, _, _⟩) ?e1 41 (.tmp 15) ?e2 ⟨w154.heap.size, 0, none⟩ ?e3 _ M309.out ?_); (case e1 => rfl); (case e2 => rfl); (case e3 => rfl)))
  refine C310.out.mono ?_
  rintro e w311 ⟨d305, rfl, hd306, hk307, hb312⟩
  have T313 := Lib.hid (T289.out.below hb312 T289.out.lt)
  have T314 := Lib.hid (T290.out.below hb312 T290.out.lt)
  have T315 := Lib.hid (T291.out.below hb312 T291.out.lt)
  have T316 := Lib.hid (T292.out.below hb312 T292.out.lt)
  have T317 := Lib.hid (T293.out.below hb312 T293.out.lt)
  have T318 := Lib.hid (T294.out.below hb312 T294.out.lt)
  have T319 := Lib.hid (T295.out.below hb312 T295.out.lt)
  have T320 := Lib.hid (T288.out.below hb312 T288.out.lt)
  have F321 := Lib.hid (F296.out.below hb312 (Nat.le_refl _))
  have F322 := Lib.hid (F297.out.below hb312 (Nat.le_refl _))
  have F323 := Lib.hid (F298.out.below hb312 (Nat.le_refl _))
  have F324 := Lib.hid (F299.out.below hb312 (Nat.le_refl _))
  have F325 := Lib.hid (F300.out.below hb312 (Nat.le_refl _))
  have F326 := Lib.hid (F301.out.below hb312 (Nat.le_refl _))
  have F327 := Lib.hid (F302.out.below hb312 (Nat.le_refl _))
  have F328 := Lib.hid (F303.out.below hb312 (Nat.le_refl _))
  have B329 := Lib.hid (B304.out.trans (hb312.mono B304.out.size))
  clear hb312
  have E330 := Lib.hid (hd306)
  have F331 := Lib.hid (hk307)
  clear hd306 hk307
  have hb332 := (Below.refl w311.heap.size w311).alloc (Nat.le_refl _) (.cells #[(.slice d305.A d305.xs.length d305.c)] 41)
  have T333 := Lib.hid (BoAt.new w311 (.slice d305.A d305.xs.length d305.c))
  have T334 := Lib.hid (T313.out.below hb332 T313.out.lt)
  have T335 := Lib.hid (T314.out.below hb332 T314.out.lt)
  have T336 := Lib.hid (T315.out.below hb332 T315.out.lt)
  have T337 := Lib.hid (T316.out.below hb332 T316.out.lt)
  have T338 := Lib.hid (T317.out.below hb332 T317.out.lt)
  have T339 := Lib.hid (T318.out.below hb332 T318.out.lt)
  have T340 := Lib.hid (T319.out.below hb332 T319.out.lt)
  have T341 := Lib.hid (T320.out.below hb332 T320.out.lt)
  have F342 := Lib.hid (F321.out.below hb332 (Nat.le_refl _))
  have F343 := Lib.hid (F322.out.below hb332 (Nat.le_refl _))
  have F344 := Lib.hid (F323.out.below hb332 (Nat.le_refl _))
  have F345 := Lib.hid (F324.out.below hb332 (Nat.le_refl _))
  have F346 := Lib.hid (F325.out.below hb332 (Nat.le_refl _))
  have F347 := Lib.hid (F326.out.below hb332 (Nat.le_refl _))
  have F348 := Lib.hid (F327.out.below hb332 (Nat.le_refl _))
  have F349 := Lib.hid (F328.out.below hb332 (Nat.le_refl _))
  have F350 := Lib.hid (F331.out.below hb332 (Nat.le_refl _))
  have B351 := Lib.hid (B329.out.trans (hb332.mono B329.out.size))
  clear hb332
  have M352 := Lib.hid (T341.out.load)
  have M353 := Lib.hid (T333.out.load)
  have C354 := Lib.hid (bsame_any d262 d305 (w311.alloc (.cells #[(.slice d305.A d305.xs.length d305.c)] 41)) F349.out F350.out)
  try rw [E285.out] at C354
  try rw [E330.out] at C354
  rw [SV.out] at C354
  go_wp2_with (first | ((with_reducible refine wpList_load_by (o := ⟨some 131, .load 41 (.tmp 19), _, _, _, _⟩) ?e1 41 (.tmp 19) ?e2 ⟨w268.heap.size, 0, none⟩ ?e3 _ M352.out ?_); (case e1 => rfl); (case e2 => rfl); (case e3 => rfl)) | ((with_reducible refine wpList_load_by (o := ⟨some 132, .load 41 (.tmp 21), _, _, _, _⟩) ?e1 41 (.tmp 21) ?e2 ⟨w311.heap.size, 0, none⟩ ?e3 _ M353.out ?_); (case e1 => rfl); (case e2 => rfl); (case e3 => rfl)))
  refine C354.out.mono ?_
  rintro e w355 ⟨rfl, hb356⟩
  have T357 := Lib.hid (T334.out.below hb356 T334.out.lt)
  have T358 := Lib.hid (T335.out.below hb356 T335.out.lt)
  have T359 := Lib.hid (T336.out.below hb356 T336.out.lt)
  have T360 := Lib.hid (T337.out.below hb356 T337.out.lt)
  have T361 := Lib.hid (T338.out.below hb356 T338.out.lt)
  have T362 := Lib.hid (T339.out.below hb356 T339.out.lt)
  have T363 := Lib.hid (T340.out.below hb356 T340.out.lt)
  have T364 := Lib.hid (T341.out.below hb356 T341.out.lt)
  have T365 := Lib.hid (T333.out.below hb356 T333.out.lt)
  have F366 := Lib.hid (F342.out.below hb356 (Nat.le_refl _))
  have F367 := Lib.hid (F343.out.below hb356 (Nat.le_refl _))
  have F368 := Lib.hid (F344.out.below hb356 (Nat.le_refl _))
  have F369 := Lib.hid (F345.out.below hb356 (Nat.le_refl _))
  have F370 := Lib.hid (F346.out.below hb356 (Nat.le_refl _))
  have F371 := Lib.hid (F347.out.below hb356 (Nat.le_refl _))
  have F372 := Lib.hid (F348.out.below hb356 (Nat.le_refl _))
  have F373 := Lib.hid (F349.out.below hb356 (Nat.le_refl _))
  have F374 := Lib.hid (F350.out.below hb356 (Nat.le_refl _))
  have B375 := Lib.hid (B351.out.trans (hb356.mono B351.out.size))
  clear hb356
  have M376 := Lib.hid (T360.out.load)
  have C377 := Lib.hid (bmay_any d90 w355 F369.out)
  try rw [E105.out] at C377
  rw [MX.out] at C377
  go_wp2_with (first | ((with_reducible refine wpList_load_by (o := ⟨some 136, .load 41 (.tmp 11), _, _, _, _⟩) ?e1 41 (.tmp 11) ?e2 ⟨w96.heap.size, 0, none⟩ ?e3 _ M376.out ?_); (case e1 => rfl); (case e2 => rfl); (case e3 => rfl)))
  refine C377.out.mono ?_
  rintro e w378 ⟨rfl, hb379⟩
  have T380 := Lib.hid (T357.out.below hb379 T357.out.lt)
  have T381 := Lib.hid (T358.out.below hb379 T358.out.lt)
  have T382 := Lib.hid (T359.out.below hb379 T359.out.lt)
  have T383 := Lib.hid (T360.out.below hb379 T360.out.lt)
  have T384 := Lib.hid (T361.out.below hb379 T361.out.lt)
  have T385 := Lib.hid (T362.out.below hb379 T362.out.lt)
  have T386 := Lib.hid (T363.out.below hb379 T363.out.lt)
  have T387 := Lib.hid (T364.out.below hb379 T364.out.lt)
  have T388 := Lib.hid (T365.out.below hb379 T365.out.lt)
  have F389 := Lib.hid (F366.out.below hb379 (Nat.le_refl _))
  have F390 := Lib.hid (F367.out.below hb379 (Nat.le_refl _))
  have F391 := Lib.hid (F368.out.below hb379 (Nat.le_refl _))
  have F392 := Lib.hid (F369.out.below hb379 (Nat.le_refl _))
  have F393 := Lib.hid (F370.out.below hb379 (Nat.le_refl _))
  have F394 := Lib.hid (F371.out.below hb379 (Nat.le_refl _))
  have F395 := Lib.hid (F372.out.below hb379 (Nat.le_refl _))
  have F396 := Lib.hid (F373.out.below hb379 (Nat.le_refl _))
  have F397 := Lib.hid (F374.out.below hb379 (Nat.le_refl _))
  have B398 := Lib.hid (B375.out.trans (hb379.mono B375.out.size))
  clear hb379
  have M399 := Lib.hid (T380.out.load)
  have M400 := Lib.hid (T383.out.load)
  have C401 := Lib.hid (bleq_any a d90 w378 (HLA.out _ B398.out) F389.out F392.out)
  try rw [E105.out] at C401
  rw [LAX.out] at C401
  go_wp2_with (first | ((with_reducible refine wpList_load_by (o := ⟨some 140, .load 41 (.tmp 3), _, _, _, _⟩) ?e1 41 (.tmp 3) ?e2 ⟨w.heap.size, 0, none⟩ ?e3 _ M399.out ?_); (case e1 => rfl); (case e2 => rfl); (case e3 => rfl)) | ((with_reducible refine wpList_load_by (o := ⟨some 141, .load 41 (.tmp 11), _, _, _, _⟩) ?e1 41 (.tmp 11) ?e2 ⟨w96.heap.size, 0, none⟩ ?e3 _ M400.out ?_); (case e1 => rfl); (case e2 => rfl); (case e3 => rfl)))
  refine C401.out.mono ?_
  rintro e w402 ⟨rfl, hb403⟩
  have T404 := Lib.hid (T380.out.below hb403 T380.out.lt)
  have T405 := Lib.hid (T381.out.below hb403 T381.out.lt)
  have T406 := Lib.hid (T382.out.below hb403 T382.out.lt)
  have T407 := Lib.hid (T383.out.below hb403 T383.out.lt)
  have T408 := Lib.hid (T384.out.below hb403 T384.out.lt)
  have T409 := Lib.hid (T385.out.below hb403 T385.out.lt)
  have T410 := Lib.hid (T386.out.below hb403 T386.out.lt)
  have T411 := Lib.hid (T387.out.below hb403 T387.out.lt)
  have T412 := Lib.hid (T388.out.below hb403 T388.out.lt)
  have F413 := Lib.hid (F389.out.below hb403 (Nat.le_refl _))
  have F414 := Lib.hid (F390.out.below hb403 (Nat.le_refl _))
  have F415 := Lib.hid (F391.out.below hb403 (Nat.le_refl _))
  have F416 := Lib.hid (F392.out.below hb403 (Nat.le_refl _))
  have F417 := Lib.hid (F393.out.below hb403 (Nat.le_refl _))
  have F418 := Lib.hid (F394.out.below hb403 (Nat.le_refl _))
  have F419 := Lib.hid (F395.out.below hb403 (Nat.le_refl _))
  have F420 := Lib.hid (F396.out.below hb403 (Nat.le_refl _))
  have F421 := Lib.hid (F397.out.below hb403 (Nat.le_refl _))
  have B422 := Lib.hid (B398.out.trans (hb403.mono B398.out.size))
  clear hb403
  have M423 := Lib.hid (T405.out.load)
  have M424 := Lib.hid (T407.out.load)
  have C425 := Lib.hid (bleq_any b d90 w402 (HLA.out _ B422.out) F414.out F416.out)
  try rw [E105.out] at C425
  rw [LBX.out] at C425
  go_wp2_with (first | ((with_reducible refine wpList_load_by (o := ⟨some 145, .load 41 (.tmp 4), _, _, _, _⟩) ?e1 41 (.tmp 4) ?e2 ⟨(w.heap.size + 1), 0, none⟩ ?e3 _ M423.out ?_); (case e1 => rfl); (case e2 => rfl); (case e3 => rfl)) | ((with_reducible refine wpList_load_by (o := ⟨some 146, .load 41 (.tmp 11), _, _, _, _⟩) ?e1 41 (.tmp 11) ?e2 ⟨w96.heap.size, 0, none⟩ ?e3 _ M424.out ?_); (case e1 => rfl); (case e2 => rfl); (case e3 => rfl)))
  refine C425.out.mono ?_
  rintro e w426 ⟨rfl, hb427⟩
  have T428 := Lib.hid (T404.out.below hb427 T404.out.lt)
  have T429 := Lib.hid (T405.out.below hb427 T405.out.lt)
  have T430 := Lib.hid (T406.out.below hb427 T406.out.lt)
  have T431 := Lib.hid (T407.out.below hb427 T407.out.lt)
  have T432 := Lib.hid (T408.out.below hb427 T408.out.lt)
  have T433 := Lib.hid (T409.out.below hb427 T409.out.lt)
  have T434 := Lib.hid (T410.out.below hb427 T410.out.lt)
  have T435 := Lib.hid (T411.out.below hb427 T411.out.lt)
  have T436 := Lib.hid (T412.out.below hb427 T412.out.lt)
  have F437 := Lib.hid (F413.out.below hb427 (Nat.le_refl _))
  have F438 := Lib.hid (F414.out.below hb427 (Nat.le_refl _))
  have F439 := Lib.hid (F415.out.below hb427 (Nat.le_refl _))
  have F440 := Lib.hid (F416.out.below hb427 (Nat.le_refl _))
  have F441 := Lib.hid (F417.out.below hb427 (Nat.le_refl _))
  have F442 := Lib.hid (F418.out.below hb427 (Nat.le_refl _))
  have F443 := Lib.hid (F419.out.below hb427 (Nat.le_refl _))
  have F444 := Lib.hid (F420.out.below hb427 (Nat.le_refl _))
  have F445 := Lib.hid (F421.out.below hb427 (Nat.le_refl _))
  have B446 := Lib.hid (B422.out.trans (hb427.mono B422.out.size))
  clear hb427
  go_wp2
  go_ret
  exact ⟨rfl, B446.out⟩
set_option maxHeartbeats 16000000 in
theorem bjoins_000 (a b c : Bk) (w : World) (hlaid : Laid w) (wa : BkAt w a) (wb : BkAt w b) (wc : BkAt w c) (p : (fewB a.rs && fewB b.rs && fewB c.rs) = true) (X Z V : List Rc) (iMA : bmay a.rs = true) (iMB : bmay b.rs = true) (iMC : bmay c.rs = true) (iJX : bjE a.rs b.rs = (0, X)) (iJY : bjE b.rs a.rs = (0, X)) (iJZ : bjE b.rs c.rs = (0, Z)) (iJO : bjE a.rs a.rs = (0, a.rs)) (iSX : bsame X X = true) (iSA : bsame a.rs a.rs = true) (iJV : bjE X c.rs = (0, V)) (iJW : bjE a.rs Z = (0, V)) (iSV : bsame V V = true) (iMX : bmay X = true) (iLAX : bleq a.rs X = true) (iLBX : bleq b.rs X = true) (iLAV : bleq a.rs V = true) (iLCV : bleq c.rs V = true) :
    Calls Tryd.prog 4 #[.agg #[.slice a.A a.xs.length a.c], .agg #[.slice b.A b.xs.length b.c], .agg #[.slice c.A c.xs.length c.c]] w fun e w' => e = .returned (.bool true) ∧ Below w.heap.size w w' := by
  have HLA := Lib.hid (fun (X : World) (hX : Below w.heap.size w X) => hlaid.below hX (Nat.le_refl _))
  have Fa := Lib.hid wa
  have Fb := Lib.hid wb
  have Fc := Lib.hid wc
  clear hlaid wa wb wc
  simp only [Bool.and_eq_true] at p
  have PA := Lib.hid p.1.1
  have PB := Lib.hid p.1.2
  have PC := Lib.hid p.2
  clear p
  have MA := Lib.hid iMA
  have MB := Lib.hid iMB
  have MC := Lib.hid iMC
  have JX := Lib.hid iJX
  have JY := Lib.hid iJY
  have JZ := Lib.hid iJZ
  have JO := Lib.hid iJO
  have SX := Lib.hid iSX
  have SA := Lib.hid iSA
  have JV := Lib.hid iJV
  have JW := Lib.hid iJW
  have SV := Lib.hid iSV
  have MX := Lib.hid iMX
  have LAX := Lib.hid iLAX
  have LBX := Lib.hid iLBX
  have LAV := Lib.hid iLAV
  have LCV := Lib.hid iLCV
  clear iMA iMB iMC iJX iJY iJZ iJO iSX iSA iJV iJW iSV iMX iLAX iLBX iLAV iLCV
  have B1 := Lib.hid (Below.refl w.heap.size w)
  have T2n := BoAt.new w (.slice a.A a.xs.length a.c)
  have T2 := Lib.hid T2n
  clear T2n
  have B3 := Lib.hid (B1.out.alloc B1.out.size (.cells #[(.slice a.A a.xs.length a.c)] 41))
  have T4 := Lib.hid (T2.out.old (.cells #[(.slice b.A b.xs.length b.c)] 41))
  have T5n := BoAt.new (w.alloc (.cells #[(.slice a.A a.xs.length a.c)] 41)) (.slice b.A b.xs.length b.c)
  simp only [World.size_alloc] at T5n
  have T5 := Lib.hid T5n
  clear T5n
  have B6 := Lib.hid (B3.out.alloc B3.out.size (.cells #[(.slice b.A b.xs.length b.c)] 41))
  have T7 := Lib.hid (T4.out.old (.cells #[(.slice c.A c.xs.length c.c)] 41))
  have T8 := Lib.hid (T5.out.old (.cells #[(.slice c.A c.xs.length c.c)] 41))
  have T9n := BoAt.new ((w.alloc (.cells #[(.slice a.A a.xs.length a.c)] 41)).alloc (.cells #[(.slice b.A b.xs.length b.c)] 41)) (.slice c.A c.xs.length c.c)
  simp only [World.size_alloc] at T9n
  have T9 := Lib.hid T9n
  clear T9n
  have B10 := Lib.hid (B6.out.alloc B6.out.size (.cells #[(.slice c.A c.xs.length c.c)] 41))
  have F11 := Lib.hid (Fa.out.below B10.out (Nat.le_refl _))
  have F12 := Lib.hid (Fb.out.below B10.out (Nat.le_refl _))
  have F13 := Lib.hid (Fc.out.below B10.out (Nat.le_refl _))
  go_enter Tryd.func4, Tryd.ntmps4
  have C14 := Lib.hid (bkAwake (((w.alloc (.cells #[(.slice a.A a.xs.length a.c)] 41)).alloc (.cells #[(.slice b.A b.xs.length b.c)] 41)).alloc (.cells #[(.slice c.A c.xs.length c.c)] 41)) (HLA.out _ B10.out))
  go_wp2_with fail
  refine C14.out.mono ?_
  rintro e w15 ⟨rfl, hb16⟩
  have T17 := Lib.hid (T7.out.below hb16 T7.out.lt)
  have T18 := Lib.hid (T8.out.below hb16 T8.out.lt)
  have T19 := Lib.hid (T9.out.below hb16 T9.out.lt)
  have F20 := Lib.hid (F11.out.below hb16 (Nat.le_refl _))
  have F21 := Lib.hid (F12.out.below hb16 (Nat.le_refl _))
  have F22 := Lib.hid (F13.out.below hb16 (Nat.le_refl _))
  have B23 := Lib.hid (B10.out.trans (hb16.mono B10.out.size))
  clear hb16
  have M24 := Lib.hid (T17.out.load)
  have C25 := Lib.hid (fewB_any a w15 F20.out)
  rw [PA.out] at C25
  go_wp2_with (first | ((with_reducible refine wpList_load_by (o := ⟨some 24, .load 41 (.tmp 3), _, _, _, _⟩) ?e1 41 (.tmp 3) ?e2 ⟨w.heap.size, 0, none⟩ ?e3 _ M24.out ?_); (case e1 => rfl); (case e2 => rfl); (case e3 => rfl)))
  refine C25.out.mono ?_
  rintro e w26 ⟨rfl, hb27⟩
  have T28 := Lib.hid (T17.out.below hb27 T17.out.lt)
  have T29 := Lib.hid (T18.out.below hb27 T18.out.lt)
  have T30 := Lib.hid (T19.out.below hb27 T19.out.lt)
  have F31 := Lib.hid (F20.out.below hb27 (Nat.le_refl _))
  have F32 := Lib.hid (F21.out.below hb27 (Nat.le_refl _))
  have F33 := Lib.hid (F22.out.below hb27 (Nat.le_refl _))
  have B34 := Lib.hid (B23.out.trans (hb27.mono B23.out.size))
  clear hb27
  have M35 := Lib.hid (T29.out.load)
  have C36 := Lib.hid (fewB_any b w26 F32.out)
  rw [PB.out] at C36
  go_wp2_with (first | ((with_reducible refine wpList_load_by (o := ⟨some 26, .load 41 (.tmp 4), _, _, _, _⟩) ?e1 41 (.tmp 4) ?e2 ⟨(w.heap.size + 1), 0, none⟩ ?e3 _ M35.out ?_); (case e1 => rfl); (case e2 => rfl); (case e3 => rfl)))
  refine C36.out.mono ?_
  rintro e w37 ⟨rfl, hb38⟩
  have T39 := Lib.hid (T28.out.below hb38 T28.out.lt)
  have T40 := Lib.hid (T29.out.below hb38 T29.out.lt)
  have T41 := Lib.hid (T30.out.below hb38 T30.out.lt)
  have F42 := Lib.hid (F31.out.below hb38 (Nat.le_refl _))
  have F43 := Lib.hid (F32.out.below hb38 (Nat.le_refl _))
  have F44 := Lib.hid (F33.out.below hb38 (Nat.le_refl _))
  have B45 := Lib.hid (B34.out.trans (hb38.mono B34.out.size))
  clear hb38
  have M46 := Lib.hid (T41.out.load)
  have C47 := Lib.hid (fewB_any c w37 F44.out)
  rw [PC.out] at C47
  go_wp2_with (first | ((with_reducible refine wpList_load_by (o := ⟨some 28, .load 41 (.tmp 5), _, _, _, _⟩) ?e1 41 (.tmp 5) ?e2 ⟨(w.heap.size + 1 + 1), 0, none⟩ ?e3 _ M46.out ?_); (case e1 => rfl); (case e2 => rfl); (case e3 => rfl)))
  refine C47.out.mono ?_
  rintro e w48 ⟨rfl, hb49⟩
  have T50 := Lib.hid (T39.out.below hb49 T39.out.lt)
  have T51 := Lib.hid (T40.out.below hb49 T40.out.lt)
  have T52 := Lib.hid (T41.out.below hb49 T41.out.lt)
  have F53 := Lib.hid (F42.out.below hb49 (Nat.le_refl _))
  have F54 := Lib.hid (F43.out.below hb49 (Nat.le_refl _))
  have F55 := Lib.hid (F44.out.below hb49 (Nat.le_refl _))
  have B56 := Lib.hid (B45.out.trans (hb49.mono B45.out.size))
  clear hb49
  have M57 := Lib.hid (T50.out.load)
  have C58 := Lib.hid (bmay_any a w48 F53.out)
  rw [MA.out] at C58
  go_wp2_with (first | ((with_reducible refine wpList_load_by (o := ⟨some 45, .load 41 (.tmp 3), _, _, _, _⟩) ?e1 41 (.tmp 3) ?e2 ⟨w.heap.size, 0, none⟩ ?e3 _ M57.out ?_); (case e1 => rfl); (case e2 => rfl); (case e3 => rfl)))
  refine C58.out.mono ?_
  rintro e w59 ⟨rfl, hb60⟩
  have T61 := Lib.hid (T50.out.below hb60 T50.out.lt)
  have T62 := Lib.hid (T51.out.below hb60 T51.out.lt)
  have T63 := Lib.hid (T52.out.below hb60 T52.out.lt)
  have F64 := Lib.hid (F53.out.below hb60 (Nat.le_refl _))
  have F65 := Lib.hid (F54.out.below hb60 (Nat.le_refl _))
  have F66 := Lib.hid (F55.out.below hb60 (Nat.le_refl _))
  have B67 := Lib.hid (B56.out.trans (hb60.mono B56.out.size))
  clear hb60
  have M68 := Lib.hid (T62.out.load)
  have C69 := Lib.hid (bmay_any b w59 F65.out)
  rw [MB.out] at C69
  go_wp2_with (first | ((with_reducible refine wpList_load_by (o := ⟨some 50, .load 41 (.tmp 4), _, _, _, _⟩) ?e1 41 (.tmp 4) ?e2 ⟨(w.heap.size + 1), 0, none⟩ ?e3 _ M68.out ?_); (case e1 => rfl); (case e2 => rfl); (case e3 => rfl)))
  refine C69.out.mono ?_
  rintro e w70 ⟨rfl, hb71⟩
  have T72 := Lib.hid (T61.out.below hb71 T61.out.lt)
  have T73 := Lib.hid (T62.out.below hb71 T62.out.lt)
  have T74 := Lib.hid (T63.out.below hb71 T63.out.lt)
  have F75 := Lib.hid (F64.out.below hb71 (Nat.le_refl _))
  have F76 := Lib.hid (F65.out.below hb71 (Nat.le_refl _))
  have F77 := Lib.hid (F66.out.below hb71 (Nat.le_refl _))
  have B78 := Lib.hid (B67.out.trans (hb71.mono B67.out.size))
  clear hb71
  have M79 := Lib.hid (T74.out.load)
  have C80 := Lib.hid (bmay_any c w70 F77.out)
  rw [MC.out] at C80
  go_wp2_with (first | ((with_reducible refine wpList_load_by (o := ⟨some 55, .load 41 (.tmp 5), _, _, _, _⟩) ?e1 41 (.tmp 5) ?e2 ⟨(w.heap.size + 1 + 1), 0, none⟩ ?e3 _ M79.out ?_); (case e1 => rfl); (case e2 => rfl); (case e3 => rfl)))
  refine C80.out.mono ?_
  rintro e w81 ⟨rfl, hb82⟩
  have T83 := Lib.hid (T72.out.below hb82 T72.out.lt)
  have T84 := Lib.hid (T73.out.below hb82 T73.out.lt)
  have T85 := Lib.hid (T74.out.below hb82 T74.out.lt)
  have F86 := Lib.hid (F75.out.below hb82 (Nat.le_refl _))
  have F87 := Lib.hid (F76.out.below hb82 (Nat.le_refl _))
  have F88 := Lib.hid (F77.out.below hb82 (Nat.le_refl _))
  have B89 := Lib.hid (B78.out.trans (hb82.mono B78.out.size))
  clear hb82
  have M93 := Lib.hid (T83.out.load)
  have M94 := Lib.hid (T84.out.load)
  have C95 := Lib.hid (bjoin_any a b w81 (HLA.out _ B89.out) F86.out F87.out)
  unfold BJoinPost at C95
  rw [JX.out] at C95
  dsimp only at C95
  go_wp2_with (first | ((with_reducible refine wpList_load_by (o := ⟨some 61, .load 41 (.tmp 3), _, _, _, _⟩) ?e1 41 (.tmp 3) ?e2 ⟨w.heap.size, 0, none⟩ ?e3 _ M93.out ?_); (case e1 => rfl); (case e2 => rfl); (case e3 => rfl)) | ((with_reducible refine wpList_load_by (o := ⟨some 62, .load 41 (.tmp 4), _, _, _, _⟩) ?e1 41 (.tmp 4) ?e2 ⟨(w.heap.size + 1), 0, none⟩ ?e3 _ M94.out ?_); (case e1 => rfl); (case e2 => rfl); (case e3 => rfl)))
  refine C95.out.mono ?_
  rintro e w96 ⟨d90, rfl, hd91, hk92, hb97⟩
  have T98 := Lib.hid (T83.out.below hb97 T83.out.lt)
  have T99 := Lib.hid (T84.out.below hb97 T84.out.lt)
  have T100 := Lib.hid (T85.out.below hb97 T85.out.lt)
  have F101 := Lib.hid (F86.out.below hb97 (Nat.le_refl _))
  have F102 := Lib.hid (F87.out.below hb97 (Nat.le_refl _))
  have F103 := Lib.hid (F88.out.below hb97 (Nat.le_refl _))
  have B104 := Lib.hid (B89.out.trans (hb97.mono B89.out.size))
  clear hb97
  have E105 := Lib.hid (hd91)
  have F106 := Lib.hid (hk92)
  clear hd91 hk92
  have hb107 := (Below.refl w96.heap.size w96).alloc (Nat.le_refl _) (.cells #[(.slice d90.A d90.xs.length d90.c)] 41)
  have T108 := Lib.hid (BoAt.new w96 (.slice d90.A d90.xs.length d90.c))
  have T109 := Lib.hid (T98.out.below hb107 T98.out.lt)
  have T110 := Lib.hid (T99.out.below hb107 T99.out.lt)
  have T111 := Lib.hid (T100.out.below hb107 T100.out.lt)
  have F112 := Lib.hid (F101.out.below hb107 (Nat.le_refl _))
  have F113 := Lib.hid (F102.out.below hb107 (Nat.le_refl _))
  have F114 := Lib.hid (F103.out.below hb107 (Nat.le_refl _))
  have F115 := Lib.hid (F106.out.below hb107 (Nat.le_refl _))
  have B116 := Lib.hid (B104.out.trans (hb107.mono B104.out.size))
  clear hb107
  have M120 := Lib.hid (T110.out.load)
  have M121 := Lib.hid (T109.out.load)
  have C122 := Lib.hid (bjoin_any b a (w96.alloc (.cells #[(.slice d90.A d90.xs.length d90.c)] 41)) (HLA.out _ B116.out) F113.out F112.out)
  unfold BJoinPost at C122
  rw [JY.out] at C122
  dsimp only at C122
  go_wp2_with (first | ((with_reducible refine wpList_load_by (o := ⟨some 67, .load 41 (.tmp 4), _, _, _, _⟩) ?e1 41 (.tmp 4) ?e2 ⟨(w.heap.size + 1), 0, none⟩ ?e3 _ M120.out ?_); (case e1 => rfl); (case e2 => rfl); (case e3 => rfl)) | ((with_reducible refine wpList_load_by (o := ⟨some 68, .load 41 (.tmp 3), _, _, _, _⟩) ?e1 41 (.tmp 3) ?e2 ⟨w.heap.size, 0, none⟩ ?e3 _ M121.out ?_); (case e1 => rfl); (case e2 => rfl); (case e3 => rfl)))
  refine C122.out.mono ?_
  rintro e w123 ⟨d117, rfl, hd118, hk119, hb124⟩
  have T125 := Lib.hid (T109.out.below hb124 T109.out.lt)
  have T126 := Lib.hid (T110.out.below hb124 T110.out.lt)
  have T127 := Lib.hid (T111.out.below hb124 T111.out.lt)
  have T128 := Lib.hid (T108.out.below hb124 T108.out.lt)
  have F129 := Lib.hid (F112.out.below hb124 (Nat.le_refl _))
  have F130 := Lib.hid (F113.out.below hb124 (Nat.le_refl _))
  have F131 := Lib.hid (F114.out.below hb124 (Nat.le_refl _))
  have F132 := Lib.hid (F115.out.below hb124 (Nat.le_refl _))
  have B133 := Lib.hid (B116.out.trans (hb124.mono B116.out.size))
  clear hb124
  have E134 := Lib.hid (hd118)
  have F135 := Lib.hid (hk119)
  clear hd118 hk119
  have hb136 := (Below.refl w123.heap.size w123).alloc (Nat.le_refl _) (.cells #[(.slice d117.A d117.xs.length d117.c)] 41)
  have T137 := Lib.hid (BoAt.new w123 (.slice d117.A d117.xs.length d117.c))
  have T138 := Lib.hid (T125.out.below hb136 T125.out.lt)
  have T139 := Lib.hid (T126.out.below hb136 T126.out.lt)
  have T140 := Lib.hid (T127.out.below hb136 T127.out.lt)
  have T141 := Lib.hid (T128.out.below hb136 T128.out.lt)
  have F142 := Lib.hid (F129.out.below hb136 (Nat.le_refl _))
  have F143 := Lib.hid (F130.out.below hb136 (Nat.le_refl _))
  have F144 := Lib.hid (F131.out.below hb136 (Nat.le_refl _))
  have F145 := Lib.hid (F132.out.below hb136 (Nat.le_refl _))
  have F146 := Lib.hid (F135.out.below hb136 (Nat.le_refl _))
  have B147 := Lib.hid (B133.out.trans (hb136.mono B133.out.size))
  clear hb136
  have M151 := Lib.hid (T139.out.load)
  have M152 := Lib.hid (T140.out.load)
  have C153 := Lib.hid (bjoin_any b c (w123.alloc (.cells #[(.slice d117.A d117.xs.length d117.c)] 41)) (HLA.out _ B147.out) F143.out F144.out)
  unfold BJoinPost at C153
  rw [JZ.out] at C153
  dsimp only at C153
  go_wp2_with (first | ((with_reducible refine wpList_load_by (o := ⟨some 73, .load 41 (.tmp 4), _, _, _, _⟩) ?e1 41 (.tmp 4) ?e2 ⟨(w.heap.size + 1), 0, none⟩ ?e3 _ M151.out ?_); (case e1 => rfl); (case e2 => rfl); (case e3 => rfl)) | ((with_reducible refine wpList_load_by (o := ⟨some 74, .load 41 (.tmp 5), _, _, _, _⟩) ?e1 41 (.tmp 5) ?e2 ⟨(w.heap.size + 1 + 1), 0, none⟩ ?e3 _ M152.out ?_); (case e1 => rfl); (case e2 => rfl); (case e3 => rfl)))
  refine C153.out.mono ?_
  rintro e w154 ⟨d148, rfl, hd149, hk150, hb155⟩
  have T156 := Lib.hid (T138.out.below hb155 T138.out.lt)
  have T157 := Lib.hid (T139.out.below hb155 T139.out.lt)
  have T158 := Lib.hid (T140.out.below hb155 T140.out.lt)
  have T159 := Lib.hid (T141.out.below hb155 T141.out.lt)
  have T160 := Lib.hid (T137.out.below hb155 T137.out.lt)
  have F161 := Lib.hid (F142.out.below hb155 (Nat.le_refl _))
  have F162 := Lib.hid (F143.out.below hb155 (Nat.le_refl _))
  have F163 := Lib.hid (F144.out.below hb155 (Nat.le_refl _))
  have F164 := Lib.hid (F145.out.below hb155 (Nat.le_refl _))
  have F165 := Lib.hid (F146.out.below hb155 (Nat.le_refl _))
  have B166 := Lib.hid (B147.out.trans (hb155.mono B147.out.size))
  clear hb155
  have E167 := Lib.hid (hd149)
  have F168 := Lib.hid (hk150)
  clear hd149 hk150
  have hb169 := (Below.refl w154.heap.size w154).alloc (Nat.le_refl _) (.cells #[(.slice d148.A d148.xs.length d148.c)] 41)
  have T170 := Lib.hid (BoAt.new w154 (.slice d148.A d148.xs.length d148.c))
  have T171 := Lib.hid (T156.out.below hb169 T156.out.lt)
  have T172 := Lib.hid (T157.out.below hb169 T157.out.lt)
  have T173 := Lib.hid (T158.out.below hb169 T158.out.lt)
  have T174 := Lib.hid (T159.out.below hb169 T159.out.lt)
  have T175 := Lib.hid (T160.out.below hb169 T160.out.lt)
  have F176 := Lib.hid (F161.out.below hb169 (Nat.le_refl _))
  have F177 := Lib.hid (F162.out.below hb169 (Nat.le_refl _))
  have F178 := Lib.hid (F163.out.below hb169 (Nat.le_refl _))
  have F179 := Lib.hid (F164.out.below hb169 (Nat.le_refl _))
  have F180 := Lib.hid (F165.out.below hb169 (Nat.le_refl _))
  have F181 := Lib.hid (F168.out.below hb169 (Nat.le_refl _))
  have B182 := Lib.hid (B166.out.trans (hb169.mono B166.out.size))
  clear hb169
  have M186 := Lib.hid (T171.out.load)
  have M187 := Lib.hid (T171.out.load)
  have C188 := Lib.hid (bjoin_any a a (w154.alloc (.cells #[(.slice d148.A d148.xs.length d148.c)] 41)) (HLA.out _ B182.out) F176.out F176.out)
  unfold BJoinPost at C188
  rw [JO.out] at C188
  dsimp only at C188
  go_wp2_with (first | ((with_reducible refine wpList_load_by (o := ⟨some 79, .load 41 (.tmp 3), _, _, _, _⟩) ?e1 41 (.tmp 3) ?e2 ⟨w.heap.size, 0, none⟩ ?e3 _ M186.out ?_); (case e1 => rfl); (case e2 => rfl); (case e3 => rfl)) | ((with_reducible refine wpList_load_by (o := ⟨some 80, .load 41 (.tmp 3), _, _, _, _⟩) ?e1 41 (.tmp 3) ?e2 ⟨w.heap.size, 0, none⟩ ?e3 _ M187.out ?_); (case e1 => rfl); (case e2 => rfl); (case e3 => rfl)))
  refine C188.out.mono ?_
  rintro e w189 ⟨d183, rfl, hd184, hk185, hb190⟩
  have T191 := Lib.hid (T171.out.below hb190 T171.out.lt)
  have T192 := Lib.hid (T172.out.below hb190 T172.out.lt)
  have T193 := Lib.hid (T173.out.below hb190 T173.out.lt)
  have T194 := Lib.hid (T174.out.below hb190 T174.out.lt)
  have T195 := Lib.hid (T175.out.below hb190 T175.out.lt)
  have T196 := Lib.hid (T170.out.below hb190 T170.out.lt)
  have F197 := Lib.hid (F176.out.below hb190 (Nat.le_refl _))
  have F198 := Lib.hid (F177.out.below hb190 (Nat.le_refl _))
  have F199 := Lib.hid (F178.out.below hb190 (Nat.le_refl _))
  have F200 := Lib.hid (F179.out.below hb190 (Nat.le_refl _))
  have F201 := Lib.hid (F180.out.below hb190 (Nat.le_refl _))
  have F202 := Lib.hid (F181.out.below hb190 (Nat.le_refl _))
  have B203 := Lib.hid (B182.out.trans (hb190.mono B182.out.size))
  clear hb190
  have E204 := Lib.hid (hd184)
  have F205 := Lib.hid (hk185)
  clear hd184 hk185
  have hb206 := (Below.refl w189.heap.size w189).alloc (Nat.le_refl _) (.cells #[(.slice d183.A d183.xs.length d183.c)] 41)
  have T207 := Lib.hid (BoAt.new w189 (.slice d183.A d183.xs.length d183.c))
  have T208 := Lib.hid (T191.out.below hb206 T191.out.lt)
  have T209 := Lib.hid (T192.out.below hb206 T192.out.lt)
  have T210 := Lib.hid (T193.out.below hb206 T193.out.lt)
  have T211 := Lib.hid (T194.out.below hb206 T194.out.lt)
  have T212 := Lib.hid (T195.out.below hb206 T195.out.lt)
  have T213 := Lib.hid (T196.out.below hb206 T196.out.lt)
  have F214 := Lib.hid (F197.out.below hb206 (Nat.le_refl _))
  have F215 := Lib.hid (F198.out.below hb206 (Nat.le_refl _))
  have F216 := Lib.hid (F199.out.below hb206 (Nat.le_refl _))
  have F217 := Lib.hid (F200.out.below hb206 (Nat.le_refl _))
  have F218 := Lib.hid (F201.out.below hb206 (Nat.le_refl _))
  have F219 := Lib.hid (F202.out.below hb206 (Nat.le_refl _))
  have F220 := Lib.hid (F205.out.below hb206 (Nat.le_refl _))
  have B221 := Lib.hid (B203.out.trans (hb206.mono B203.out.size))
  clear hb206
  have M222 := Lib.hid (T211.out.load)
  have M223 := Lib.hid (T212.out.load)
  have C224 := Lib.hid (bsame_any d90 d117 (w189.alloc (.cells #[(.slice d183.A d183.xs.length d183.c)] 41)) F217.out F218.out)
  try rw [E105.out] at C224
  try rw [E134.out] at C224
  rw [SX.out] at C224
  go_wp2_with (first | ((with_reducible refine wpList_load_by (o := ⟨some 88, .load 41 (.tmp 11), _, _, _, _⟩) ?e1 41 (.tmp 11) ?e2 ⟨w96.heap.size, 0, none⟩ ?e3 _ M222.out ?_); (case e1 => rfl); (case e2 => rfl); (case e3 => rfl)) | ((with_reducible refine wpList_load_by (o := ⟨some 89, .load 41 (.tmp 13), _, _, _, _⟩) ?e1 41 (.tmp 13) ?e2 ⟨w123.heap.size, 0, none⟩ ?e3 _ M223.out ?_); (case e1 => rfl); (case e2 => rfl); (case e3 => rfl)))
  refine C224.out.mono ?_
  rintro e w225 ⟨rfl, hb226⟩
  have T227 := Lib.hid (T208.out.below hb226 T208.out.lt)
  have T228 := Lib.hid (T209.out.below hb226 T209.out.lt)
  have T229 := Lib.hid (T210.out.below hb226 T210.out.lt)
  have T230 := Lib.hid (T211.out.below hb226 T211.out.lt)
  have T231 := Lib.hid (T212.out.below hb226 T212.out.lt)
  have T232 := Lib.hid (T213.out.below hb226 T213.out.lt)
  have T233 := Lib.hid (T207.out.below hb226 T207.out.lt)
  have F234 := Lib.hid (F214.out.below hb226 (Nat.le_refl _))
  have F235 := Lib.hid (F215.out.below hb226 (Nat.le_refl _))
  have F236 := Lib.hid (F216.out.below hb226 (Nat.le_refl _))
  have F237 := Lib.hid (F217.out.below hb226 (Nat.le_refl _))
  have F238 := Lib.hid (F218.out.below hb226 (Nat.le_refl _))
  have F239 := Lib.hid (F219.out.below hb226 (Nat.le_refl _))
  have F240 := Lib.hid (F220.out.below hb226 (Nat.le_refl _))
  have B241 := Lib.hid (B221.out.trans (hb226.mono B221.out.size))
  clear hb226
  have M242 := Lib.hid (T233.out.load)
  have M243 := Lib.hid (T227.out.load)
  have C244 := Lib.hid (bsame_any d183 a w225 F240.out F234.out)
  try rw [E204.out] at C244
  rw [SA.out] at C244
  go_wp2_with (first | ((with_reducible refine wpList_load_by (o := ⟨some 98, .load 41 (.tmp 17), _, _, _, _⟩) ?e1 41 (.tmp 17) ?e2 ⟨w189.heap.size, 0, none⟩ ?e3 _ M242.out ?_); (case e1 => rfl); (case e2 => rfl); (case e3 => rfl)) | ((with_reducible refine wpList_load_by (o := ⟨some 99, .load 41 (.tmp 3), _, _, _, _⟩) ?e1 41 (.tmp 3) ?e2 ⟨w.heap.size, 0, none⟩ ?e3 _ M243.out ?_); (case e1 => rfl); (case e2 => rfl); (case e3 => rfl)))
  refine C244.out.mono ?_
  rintro e w245 ⟨rfl, hb246⟩
  have T247 := Lib.hid (T227.out.below hb246 T227.out.lt)
  have T248 := Lib.hid (T228.out.below hb246 T228.out.lt)
  have T249 := Lib.hid (T229.out.below hb246 T229.out.lt)
  have T250 := Lib.hid (T230.out.below hb246 T230.out.lt)
  have T251 := Lib.hid (T231.out.below hb246 T231.out.lt)
  have T252 := Lib.hid (T232.out.below hb246 T232.out.lt)
  have T253 := Lib.hid (T233.out.below hb246 T233.out.lt)
  have F254 := Lib.hid (F234.out.below hb246 (Nat.le_refl _))
  have F255 := Lib.hid (F235.out.below hb246 (Nat.le_refl _))
  have F256 := Lib.hid (F236.out.below hb246 (Nat.le_refl _))
  have F257 := Lib.hid (F237.out.below hb246 (Nat.le_refl _))
  have F258 := Lib.hid (F238.out.below hb246 (Nat.le_refl _))
  have F259 := Lib.hid (F239.out.below hb246 (Nat.le_refl _))
  have F260 := Lib.hid (F240.out.below hb246 (Nat.le_refl _))
  have B261 := Lib.hid (B241.out.trans (hb246.mono B241.out.size))
  clear hb246
  have M265 := Lib.hid (T250.out.load)
  have M266 := Lib.hid (T249.out.load)
  have C267 := Lib.hid (bjoin_any d90 c w245 (HLA.out _ B261.out) F257.out F256.out)
  unfold BJoinPost at C267
  try rw [E105.out] at C267
  rw [JV.out] at C267
  dsimp only at C267
  go_wp2_with (first | ((with_reducible refine wpList_load_by (o := ⟨some 116, .load 41 (.tmp 11), _, _, _, _⟩) ?e1 41 (.tmp 11) ?e2 ⟨w96.heap.size, 0, none⟩ ?e3 _ M265.out ?_); (case e1 => rfl); (case e2 => rfl); (case e3 => rfl)) | ((with_reducible refine wpList_load_by (o := ⟨some 117, .load 41 (.tmp 5), _, _, _, _⟩) ?e1 41 (.tmp 5) ?e2 ⟨(w.heap.size + 1 + 1), 0, none⟩ ?e3 _ M266.out ?_); (case e1 => rfl); (case e2 => rfl); (case e3 => rfl)))
  refine C267.out.mono ?_
  rintro e w268 ⟨d262, rfl, hd263, hk264, hb269⟩
  have T270 := Lib.hid (T247.out.below hb269 T247.out.lt)
  have T271 := Lib.hid (T248.out.below hb269 T248.out.lt)
  have T272 := Lib.hid (T249.out.below hb269 T249.out.lt)
  have T273 := Lib.hid (T250.out.below hb269 T250.out.lt)
  have T274 := Lib.hid (T251.out.below hb269 T251.out.lt)
  have T275 := Lib.hid (T252.out.below hb269 T252.out.lt)
  have T276 := Lib.hid (T253.out.below hb269 T253.out.lt)
  have F277 := Lib.hid (F254.out.below hb269 (Nat.le_refl _))
  have F278 := Lib.hid (F255.out.below hb269 (Nat.le_refl _))
  have F279 := Lib.hid (F256.out.below hb269 (Nat.le_refl _))
  have F280 := Lib.hid (F257.out.below hb269 (Nat.le_refl _))
  have F281 := Lib.hid (F258.out.below hb269 (Nat.le_refl _))
  have F282 := Lib.hid (F259.out.below hb269 (Nat.le_refl _))
  have F283 := Lib.hid (F260.out.below hb269 (Nat.le_refl _))
  have B284 := Lib.hid (B261.out.trans (hb269.mono B261.out.size))
  clear hb269
  have E285 := Lib.hid (hd263)
  have F286 := Lib.hid (hk264)
  clear hd263 hk264
  have hb287 := (Below.refl w268.heap.size w268).alloc (Nat.le_refl _) (.cells #[(.slice d262.A d262.xs.length d262.c)] 41)
  have T288 := Lib.hid (BoAt.new w268 (.slice d262.A d262.xs.length d262.c))
  have T289 := Lib.hid (T270.out.below hb287 T270.out.lt)
  have T290 := Lib.hid (T271.out.below hb287 T271.out.lt)
  have T291 := Lib.hid (T272.out.below hb287 T272.out.lt)
  have T292 := Lib.hid (T273.out.below hb287 T273.out.lt)
  have T293 := Lib.hid (T274.out.below hb287 T274.out.lt)
  have T294 := Lib.hid (T275.out.below hb287 T275.out.lt)
  have T295 := Lib.hid (T276.out.below hb287 T276.out.lt)
  have F296 := Lib.hid (F277.out.below hb287 (Nat.le_refl _))
  have F297 := Lib.hid (F278.out.below hb287 (Nat.le_refl _))
  have F298 := Lib.hid (F279.out.below hb287 (Nat.le_refl _))
  have F299 := Lib.hid (F280.out.below hb287 (Nat.le_refl _))
  have F300 := Lib.hid (F281.out.below hb287 (Nat.le_refl _))
  have F301 := Lib.hid (F282.out.below hb287 (Nat.le_refl _))
  have F302 := Lib.hid (F283.out.below hb287 (Nat.le_refl _))
  have F303 := Lib.hid (F286.out.below hb287 (Nat.le_refl _))
  have B304 := Lib.hid (B284.out.trans (hb287.mono B284.out.size))
  clear hb287
  have M308 := Lib.hid (T289.out.load)
  have M309 := Lib.hid (T294.out.load)
  have C310 := Lib.hid (bjoin_any a d148 (w268.alloc (.cells #[(.slice d262.A d262.xs.length d262.c)] 41)) (HLA.out _ B304.out) F296.out F301.out)
  unfold BJoinPost at C310
  try rw [E167.out] at C310
  rw [JW.out] at C310
  dsimp only at C310
  go_wp2_with (first | ((with_reducible refine wpList_load_by (o := ⟨some 122, .load 41 (.tmp 3), _, _, _, _⟩) ?e1 41 (.tmp 3) ?e2 ⟨w.heap.size, 0, none⟩ ?e3 _ M308.out ?_); (case e1 => rfl); (case e2 => rfl); (case e3 => rfl)) | ((with_reducible refine wpList_load_by (o := ⟨some 123, .load 41 (.tmp 15), _, _, _, _⟩) ?e1 41 (.tmp 15) ?e2 ⟨w154.heap.size, 0, none⟩ ?e3 _ M309.out ?_); (case e1 => rfl); (case e2 => rfl); (case e3 => rfl)))
  refine C310.out.mono ?_
  rintro e w311 ⟨d305, rfl, hd306, hk307, hb312⟩
  have T313 := Lib.hid (T289.out.below hb312 T289.out.lt)
  have T314 := Lib.hid (T290.out.below hb312 T290.out.lt)
  have T315 := Lib.hid (T291.out.below hb312 T291.out.lt)
  have T316 := Lib.hid (T292.out.below hb312 T292.out.lt)
  have T317 := Lib.hid (T293.out.below hb312 T293.out.lt)
  have T318 := Lib.hid (T294.out.below hb312 T294.out.lt)
  have T319 := Lib.hid (T295.out.below hb312 T295.out.lt)
  have T320 := Lib.hid (T288.out.below hb312 T288.out.lt)
  have F321 := Lib.hid (F296.out.below hb312 (Nat.le_refl _))
  have F322 := Lib.hid (F297.out.below hb312 (Nat.le_refl _))
  have F323 := Lib.hid (F298.out.below hb312 (Nat.le_refl _))
  have F324 := Lib.hid (F299.out.below hb312 (Nat.le_refl _))
  have F325 := Lib.hid (F300.out.below hb312 (Nat.le_refl _))
  have F326 := Lib.hid (F301.out.below hb312 (Nat.le_refl _))
  have F327 := Lib.hid (F302.out.below hb312 (Nat.le_refl _))
  have F328 := Lib.hid (F303.out.below hb312 (Nat.le_refl _))
  have B329 := Lib.hid (B304.out.trans (hb312.mono B304.out.size))
  clear hb312
  have E330 := Lib.hid (hd306)
  have F331 := Lib.hid (hk307)
  clear hd306 hk307
  have hb332 := (Below.refl w311.heap.size w311).alloc (Nat.le_refl _) (.cells #[(.slice d305.A d305.xs.length d305.c)] 41)
  have T333 := Lib.hid (BoAt.new w311 (.slice d305.A d305.xs.length d305.c))
  have T334 := Lib.hid (T313.out.below hb332 T313.out.lt)
  have T335 := Lib.hid (T314.out.below hb332 T314.out.lt)
  have T336 := Lib.hid (T315.out.below hb332 T315.out.lt)
  have T337 := Lib.hid (T316.out.below hb332 T316.out.lt)
  have T338 := Lib.hid (T317.out.below hb332 T317.out.lt)
  have T339 := Lib.hid (T318.out.below hb332 T318.out.lt)
  have T340 := Lib.hid (T319.out.below hb332 T319.out.lt)
  have T341 := Lib.hid (T320.out.below hb332 T320.out.lt)
  have F342 := Lib.hid (F321.out.below hb332 (Nat.le_refl _))
  have F343 := Lib.hid (F322.out.below hb332 (Nat.le_refl _))
  have F344 := Lib.hid (F323.out.below hb332 (Nat.le_refl _))
  have F345 := Lib.hid (F324.out.below hb332 (Nat.le_refl _))
  have F346 := Lib.hid (F325.out.below hb332 (Nat.le_refl _))
  have F347 := Lib.hid (F326.out.below hb332 (Nat.le_refl _))
  have F348 := Lib.hid (F327.out.below hb332 (Nat.le_refl _))
  have F349 := Lib.hid (F328.out.below hb332 (Nat.le_refl _))
  have F350 := Lib.hid (F331.out.below hb332 (Nat.le_refl _))
  have B351 := Lib.hid (B329.out.trans (hb332.mono B329.out.size))
  clear hb332
  have M352 := Lib.hid (T341.out.load)
  have M353 := Lib.hid (T333.out.load)
  have C354 := Lib.hid (bsame_any d262 d305 (w311.alloc (.cells #[(.slice d305.A d305.xs.length d305.c)] 41)) F349.out F350.out)
  try rw [E285.out] at C354
  try rw [E330.out] at C354
  rw [SV.out] at C354
  go_wp2_with (first | ((with_reducible refine wpList_load_by (o := ⟨some 131, .load 41 (.tmp 19), _, _, _, _⟩) ?e1 41 (.tmp 19) ?e2 ⟨w268.heap.size, 0, none⟩ ?e3 _ M352.out ?_); (case e1 => rfl); (case e2 => rfl); (case e3 => rfl)) | ((with_reducible refine wpList_load_by (o := ⟨some 132, .load 41 (.tmp 21), _, _, _, _⟩) ?e1 41 (.tmp 21) ?e2 ⟨w311.heap.size, 0, none⟩ ?e3 _ M353.out ?_); (case e1 => rfl); (case e2 => rfl); (case e3 => rfl)))
  refine C354.out.mono ?_
  rintro e w355 ⟨rfl, hb356⟩
  have T357 := Lib.hid (T334.out.below hb356 T334.out.lt)
  have T358 := Lib.hid (T335.out.below hb356 T335.out.lt)
  have T359 := Lib.hid (T336.out.below hb356 T336.out.lt)
  have T360 := Lib.hid (T337.out.below hb356 T337.out.lt)
  have T361 := Lib.hid (T338.out.below hb356 T338.out.lt)
  have T362 := Lib.hid (T339.out.below hb356 T339.out.lt)
  have T363 := Lib.hid (T340.out.below hb356 T340.out.lt)
  have T364 := Lib.hid (T341.out.below hb356 T341.out.lt)
  have T365 := Lib.hid (T333.out.below hb356 T333.out.lt)
  have F366 := Lib.hid (F342.out.below hb356 (Nat.le_refl _))
  have F367 := Lib.hid (F343.out.below hb356 (Nat.le_refl _))
  have F368 := Lib.hid (F344.out.below hb356 (Nat.le_refl _))
  have F369 := Lib.hid (F345.out.below hb356 (Nat.le_refl _))
  have F370 := Lib.hid (F346.out.below hb356 (Nat.le_refl _))
  have F371 := Lib.hid (F347.out.below hb356 (Nat.le_refl _))
  have F372 := Lib.hid (F348.out.below hb356 (Nat.le_refl _))
  have F373 := Lib.hid (F349.out.below hb356 (Nat.le_refl _))
  have F374 := Lib.hid (F350.out.below hb356 (Nat.le_refl _))
  have B375 := Lib.hid (B351.out.trans (hb356.mono B351.out.size))
  clear hb356
  have M376 := Lib.hid (T360.out.load)
  have C377 := Lib.hid (bmay_any d90 w355 F369.out)
  try rw [E105.out] at C377
  rw [MX.out] at C377
  go_wp2_with (first | ((with_reducible refine wpList_load_by (o := ⟨some 136, .load 41 (.tmp 11), _, _, _, _⟩) ?e1 41 (.tmp 11) ?e2 ⟨w96.heap.size, 0, none⟩ ?e3 _ M376.out ?_); (case e1 => rfl); (case e2 => rfl); (case e3 => rfl)))
  refine C377.out.mono ?_
  rintro e w378 ⟨rfl, hb379⟩
  have T380 := Lib.hid (T357.out.below hb379 T357.out.lt)
  have T381 := Lib.hid (T358.out.below hb379 T358.out.lt)
  have T382 := Lib.hid (T359.out.below hb379 T359.out.lt)
  have T383 := Lib.hid (T360.out.below hb379 T360.out.lt)
  have T384 := Lib.hid (T361.out.below hb379 T361.out.lt)
  have T385 := Lib.hid (T362.out.below hb379 T362.out.lt)
  have T386 := Lib.hid (T363.out.below hb379 T363.out.lt)
  have T387 := Lib.hid (T364.out.below hb379 T364.out.lt)
  have T388 := Lib.hid (T365.out.below hb379 T365.out.lt)
  have F389 := Lib.hid (F366.out.below hb379 (Nat.le_refl _))
  have F390 := Lib.hid (F367.out.below hb379 (Nat.le_refl _))
  have F391 := Lib.hid (F368.out.below hb379 (Nat.le_refl _))
  have F392 := Lib.hid (F369.out.below hb379 (Nat.le_refl _))
  have F393 := Lib.hid (F370.out.below hb379 (Nat.le_refl _))
  have F394 := Lib.hid (F371.out.below hb379 (Nat.le_refl _))
  have F395 := Lib.hid (F372.out.below hb379 (Nat.le_refl _))
  have F396 := Lib.hid (F373.out.below hb379 (Nat.le_refl _))
  have F397 := Lib.hid (F374.out.below hb379 (Nat.le_refl _))
  have B398 := Lib.hid (B375.out.trans (hb379.mono B375.out.size))
  clear hb379
  have M399 := Lib.hid (T380.out.load)
  have M400 := Lib.hid (T383.out.load)
  have C401 := Lib.hid (bleq_any a d90 w378 (HLA.out _ B398.out) F389.out F392.out)
  try rw [E105.out] at C401
  rw [LAX.out] at C401
  go_wp2_with (first | ((with_reducible refine wpList_load_by (o := ⟨some 140, .load 41 (.tmp 3), _, _, _, _⟩) ?e1 41 (.tmp 3) ?e2 ⟨w.heap.size, 0, none⟩ ?e3 _ M399.out ?_); (case e1 => rfl); (case e2 => rfl); (case e3 => rfl)) | ((with_reducible refine wpList_load_by (o := ⟨some 141, .load 41 (.tmp 11), _, _, _, _⟩) ?e1 41 (.tmp 11) ?e2 ⟨w96.heap.size, 0, none⟩ ?e3 _ M400.out ?_); (case e1 => rfl); (case e2 => rfl); (case e3 => rfl)))
  refine C401.out.mono ?_
  rintro e w402 ⟨rfl, hb403⟩
  have T404 := Lib.hid (T380.out.below hb403 T380.out.lt)
  have T405 := Lib.hid (T381.out.below hb403 T381.out.lt)
  have T406 := Lib.hid (T382.out.below hb403 T382.out.lt)
  have T407 := Lib.hid (T383.out.below hb403 T383.out.lt)
  have T408 := Lib.hid (T384.out.below hb403 T384.out.lt)
  have T409 := Lib.hid (T385.out.below hb403 T385.out.lt)
  have T410 := Lib.hid (T386.out.below hb403 T386.out.lt)
  have T411 := Lib.hid (T387.out.below hb403 T387.out.lt)
  have T412 := Lib.hid (T388.out.below hb403 T388.out.lt)
  have F413 := Lib.hid (F389.out.below hb403 (Nat.le_refl _))
  have F414 := Lib.hid (F390.out.below hb403 (Nat.le_refl _))
  have F415 := Lib.hid (F391.out.below hb403 (Nat.le_refl _))
  have F416 := Lib.hid (F392.out.below hb403 (Nat.le_refl _))
  have F417 := Lib.hid (F393.out.below hb403 (Nat.le_refl _))
  have F418 := Lib.hid (F394.out.below hb403 (Nat.le_refl _))
  have F419 := Lib.hid (F395.out.below hb403 (Nat.le_refl _))
  have F420 := Lib.hid (F396.out.below hb403 (Nat.le_refl _))
  have F421 := Lib.hid (F397.out.below hb403 (Nat.le_refl _))
  have B422 := Lib.hid (B398.out.trans (hb403.mono B398.out.size))
  clear hb403
  have M423 := Lib.hid (T405.out.load)
  have M424 := Lib.hid (T407.out.load)
  have C425 := Lib.hid (bleq_any b d90 w402 (HLA.out _ B422.out) F414.out F416.out)
  try rw [E105.out] at C425
  rw [LBX.out] at C425
  go_wp2_with (first | ((with_reducible refine wpList_load_by (o := ⟨some 145, .load 41 (.tmp 4), _, _, _, _⟩) ?e1 41 (.tmp 4) ?e2 ⟨(w.heap.size + 1), 0, none⟩ ?e3 _ M423.out ?_); (case e1 => rfl); (case e2 => rfl); (case e3 => rfl)) | ((with_reducible refine wpList_load_by (o := ⟨some 146, .load 41 (.tmp 11), _, _, _, _⟩) ?e1 41 (.tmp 11) ?e2 ⟨w96.heap.size, 0, none⟩ ?e3 _ M424.out ?_); (case e1 => rfl); (case e2 => rfl); (case e3 => rfl)))
  refine C425.out.mono ?_
  rintro e w426 ⟨rfl, hb427⟩
  have T428 := Lib.hid (T404.out.below hb427 T404.out.lt)
  have T429 := Lib.hid (T405.out.below hb427 T405.out.lt)
  have T430 := Lib.hid (T406.out.below hb427 T406.out.lt)
  have T431 := Lib.hid (T407.out.below hb427 T407.out.lt)
  have T432 := Lib.hid (T408.out.below hb427 T408.out.lt)
  have T433 := Lib.hid (T409.out.below hb427 T409.out.lt)
  have T434 := Lib.hid (T410.out.below hb427 T410.out.lt)
  have T435 := Lib.hid (T411.out.below hb427 T411.out.lt)
  have T436 := Lib.hid (T412.out.below hb427 T412.out.lt)
  have F437 := Lib.hid (F413.out.below hb427 (Nat.le_refl _))
  have F438 := Lib.hid (F414.out.below hb427 (Nat.le_refl _))
  have F439 := Lib.hid (F415.out.below hb427 (Nat.le_refl _))
  have F440 := Lib.hid (F416.out.below hb427 (Nat.le_refl _))
  have F441 := Lib.hid (F417.out.below hb427 (Nat.le_refl _))
  have F442 := Lib.hid (F418.out.below hb427 (Nat.le_refl _))
  have F443 := Lib.hid (F419.out.below hb427 (Nat.le_refl _))
  have F444 := Lib.hid (F420.out.below hb427 (Nat.le_refl _))
  have F445 := Lib.hid (F421.out.below hb427 (Nat.le_refl _))
  have B446 := Lib.hid (B422.out.trans (hb427.mono B422.out.size))
  clear hb427
  have M447 := Lib.hid (T428.out.load)
  have M448 := Lib.hid (T435.out.load)
  have C449 := Lib.hid (bleq_any a d262 w426 (HLA.out _ B446.out) F437.out F444.out)
  try rw [E285.out] at C449
  rw [LAV.out] at C449
  go_wp2_with (first | ((with_reducible refine wpList_load_by (o := ⟨some 153, .load 41 (.tmp 3), _, _, _, _⟩) ?e1 41 (.tmp 3) ?e2 ⟨w.heap.size, 0, none⟩ ?e3 _ M447.out ?_); (case e1 => rfl); (case e2 => rfl); (case e3 => rfl)) | ((with_reducible refine wpList_load_by (o := ⟨some 154, .load 41 (.tmp 19), _, _, _, _⟩) ?e1 41 (.tmp 19) ?e2 ⟨w268.heap.size, 0, none⟩ ?e3 _ M448.out ?_); (case e1 => rfl); (case e2 => rfl); (case e3 => rfl)))
  refine C449.out.mono ?_
  rintro e w450 ⟨rfl, hb451⟩
  have T452 := Lib.hid (T428.out.below hb451 T428.out.lt)
  have T453 := Lib.hid (T429.out.below hb451 T429.out.lt)
  have T454 := Lib.hid (T430.out.below hb451 T430.out.lt)
  have T455 := Lib.hid (T431.out.below hb451 T431.out.lt)
  have T456 := Lib.hid (T432.out.below hb451 T432.out.lt)
  have T457 := Lib.hid (T433.out.below hb451 T433.out.lt)
  have T458 := Lib.hid (T434.out.below hb451 T434.out.lt)
  have T459 := Lib.hid (T435.out.below hb451 T435.out.lt)
  have T460 := Lib.hid (T436.out.below hb451 T436.out.lt)
  have F461 := Lib.hid (F437.out.below hb451 (Nat.le_refl _))
  have F462 := Lib.hid (F438.out.below hb451 (Nat.le_refl _))
  have F463 := Lib.hid (F439.out.below hb451 (Nat.le_refl _))
  have F464 := Lib.hid (F440.out.below hb451 (Nat.le_refl _))
  have F465 := Lib.hid (F441.out.below hb451 (Nat.le_refl _))
  have F466 := Lib.hid (F442.out.below hb451 (Nat.le_refl _))
  have F467 := Lib.hid (F443.out.below hb451 (Nat.le_refl _))
  have F468 := Lib.hid (F444.out.below hb451 (Nat.le_refl _))
  have F469 := Lib.hid (F445.out.below hb451 (Nat.le_refl _))
  have B470 := Lib.hid (B446.out.trans (hb451.mono B446.out.size))
  clear hb451
  have M471 := Lib.hid (T454.out.load)
  have M472 := Lib.hid (T459.out.load)
  have C473 := Lib.hid (bleq_any c d262 w450 (HLA.out _ B470.out) F463.out F468.out)
  try rw [E285.out] at C473
  rw [LCV.out] at C473
  go_wp2_with (first | ((with_reducible refine wpList_load_by (o := ⟨some 157, .load 41 (.tmp 5), _, _, _, _⟩) ?e1 41 (.tmp 5) ?e2 ⟨(w.heap.size + 1 + 1), 0, none⟩ ?e3 _ M471.out ?_); (case e1 => rfl); (case e2 => rfl); (case e3 => rfl)) | ((with_reducible refine wpList_load_by (o := ⟨some 158, .load 41 (.tmp 19), _, _, _, _⟩) ?e1 41 (.tmp 19) ?e2 ⟨w268.heap.size, 0, none⟩ ?e3 _ M472.out ?_); (case e1 => rfl); (case e2 => rfl); (case e3 => rfl)))
  refine C473.out.mono ?_
  rintro e w474 ⟨rfl, hb475⟩
  have T476 := Lib.hid (T452.out.below hb475 T452.out.lt)
  have T477 := Lib.hid (T453.out.below hb475 T453.out.lt)
  have T478 := Lib.hid (T454.out.below hb475 T454.out.lt)
  have T479 := Lib.hid (T455.out.below hb475 T455.out.lt)
  have T480 := Lib.hid (T456.out.below hb475 T456.out.lt)
  have T481 := Lib.hid (T457.out.below hb475 T457.out.lt)
  have T482 := Lib.hid (T458.out.below hb475 T458.out.lt)
  have T483 := Lib.hid (T459.out.below hb475 T459.out.lt)
  have T484 := Lib.hid (T460.out.below hb475 T460.out.lt)
  have F485 := Lib.hid (F461.out.below hb475 (Nat.le_refl _))
  have F486 := Lib.hid (F462.out.below hb475 (Nat.le_refl _))
  have F487 := Lib.hid (F463.out.below hb475 (Nat.le_refl _))
  have F488 := Lib.hid (F464.out.below hb475 (Nat.le_refl _))
  have F489 := Lib.hid (F465.out.below hb475 (Nat.le_refl _))
  have F490 := Lib.hid (F466.out.below hb475 (Nat.le_refl _))
  have F491 := Lib.hid (F467.out.below hb475 (Nat.le_refl _))
  have F492 := Lib.hid (F468.out.below hb475 (Nat.le_refl _))
  have F493 := Lib.hid (F469.out.below hb475 (Nat.le_refl _))
  have B494 := Lib.hid (B470.out.trans (hb475.mono B470.out.size))
  clear hb475
  go_wp2
  go_ret
  exact ⟨rfl, B494.out⟩
theorem walk_bookJoins (a b c : Bk) (w : World) (hlaid : Laid w) (wa : BkAt w a) (wb : BkAt w b) (wc : BkAt w c) :
    Calls Tryd.prog 4 #[.agg #[.slice a.A a.xs.length a.c], .agg #[.slice b.A b.xs.length b.c], .agg #[.slice c.A c.xs.length c.c]] w fun e w' => e = .returned (.bool true) ∧ Below w.heap.size w w' := by
  cases p : (fewB a.rs && fewB b.rs && fewB c.rs)
  · exact bjoins_few a b c w hlaid wa wb wc p
  · cases m : (bmay a.rs && bmay b.rs && bmay c.rs)
    · exact bjoins_may a b c w hlaid wa wb wc p m
    · simp only [Bool.and_eq_true] at m
      have ma := m.1.1
      have mb := m.1.2
      have mc := m.2
      by_cases hx : 10 < (bjoin a.rs b.rs).length
      · have JX := bjE_large ma mb hx
        by_cases hz : 10 < (bjoin b.rs c.rs).length
        · exact bjoins_44 a b c w hlaid wa wb wc p [] [] [] ma mb mc JX (bjE_comm.trans JX) (bjE_large mb mc hz) (bjE_self ma) (bsame_self _) (bsame_self _)
        · exact bjoins_40 a b c w hlaid wa wb wc p [] _ [] ma mb mc JX (bjE_comm.trans JX) (bjE_yes mb mc (by omega)) (bjE_self ma) (bsame_self _) (bsame_self _)
      · have hx' : (bjoin a.rs b.rs).length ≤ 10 := by omega
        have JX := bjE_yes ma mb hx'
        have MX := bjoin_bmay ma mb hx'
        by_cases hz : 10 < (bjoin b.rs c.rs).length
        · exact bjoins_04 a b c w hlaid wa wb wc p _ [] [] ma mb mc JX (bjE_comm.trans JX) (bjE_large mb mc hz) (bjE_self ma) (bsame_self _) (bsame_self _)
        · have hz' : (bjoin b.rs c.rs).length ≤ 10 := by omega
          by_cases hv : 10 < (bjoin (bjoin a.rs b.rs) c.rs).length
          · have JV := bjE_large MX mc hv
            exact bjoins_004 a b c w hlaid wa wb wc p _ _ _ ma mb mc JX (bjE_comm.trans JX) (bjE_yes mb mc hz') (bjE_self ma) (bsame_self _) (bsame_self _) JV ((bjE_assoc ma mb mc hx' hz').symm.trans JV) (bsame_self _) MX (bleq_join1 ma mb hx') (bleq_join2 ma mb hx')
          · have hv' : (bjoin (bjoin a.rs b.rs) c.rs).length ≤ 10 := by omega
            have JV := bjE_yes MX mc hv'
            exact bjoins_000 a b c w hlaid wa wb wc p _ _ _ ma mb mc JX (bjE_comm.trans JX) (bjE_yes mb mc hz') (bjE_self ma) (bsame_self _) (bsame_self _) JV ((bjE_assoc ma mb mc hx' hz').symm.trans JV) (bsame_self _) MX (bleq_join1 ma mb hx') (bleq_join2 ma mb hx') (bleq_trans (bleq_join1 ma mb hx') (bleq_join1 MX mc hv')) (bleq_join2 MX mc hv')
end Go.Proofs.YtepapdnchpolmaaDoor

