import Derived.Test.YtepapdnchpolmaaDoorBkAwake
import Derived.Test.YtepapdnchpolmaaDoorGArgs
import Derived.Test.YtepapdnchpolmaaDoorBkFew
/-
  The law BookOrder: for every three books it answers true, and nothing that was there is written.
-/
namespace Go.Proofs.YtepapdnchpolmaaDoor
open Go.RowKit WM
set_option linter.unusedVariables false
set_option maxRecDepth 100000
set_option maxHeartbeats 16000000 in
theorem border_few (a b c : Bk) (w : World) (hlaid : Laid w) (wa : BkAt w a) (wb : BkAt w b) (wc : BkAt w c) (h : (fewB a.rs && fewB b.rs && fewB c.rs) = false) :
    Calls Tryd.prog 5 #[.agg #[.slice a.A a.xs.length a.c], .agg #[.slice b.A b.xs.length b.c], .agg #[.slice c.A c.xs.length c.c]] w fun e w' => e = .returned (.bool true) ∧ Below w.heap.size w w' := by
  have HLA := Lib.hid (fun (X : World) (hX : Below w.heap.size w X) => hlaid.below hX (Nat.le_refl _))
  have Fa := Lib.hid wa
  have Fb := Lib.hid wb
  have Fc := Lib.hid wc
  clear hlaid wa wb wc
  cases pa : fewB a.rs
  · have PA := Lib.hid pa
    clear pa h
    have B1 := Lib.hid (Below.refl w.heap.size w)
    have T2n := BoAt.new w (.slice a.A a.xs.length a.c)
    have T2 := Lib.hid T2n
    clear T2n
    have B3 := Lib.hid (B1.out.alloc B1.out.size (.cells #[(.slice a.A a.xs.length a.c)] 41))
    have T4 := Lib.hid (T2.out.old (.cells #[(.slice b.A b.xs.length b.c)] 41))
    have T5n := BoAt.new (w.alloc (.cells #[(.slice a.A a.xs.length a.c)] 41)) (.slice b.A b.xs.length b.c)
    simp only [World.size_alloc] at T5n
    have T5 := Lib.hid T5n
    clear T5n
    have B6 := Lib.hid (B3.out.alloc B3.out.size (.cells #[(.slice b.A b.xs.length b.c)] 41))
    have T7 := Lib.hid (T4.out.old (.cells #[(.slice c.A c.xs.length c.c)] 41))
    have T8 := Lib.hid (T5.out.old (.cells #[(.slice c.A c.xs.length c.c)] 41))
    have T9n := BoAt.new ((w.alloc (.cells #[(.slice a.A a.xs.length a.c)] 41)).alloc (.cells #[(.slice b.A b.xs.length b.c)] 41)) (.slice c.A c.xs.length c.c)
    simp only [World.size_alloc] at T9n
    have T9 := Lib.hid T9n
    clear T9n
    have B10 := Lib.hid (B6.out.alloc B6.out.size (.cells #[(.slice c.A c.xs.length c.c)] 41))
    have F11 := Lib.hid (Fa.out.below B10.out (Nat.le_refl _))
    have F12 := Lib.hid (Fb.out.below B10.out (Nat.le_refl _))
    have F13 := Lib.hid (Fc.out.below B10.out (Nat.le_refl _))
    go_enter Tryd.func5, Tryd.ntmps5
    have C14 := Lib.hid (bkAwake (((w.alloc (.cells #[(.slice a.A a.xs.length a.c)] 41)).alloc (.cells #[(.slice b.A b.xs.length b.c)] 41)).alloc (.cells #[(.slice c.A c.xs.length c.c)] 41)) (HLA.out _ B10.out))
    go_wp2_with fail
    refine C14.out.mono ?_
    rintro e w15 ⟨rfl, hb16⟩
    have T17 := Lib.hid (T7.out.below hb16 T7.out.lt)
    have T18 := Lib.hid (T8.out.below hb16 T8.out.lt)
    have T19 := Lib.hid (T9.out.below hb16 T9.out.lt)
    have F20 := Lib.hid (F11.out.below hb16 (Nat.le_refl _))
    have F21 := Lib.hid (F12.out.below hb16 (Nat.le_refl _))
    have F22 := Lib.hid (F13.out.below hb16 (Nat.le_refl _))
    have B23 := Lib.hid (B10.out.trans (hb16.mono B10.out.size))
    clear hb16
    have M24 := Lib.hid (T17.out.load)
    have C25 := Lib.hid (fewB_any a w15 F20.out)
    rw [PA.out] at C25
    go_wp2_with (first | ((with_reducible refine wpList_load_by (o := ⟨some 15, .load 41 (.tmp 3), _, _, _, _⟩) ?e1 41 (.tmp 3) ?e2 ⟨w.heap.size, 0, none⟩ ?e3 _ M24.out ?_); (case e1 => rfl); (case e2 => rfl); (case e3 => rfl)))
    refine C25.out.mono ?_
    rintro e w26 ⟨rfl, hb27⟩
    have T28 := Lib.hid (T17.out.below hb27 T17.out.lt)
    have T29 := Lib.hid (T18.out.below hb27 T18.out.lt)
    have T30 := Lib.hid (T19.out.below hb27 T19.out.lt)
    have F31 := Lib.hid (F20.out.below hb27 (Nat.le_refl _))
    have F32 := Lib.hid (F21.out.below hb27 (Nat.le_refl _))
    have F33 := Lib.hid (F22.out.below hb27 (Nat.le_refl _))
    have B34 := Lib.hid (B23.out.trans (hb27.mono B23.out.size))
    clear hb27
    have M35 := Lib.hid (T29.out.load)
    have C36 := Lib.hid (fewB_any b w26 F32.out)
    go_wp2_with (first | ((with_reducible refine wpList_load_by (o := ⟨some 17, .load 41 (.tmp 4), _, _, _, _⟩) ?e1 41 (.tmp 4) ?e2 ⟨(w.heap.size + 1), 0, none⟩ ?e3 _ M35.out ?_); (case e1 => rfl); (case e2 => rfl); (case e3 => rfl)))
    refine C36.out.mono ?_
    rintro e w37 ⟨rfl, hb38⟩
    have T39 := Lib.hid (T28.out.below hb38 T28.out.lt)
    have T40 := Lib.hid (T29.out.below hb38 T29.out.lt)
    have T41 := Lib.hid (T30.out.below hb38 T30.out.lt)
    have F42 := Lib.hid (F31.out.below hb38 (Nat.le_refl _))
    have F43 := Lib.hid (F32.out.below hb38 (Nat.le_refl _))
    have F44 := Lib.hid (F33.out.below hb38 (Nat.le_refl _))
    have B45 := Lib.hid (B34.out.trans (hb38.mono B34.out.size))
    clear hb38
    have M46 := Lib.hid (T41.out.load)
    have C47 := Lib.hid (fewB_any c w37 F44.out)
    go_wp2_with (first | ((with_reducible refine wpList_load_by (o := ⟨some 19, .load 41 (.tmp 5), _, _, _, _⟩) ?e1 41 (.tmp 5) ?e2 ⟨(w.heap.size + 1 + 1), 0, none⟩ ?e3 _ M46.out ?_); (case e1 => rfl); (case e2 => rfl); (case e3 => rfl)))
    refine C47.out.mono ?_
    rintro e w48 ⟨rfl, hb49⟩
    have T50 := Lib.hid (T39.out.below hb49 T39.out.lt)
    have T51 := Lib.hid (T40.out.below hb49 T40.out.lt)
    have T52 := Lib.hid (T41.out.below hb49 T41.out.lt)
    have F53 := Lib.hid (F42.out.below hb49 (Nat.le_refl _))
    have F54 := Lib.hid (F43.out.below hb49 (Nat.le_refl _))
    have F55 := Lib.hid (F44.out.below hb49 (Nat.le_refl _))
    have B56 := Lib.hid (B45.out.trans (hb49.mono B45.out.size))
    clear hb49
    go_wp2
    go_ret
    exact ⟨rfl, B56.out⟩
  · cases pb : fewB b.rs
    · have PA := Lib.hid pa
      have PB := Lib.hid pb
      clear pa pb h
      have B1 := Lib.hid (Below.refl w.heap.size w)
      have T2n := BoAt.new w (.slice a.A a.xs.length a.c)
      have T2 := Lib.hid T2n
      clear T2n
      have B3 := Lib.hid (B1.out.alloc B1.out.size (.cells #[(.slice a.A a.xs.length a.c)] 41))
      have T4 := Lib.hid (T2.out.old (.cells #[(.slice b.A b.xs.length b.c)] 41))
      have T5n := BoAt.new (w.alloc (.cells #[(.slice a.A a.xs.length a.c)] 41)) (.slice b.A b.xs.length b.c)
      simp only [World.size_alloc] at T5n
      have T5 := Lib.hid T5n
      clear T5n
      have B6 := Lib.hid (B3.out.alloc B3.out.size (.cells #[(.slice b.A b.xs.length b.c)] 41))
      have T7 := Lib.hid (T4.out.old (.cells #[(.slice c.A c.xs.length c.c)] 41))
      have T8 := Lib.hid (T5.out.old (.cells #[(.slice c.A c.xs.length c.c)] 41))
      have T9n := BoAt.new ((w.alloc (.cells #[(.slice a.A a.xs.length a.c)] 41)).alloc (.cells #[(.slice b.A b.xs.length b.c)] 41)) (.slice c.A c.xs.length c.c)
      simp only [World.size_alloc] at T9n
      have T9 := Lib.hid T9n
      clear T9n
      have B10 := Lib.hid (B6.out.alloc B6.out.size (.cells #[(.slice c.A c.xs.length c.c)] 41))
      have F11 := Lib.hid (Fa.out.below B10.out (Nat.le_refl _))
      have F12 := Lib.hid (Fb.out.below B10.out (Nat.le_refl _))
      have F13 := Lib.hid (Fc.out.below B10.out (Nat.le_refl _))
      go_enter Tryd.func5, Tryd.ntmps5
      have C14 := Lib.hid (bkAwake (((w.alloc (.cells #[(.slice a.A a.xs.length a.c)] 41)).alloc (.cells #[(.slice b.A b.xs.length b.c)] 41)).alloc (.cells #[(.slice c.A c.xs.length c.c)] 41)) (HLA.out _ B10.out))
      go_wp2_with fail
      refine C14.out.mono ?_
      rintro e w15 ⟨rfl, hb16⟩
      have T17 := Lib.hid (T7.out.below hb16 T7.out.lt)
      have T18 := Lib.hid (T8.out.below hb16 T8.out.lt)
      have T19 := Lib.hid (T9.out.below hb16 T9.out.lt)
      have F20 := Lib.hid (F11.out.below hb16 (Nat.le_refl _))
      have F21 := Lib.hid (F12.out.below hb16 (Nat.le_refl _))
      have F22 := Lib.hid (F13.out.below hb16 (Nat.le_refl _))
      have B23 := Lib.hid (B10.out.trans (hb16.mono B10.out.size))
      clear hb16
      have M24 := Lib.hid (T17.out.load)
      have C25 := Lib.hid (fewB_any a w15 F20.out)
      rw [PA.out] at C25
      go_wp2_with (first | ((with_reducible refine wpList_load_by (o := ⟨some 15, .load 41 (.tmp 3), _, _, _, _⟩) ?e1 41 (.tmp 3) ?e2 ⟨w.heap.size, 0, none⟩ ?e3 _ M24.out ?_); (case e1 => rfl); (case e2 => rfl); (case e3 => rfl)))
      refine C25.out.mono ?_
      rintro e w26 ⟨rfl, hb27⟩
      have T28 := Lib.hid (T17.out.below hb27 T17.out.lt)
      have T29 := Lib.hid (T18.out.below hb27 T18.out.lt)
      have T30 := Lib.hid (T19.out.below hb27 T19.out.lt)
      have F31 := Lib.hid (F20.out.below hb27 (Nat.le_refl _))
      have F32 := Lib.hid (F21.out.below hb27 (Nat.le_refl _))
      have F33 := Lib.hid (F22.out.below hb27 (Nat.le_refl _))
      have B34 := Lib.hid (B23.out.trans (hb27.mono B23.out.size))
      clear hb27
      have M35 := Lib.hid (T29.out.load)
      have C36 := Lib.hid (fewB_any b w26 F32.out)
      rw [PB.out] at C36
      go_wp2_with (first | ((with_reducible refine wpList_load_by (o := ⟨some 17, .load 41 (.tmp 4), _, _, _, _⟩) ?e1 41 (.tmp 4) ?e2 ⟨(w.heap.size + 1), 0, none⟩ ?e3 _ M35.out ?_); (case e1 => rfl); (case e2 => rfl); (case e3 => rfl)))
      refine C36.out.mono ?_
      rintro e w37 ⟨rfl, hb38⟩
      have T39 := Lib.hid (T28.out.below hb38 T28.out.lt)
      have T40 := Lib.hid (T29.out.below hb38 T29.out.lt)
      have T41 := Lib.hid (T30.out.below hb38 T30.out.lt)
      have F42 := Lib.hid (F31.out.below hb38 (Nat.le_refl _))
      have F43 := Lib.hid (F32.out.below hb38 (Nat.le_refl _))
      have F44 := Lib.hid (F33.out.below hb38 (Nat.le_refl _))
      have B45 := Lib.hid (B34.out.trans (hb38.mono B34.out.size))
      clear hb38
      have M46 := Lib.hid (T41.out.load)
      have C47 := Lib.hid (fewB_any c w37 F44.out)
      go_wp2_with (first | ((with_reducible refine wpList_load_by (o := ⟨some 19, .load 41 (.tmp 5), _, _, _, _⟩) ?e1 41 (.tmp 5) ?e2 ⟨(w.heap.size + 1 + 1), 0, none⟩ ?e3 _ M46.out ?_); (case e1 => rfl); (case e2 => rfl); (case e3 => rfl)))
      refine C47.out.mono ?_
      rintro e w48 ⟨rfl, hb49⟩
      have T50 := Lib.hid (T39.out.below hb49 T39.out.lt)
      have T51 := Lib.hid (T40.out.below hb49 T40.out.lt)
      have T52 := Lib.hid (T41.out.below hb49 T41.out.lt)
      have F53 := Lib.hid (F42.out.below hb49 (Nat.le_refl _))
      have F54 := Lib.hid (F43.out.below hb49 (Nat.le_refl _))
      have F55 := Lib.hid (F44.out.below hb49 (Nat.le_refl _))
      have B56 := Lib.hid (B45.out.trans (hb49.mono B45.out.size))
      clear hb49
      go_wp2
      go_ret
      exact ⟨rfl, B56.out⟩
    · rw [pa, pb] at h
      have PA := Lib.hid pa
      have PB := Lib.hid pb
      have PC := Lib.hid (show fewB c.rs = false by simpa using h)
      clear pa pb h
      have B1 := Lib.hid (Below.refl w.heap.size w)
      have T2n := BoAt.new w (.slice a.A a.xs.length a.c)
      have T2 := Lib.hid T2n
      clear T2n
      have B3 := Lib.hid (B1.out.alloc B1.out.size (.cells #[(.slice a.A a.xs.length a.c)] 41))
      have T4 := Lib.hid (T2.out.old (.cells #[(.slice b.A b.xs.length b.c)] 41))
      have T5n := BoAt.new (w.alloc (.cells #[(.slice a.A a.xs.length a.c)] 41)) (.slice b.A b.xs.length b.c)
      simp only [World.size_alloc] at T5n
      have T5 := Lib.hid T5n
      clear T5n
      have B6 := Lib.hid (B3.out.alloc B3.out.size (.cells #[(.slice b.A b.xs.length b.c)] 41))
      have T7 := Lib.hid (T4.out.old (.cells #[(.slice c.A c.xs.length c.c)] 41))
      have T8 := Lib.hid (T5.out.old (.cells #[(.slice c.A c.xs.length c.c)] 41))
      have T9n := BoAt.new ((w.alloc (.cells #[(.slice a.A a.xs.length a.c)] 41)).alloc (.cells #[(.slice b.A b.xs.length b.c)] 41)) (.slice c.A c.xs.length c.c)
      simp only [World.size_alloc] at T9n
      have T9 := Lib.hid T9n
      clear T9n
      have B10 := Lib.hid (B6.out.alloc B6.out.size (.cells #[(.slice c.A c.xs.length c.c)] 41))
      have F11 := Lib.hid (Fa.out.below B10.out (Nat.le_refl _))
      have F12 := Lib.hid (Fb.out.below B10.out (Nat.le_refl _))
      have F13 := Lib.hid (Fc.out.below B10.out (Nat.le_refl _))
      go_enter Tryd.func5, Tryd.ntmps5
      have C14 := Lib.hid (bkAwake (((w.alloc (.cells #[(.slice a.A a.xs.length a.c)] 41)).alloc (.cells #[(.slice b.A b.xs.length b.c)] 41)).alloc (.cells #[(.slice c.A c.xs.length c.c)] 41)) (HLA.out _ B10.out))
      go_wp2_with fail
      refine C14.out.mono ?_
      rintro e w15 ⟨rfl, hb16⟩
      have T17 := Lib.hid (T7.out.below hb16 T7.out.lt)
      have T18 := Lib.hid (T8.out.below hb16 T8.out.lt)
      have T19 := Lib.hid (T9.out.below hb16 T9.out.lt)
      have F20 := Lib.hid (F11.out.below hb16 (Nat.le_refl _))
      have F21 := Lib.hid (F12.out.below hb16 (Nat.le_refl _))
      have F22 := Lib.hid (F13.out.below hb16 (Nat.le_refl _))
      have B23 := Lib.hid (B10.out.trans (hb16.mono B10.out.size))
      clear hb16
      have M24 := Lib.hid (T17.out.load)
      have C25 := Lib.hid (fewB_any a w15 F20.out)
      rw [PA.out] at C25
      go_wp2_with (first | ((with_reducible refine wpList_load_by (o := ⟨some 15, .load 41 (.tmp 3), _, _, _, _⟩) ?e1 41 (.tmp 3) ?e2 ⟨w.heap.size, 0, none⟩ ?e3 _ M24.out ?_); (case e1 => rfl); (case e2 => rfl); (case e3 => rfl)))
      refine C25.out.mono ?_
      rintro e w26 ⟨rfl, hb27⟩
      have T28 := Lib.hid (T17.out.below hb27 T17.out.lt)
      have T29 := Lib.hid (T18.out.below hb27 T18.out.lt)
      have T30 := Lib.hid (T19.out.below hb27 T19.out.lt)
      have F31 := Lib.hid (F20.out.below hb27 (Nat.le_refl _))
      have F32 := Lib.hid (F21.out.below hb27 (Nat.le_refl _))
      have F33 := Lib.hid (F22.out.below hb27 (Nat.le_refl _))
      have B34 := Lib.hid (B23.out.trans (hb27.mono B23.out.size))
      clear hb27
      have M35 := Lib.hid (T29.out.load)
      have C36 := Lib.hid (fewB_any b w26 F32.out)
      rw [PB.out] at C36
      go_wp2_with (first | ((with_reducible refine wpList_load_by (o := ⟨some 17, .load 41 (.tmp 4), _, _, _, _⟩) ?e1 41 (.tmp 4) ?e2 ⟨(w.heap.size + 1), 0, none⟩ ?e3 _ M35.out ?_); (case e1 => rfl); (case e2 => rfl); (case e3 => rfl)))
      refine C36.out.mono ?_
      rintro e w37 ⟨rfl, hb38⟩
      have T39 := Lib.hid (T28.out.below hb38 T28.out.lt)
      have T40 := Lib.hid (T29.out.below hb38 T29.out.lt)
      have T41 := Lib.hid (T30.out.below hb38 T30.out.lt)
      have F42 := Lib.hid (F31.out.below hb38 (Nat.le_refl _))
      have F43 := Lib.hid (F32.out.below hb38 (Nat.le_refl _))
      have F44 := Lib.hid (F33.out.below hb38 (Nat.le_refl _))
      have B45 := Lib.hid (B34.out.trans (hb38.mono B34.out.size))
      clear hb38
      have M46 := Lib.hid (T41.out.load)
      have C47 := Lib.hid (fewB_any c w37 F44.out)
      rw [PC.out] at C47
      go_wp2_with (first | ((with_reducible refine wpList_load_by (o := ⟨some 19, .load 41 (.tmp 5), _, _, _, _⟩) ?e1 41 (.tmp 5) ?e2 ⟨(w.heap.size + 1 + 1), 0, none⟩ ?e3 _ M46.out ?_); (case e1 => rfl); (case e2 => rfl); (case e3 => rfl)))
      refine C47.out.mono ?_
      rintro e w48 ⟨rfl, hb49⟩
      have T50 := Lib.hid (T39.out.below hb49 T39.out.lt)
      have T51 := Lib.hid (T40.out.below hb49 T40.out.lt)
      have T52 := Lib.hid (T41.out.below hb49 T41.out.lt)
      have F53 := Lib.hid (F42.out.below hb49 (Nat.le_refl _))
      have F54 := Lib.hid (F43.out.below hb49 (Nat.le_refl _))
      have F55 := Lib.hid (F44.out.below hb49 (Nat.le_refl _))
      have B56 := Lib.hid (B45.out.trans (hb49.mono B45.out.size))
      clear hb49
      go_wp2
      go_ret
      exact ⟨rfl, B56.out⟩
set_option maxHeartbeats 16000000 in
theorem border_f (a b c : Bk) (w : World) (hlaid : Laid w) (wa : BkAt w a) (wb : BkAt w b) (wc : BkAt w c) (p : (fewB a.rs && fewB b.rs && fewB c.rs) = true) (hab : bleq a.rs b.rs = false) :
    Calls Tryd.prog 5 #[.agg #[.slice a.A a.xs.length a.c], .agg #[.slice b.A b.xs.length b.c], .agg #[.slice c.A c.xs.length c.c]] w fun e w' => e = .returned (.bool true) ∧ Below w.heap.size w w' := by
  have HLA := Lib.hid (fun (X : World) (hX : Below w.heap.size w X) => hlaid.below hX (Nat.le_refl _))
  have Fa := Lib.hid wa
  have Fb := Lib.hid wb
  have Fc := Lib.hid wc
  clear hlaid wa wb wc
  simp only [Bool.and_eq_true] at p
  have PA := Lib.hid p.1.1
  have PB := Lib.hid p.1.2
  have PC := Lib.hid p.2
  have AB := Lib.hid hab
  obtain ⟨m, hm⟩ : ∃ m, bmay a.rs = m := ⟨_, rfl⟩
  have AA := Lib.hid ((@bleq_refl a.rs).trans hm)
  have MA := Lib.hid hm
  have EQB := Lib.hid (show decide (m = m) = true from decide_eq_true rfl)
  clear p hm hab
  have B1 := Lib.hid (Below.refl w.heap.size w)
  have T2n := BoAt.new w (.slice a.A a.xs.length a.c)
  have T2 := Lib.hid T2n
  clear T2n
  have B3 := Lib.hid (B1.out.alloc B1.out.size (.cells #[(.slice a.A a.xs.length a.c)] 41))
  have T4 := Lib.hid (T2.out.old (.cells #[(.slice b.A b.xs.length b.c)] 41))
  have T5n := BoAt.new (w.alloc (.cells #[(.slice a.A a.xs.length a.c)] 41)) (.slice b.A b.xs.length b.c)
  simp only [World.size_alloc] at T5n
  have T5 := Lib.hid T5n
  clear T5n
  have B6 := Lib.hid (B3.out.alloc B3.out.size (.cells #[(.slice b.A b.xs.length b.c)] 41))
  have T7 := Lib.hid (T4.out.old (.cells #[(.slice c.A c.xs.length c.c)] 41))
  have T8 := Lib.hid (T5.out.old (.cells #[(.slice c.A c.xs.length c.c)] 41))
  have T9n := BoAt.new ((w.alloc (.cells #[(.slice a.A a.xs.length a.c)] 41)).alloc (.cells #[(.slice b.A b.xs.length b.c)] 41)) (.slice c.A c.xs.length c.c)
  simp only [World.size_alloc] at T9n
  have T9 := Lib.hid T9n
  clear T9n
  have B10 := Lib.hid (B6.out.alloc B6.out.size (.cells #[(.slice c.A c.xs.length c.c)] 41))
  have F11 := Lib.hid (Fa.out.below B10.out (Nat.le_refl _))
  have F12 := Lib.hid (Fb.out.below B10.out (Nat.le_refl _))
  have F13 := Lib.hid (Fc.out.below B10.out (Nat.le_refl _))
  go_enter Tryd.func5, Tryd.ntmps5
  have C14 := Lib.hid (bkAwake (((w.alloc (.cells #[(.slice a.A a.xs.length a.c)] 41)).alloc (.cells #[(.slice b.A b.xs.length b.c)] 41)).alloc (.cells #[(.slice c.A c.xs.length c.c)] 41)) (HLA.out _ B10.out))
  go_wp2_with fail
  refine C14.out.mono ?_
  rintro e w15 ⟨rfl, hb16⟩
  have T17 := Lib.hid (T7.out.below hb16 T7.out.lt)
  have T18 := Lib.hid (T8.out.below hb16 T8.out.lt)
  have T19 := Lib.hid (T9.out.below hb16 T9.out.lt)
  have F20 := Lib.hid (F11.out.below hb16 (Nat.le_refl _))
  have F21 := Lib.hid (F12.out.below hb16 (Nat.le_refl _))
  have F22 := Lib.hid (F13.out.below hb16 (Nat.le_refl _))
  have B23 := Lib.hid (B10.out.trans (hb16.mono B10.out.size))
  clear hb16
  have M24 := Lib.hid (T17.out.load)
  have C25 := Lib.hid (fewB_any a w15 F20.out)
  rw [PA.out] at C25
  go_wp2_with (first | ((with_reducible refine wpList_load_by (o := ⟨some 15, .load 41 (.tmp 3), _, _, _, _⟩) ?e1 41 (.tmp 3) ?e2 ⟨w.heap.size, 0, none⟩ ?e3 _ M24.out ?_); (case e1 => rfl); (case e2 => rfl); (case e3 => rfl)))
  refine C25.out.mono ?_
  rintro e w26 ⟨rfl, hb27⟩
  have T28 := Lib.hid (T17.out.below hb27 T17.out.lt)
  have T29 := Lib.hid (T18.out.below hb27 T18.out.lt)
  have T30 := Lib.hid (T19.out.below hb27 T19.out.lt)
  have F31 := Lib.hid (F20.out.below hb27 (Nat.le_refl _))
  have F32 := Lib.hid (F21.out.below hb27 (Nat.le_refl _))
  have F33 := Lib.hid (F22.out.below hb27 (Nat.le_refl _))
  have B34 := Lib.hid (B23.out.trans (hb27.mono B23.out.size))
  clear hb27
  have M35 := Lib.hid (T29.out.load)
  have C36 := Lib.hid (fewB_any b w26 F32.out)
  rw [PB.out] at C36
  go_wp2_with (first | ((with_reducible refine wpList_load_by (o := ⟨some 17, .load 41 (.tmp 4), _, _, _, _⟩) ?e1 41 (.tmp 4) ?e2 ⟨(w.heap.size + 1), 0, none⟩ ?e3 _ M35.out ?_); (case e1 => rfl); (case e2 => rfl); (case e3 => rfl)))
  refine C36.out.mono ?_
  rintro e w37 ⟨rfl, hb38⟩
  have T39 := Lib.hid (T28.out.below hb38 T28.out.lt)
  have T40 := Lib.hid (T29.out.below hb38 T29.out.lt)
  have T41 := Lib.hid (T30.out.below hb38 T30.out.lt)
  have F42 := Lib.hid (F31.out.below hb38 (Nat.le_refl _))
  have F43 := Lib.hid (F32.out.below hb38 (Nat.le_refl _))
  have F44 := Lib.hid (F33.out.below hb38 (Nat.le_refl _))
  have B45 := Lib.hid (B34.out.trans (hb38.mono B34.out.size))
  clear hb38
  have M46 := Lib.hid (T41.out.load)
  have C47 := Lib.hid (fewB_any c w37 F44.out)
  rw [PC.out] at C47
  go_wp2_with (first | ((with_reducible refine wpList_load_by (o := ⟨some 19, .load 41 (.tmp 5), _, _, _, _⟩) ?e1 41 (.tmp 5) ?e2 ⟨(w.heap.size + 1 + 1), 0, none⟩ ?e3 _ M46.out ?_); (case e1 => rfl); (case e2 => rfl); (case e3 => rfl)))
  refine C47.out.mono ?_
  rintro e w48 ⟨rfl, hb49⟩
  have T50 := Lib.hid (T39.out.below hb49 T39.out.lt)
  have T51 := Lib.hid (T40.out.below hb49 T40.out.lt)
  have T52 := Lib.hid (T41.out.below hb49 T41.out.lt)
  have F53 := Lib.hid (F42.out.below hb49 (Nat.le_refl _))
  have F54 := Lib.hid (F43.out.below hb49 (Nat.le_refl _))
  have F55 := Lib.hid (F44.out.below hb49 (Nat.le_refl _))
  have B56 := Lib.hid (B45.out.trans (hb49.mono B45.out.size))
  clear hb49
  have M57 := Lib.hid (T50.out.load)
  have M58 := Lib.hid (T51.out.load)
  have C59 := Lib.hid (bleq_any a b w48 (HLA.out _ B56.out) F53.out F54.out)
  rw [AB.out] at C59
  go_wp2_with (first | ((with_reducible refine wpList_load_by (o := ⟨some 36, .load 41 (.tmp 3), _, _, _, _⟩) ?e1 41 (.tmp 3) ?e2 ⟨w.heap.size, 0, none⟩ ?e3 _ M57.out ?_); (case e1 => rfl); (case e2 => rfl); (case e3 => rfl)) | ((with_reducible refine wpList_load_by (o := ⟨some 37, .load 41 (.tmp 4), _, _, _, _⟩) ?e1 41 (.tmp 4) ?e2 ⟨(w.heap.size + 1), 0, none⟩ ?e3 _ M58.out ?_); (case e1 => rfl); (case e2 => rfl); (case e3 => rfl)))
  refine C59.out.mono ?_
  rintro e w60 ⟨rfl, hb61⟩
  have T62 := Lib.hid (T50.out.below hb61 T50.out.lt)
  have T63 := Lib.hid (T51.out.below hb61 T51.out.lt)
  have T64 := Lib.hid (T52.out.below hb61 T52.out.lt)
  have F65 := Lib.hid (F53.out.below hb61 (Nat.le_refl _))
  have F66 := Lib.hid (F54.out.below hb61 (Nat.le_refl _))
  have F67 := Lib.hid (F55.out.below hb61 (Nat.le_refl _))
  have B68 := Lib.hid (B56.out.trans (hb61.mono B56.out.size))
  clear hb61
  have M69 := Lib.hid (T63.out.load)
  have M70 := Lib.hid (T62.out.load)
  have C71 := Lib.hid (bleq_any b a w60 (HLA.out _ B68.out) F66.out F65.out)
  go_wp2_with (first | ((with_reducible refine wpList_load_by (o := ⟨some 39, .load 41 (.tmp 4), _, _, _, _⟩) ?e1 41 (.tmp 4) ?e2 ⟨(w.heap.size + 1), 0, none⟩ ?e3 _ M69.out ?_); (case e1 => rfl); (case e2 => rfl); (case e3 => rfl)) | ((with_reducible refine wpList_load_by (o := ⟨some 40, .load 41 (.tmp 3), _, _, _, _⟩) ?e1 41 (.tmp 3) ?e2 ⟨w.heap.size, 0, none⟩ ?e3 _ M70.out ?_); (case e1 => rfl); (case e2 => rfl); (case e3 => rfl)))
  refine C71.out.mono ?_
  rintro e w72 ⟨rfl, hb73⟩
  have T74 := Lib.hid (T62.out.below hb73 T62.out.lt)
  have T75 := Lib.hid (T63.out.below hb73 T63.out.lt)
  have T76 := Lib.hid (T64.out.below hb73 T64.out.lt)
  have F77 := Lib.hid (F65.out.below hb73 (Nat.le_refl _))
  have F78 := Lib.hid (F66.out.below hb73 (Nat.le_refl _))
  have F79 := Lib.hid (F67.out.below hb73 (Nat.le_refl _))
  have B80 := Lib.hid (B68.out.trans (hb73.mono B68.out.size))
  clear hb73
  have M81 := Lib.hid (T75.out.load)
  have M82 := Lib.hid (T76.out.load)
  have C83 := Lib.hid (bleq_any b c w72 (HLA.out _ B80.out) F78.out F79.out)
  go_wp2_with (first | ((with_reducible refine wpList_load_by (o := ⟨some 42, .load 41 (.tmp 4), _, _, _, _⟩) ?e1 41 (.tmp 4) ?e2 ⟨(w.heap.size + 1), 0, none⟩ ?e3 _ M81.out ?_); (case e1 => rfl); (case e2 => rfl); (case e3 => rfl)) | ((with_reducible refine wpList_load_by (o := ⟨some 43, .load 41 (.tmp 5), _, _, _, _⟩) ?e1 41 (.tmp 5) ?e2 ⟨(w.heap.size + 1 + 1), 0, none⟩ ?e3 _ M82.out ?_); (case e1 => rfl); (case e2 => rfl); (case e3 => rfl)))
  refine C83.out.mono ?_
  rintro e w84 ⟨rfl, hb85⟩
  have T86 := Lib.hid (T74.out.below hb85 T74.out.lt)
  have T87 := Lib.hid (T75.out.below hb85 T75.out.lt)
  have T88 := Lib.hid (T76.out.below hb85 T76.out.lt)
  have F89 := Lib.hid (F77.out.below hb85 (Nat.le_refl _))
  have F90 := Lib.hid (F78.out.below hb85 (Nat.le_refl _))
  have F91 := Lib.hid (F79.out.below hb85 (Nat.le_refl _))
  have B92 := Lib.hid (B80.out.trans (hb85.mono B80.out.size))
  clear hb85
  have U93 := Lib.hid (fun (w9 : World) (hS : Below w84.heap.size w84 w9) => bleq_any a a w9 (HLA.out _ (B92.out.trans (hS.mono B92.out.size))) (F89.out.below hS (Nat.le_refl _)) (F89.out.below hS (Nat.le_refl _)))
  rw [AA.out] at U93
  have U94 := Lib.hid (fun (w9 : World) (hS : Below w84.heap.size w84 w9) => bmay_any a w9 (F89.out.below hS (Nat.le_refl _)))
  rw [MA.out] at U94
  go_wp2_with fail
  refine wp_region_G w84 (by kernel_rfl) ?_
  refine wpG_take (i := 0) (oi := ⟨some 45, _, _, _, _, _⟩) (v := (.agg #[(.slice a.A a.xs.length a.c)])) rfl (by kernel_rfl) (by kernel_rfl) (by kernel_rfl) (Or.inl ⟨by rfl, unib_val ?_⟩) ?_; (focus (intro w9 hSw; exact exec_load_by 41 _ rfl ⟨w.heap.size, 0, none⟩ rfl (T86.out.below hSw T86.out.lt).load)); simp only [Act.put, List.setIfInBounds_toArray, List.set_cons_zero, List.set_cons_succ]
  refine wpG_take (i := 1) (oi := ⟨some 46, _, _, _, _, _⟩) (v := (.agg #[(.slice a.A a.xs.length a.c)])) rfl (by kernel_rfl) (by kernel_rfl) (by kernel_rfl) (Or.inl ⟨by rfl, unib_val ?_⟩) ?_; (focus (intro w9 hSw; exact exec_load_by 41 _ rfl ⟨w.heap.size, 0, none⟩ rfl (T86.out.below hSw T86.out.lt).load)); simp only [Act.put, List.setIfInBounds_toArray, List.set_cons_zero, List.set_cons_succ]
  refine wpG_take (i := 2) (oi := ⟨some 47, _, _, _, _, _⟩) rfl (by kernel_rfl) (by kernel_rfl) (by kernel_rfl) (Or.inl ⟨by rfl, unib_call_if ?_ (fun w9 hS => U93.out w9 hS)⟩) ?_; (focus (intro w9 hSw; go_simp; try with_reducible rfl)); simp only [Act.put, List.setIfInBounds_toArray, List.set_cons_zero, List.set_cons_succ]
  refine wpG_take (i := 3) (oi := ⟨some 48, _, _, _, _, _⟩) (v := (.agg #[(.slice a.A a.xs.length a.c)])) rfl (by kernel_rfl) (by kernel_rfl) (by kernel_rfl) (Or.inl ⟨by rfl, unib_val ?_⟩) ?_; (focus (intro w9 hSw; exact exec_load_by 41 _ rfl ⟨w.heap.size, 0, none⟩ rfl (T86.out.below hSw T86.out.lt).load)); simp only [Act.put, List.setIfInBounds_toArray, List.set_cons_zero, List.set_cons_succ]
  refine wpG_take (i := 4) (oi := ⟨some 49, _, _, _, _, _⟩) rfl (by kernel_rfl) (by kernel_rfl) (by kernel_rfl) (Or.inl ⟨by rfl, unib_call_if ?_ (fun w9 hS => U94.out w9 hS)⟩) ?_; (focus (intro w9 hSw; go_simp; try with_reducible rfl)); simp only [Act.put, List.setIfInBounds_toArray, List.set_cons_zero, List.set_cons_succ]
  refine wpG_take (i := 5) (oi := ⟨some 50, _, _, _, _, _⟩) (v := ?_) rfl (by kernel_rfl) (by kernel_rfl) (by kernel_rfl) (Or.inl ⟨by rfl, unib_val ?_⟩) ?_; rotate_left; (focus (intro w9 hSw; have q0 := EQB.out; go_simp; try with_reducible rfl)); simp only [Act.put, List.setIfInBounds_toArray, List.set_cons_zero, List.set_cons_succ]
  refine wpG_take (i := 6) (oi := ⟨some 51, _, _, _, _, _⟩) (v := ?_) rfl (by kernel_rfl) (by kernel_rfl) (by kernel_rfl) (Or.inl ⟨by rfl, unib_val ?_⟩) ?_; rotate_left; (focus (intro w9 hSw; go_simp; try with_reducible rfl)); simp only [Act.put, List.setIfInBounds_toArray, List.set_cons_zero, List.set_cons_succ]
  refine wpG_take (i := 7) (oi := ⟨some 52, _, _, _, _, _⟩) (v := ?_) rfl (by kernel_rfl) (by kernel_rfl) (by kernel_rfl) (Or.inl ⟨by rfl, unib_val ?_⟩) ?_; rotate_left; (focus (intro w9 hSw; go_simp; try with_reducible rfl)); simp only [Act.put, List.setIfInBounds_toArray, List.set_cons_zero, List.set_cons_succ]
  refine wpG_take (i := 8) (oi := ⟨some 53, _, _, _, _, _⟩) (v := ?_) rfl (by kernel_rfl) (by kernel_rfl) (by kernel_rfl) (Or.inl ⟨by rfl, unib_val ?_⟩) ?_; rotate_left; (focus (intro w9 hSw; go_simp; try with_reducible rfl)); simp only [Act.put, List.setIfInBounds_toArray, List.set_cons_zero, List.set_cons_succ]
  refine wpG_take (i := 9) (oi := ⟨some 54, _, _, _, _, _⟩) (v := ?_) rfl (by kernel_rfl) (by kernel_rfl) (by kernel_rfl) (Or.inl ⟨by rfl, unib_val ?_⟩) ?_; rotate_left; (focus (intro w9 hSw; go_simp; try with_reducible rfl)); simp only [Act.put, List.setIfInBounds_toArray, List.set_cons_zero, List.set_cons_succ]
  refine wpG_take (i := 10) (oi := ⟨some 55, _, _, _, _, _⟩) rfl (by kernel_rfl) (by kernel_rfl) (by kernel_rfl) (Or.inr ⟨by rfl, rfl⟩) ?_; simp only [Act.put, List.setIfInBounds_toArray, List.set_cons_zero, List.set_cons_succ]
  refine wpG_take (i := 11) (oi := ⟨some 56, _, _, _, _, _⟩) rfl (by kernel_rfl) (by kernel_rfl) (by kernel_rfl) (Or.inr ⟨by rfl, rfl⟩) ?_; simp only [Act.put, List.setIfInBounds_toArray, List.set_cons_zero, List.set_cons_succ]
  refine wpG_take (i := 12) (oi := ⟨some 57, _, _, _, _, _⟩) (v := ?_) rfl (by kernel_rfl) (by kernel_rfl) (by kernel_rfl) (Or.inl ⟨by rfl, unib_val ?_⟩) ?_; rotate_left; (focus (intro w9 hSw; go_simp; try with_reducible rfl)); simp only [Act.put, List.setIfInBounds_toArray, List.set_cons_zero, List.set_cons_succ]
  refine wpG_take (i := 13) (oi := ⟨some 58, _, _, _, _, _⟩) (v := ?_) rfl (by kernel_rfl) (by kernel_rfl) (by kernel_rfl) (Or.inl ⟨by rfl, unib_val ?_⟩) ?_; rotate_left; (focus (intro w9 hSw; go_simp; try with_reducible rfl)); simp only [Act.put, List.setIfInBounds_toArray, List.set_cons_zero, List.set_cons_succ]
  refine wpG_take (i := 14) (oi := ⟨some 59, _, _, _, _, _⟩) rfl (by kernel_rfl) (by kernel_rfl) (by kernel_rfl) (Or.inr ⟨by rfl, rfl⟩) ?_; simp only [Act.put, List.setIfInBounds_toArray, List.set_cons_zero, List.set_cons_succ]
  refine wpG_take (i := 15) (oi := ⟨some 60, _, _, _, _, _⟩) rfl (by kernel_rfl) (by kernel_rfl) (by kernel_rfl) (Or.inr ⟨by rfl, rfl⟩) ?_; simp only [Act.put, List.setIfInBounds_toArray, List.set_cons_zero, List.set_cons_succ]
  refine wpG_take (i := 16) (oi := ⟨some 61, _, _, _, _, _⟩) rfl (by kernel_rfl) (by kernel_rfl) (by kernel_rfl) (Or.inr ⟨by rfl, rfl⟩) ?_; simp only [Act.put, List.setIfInBounds_toArray, List.set_cons_zero, List.set_cons_succ]
  refine wpG_take (i := 17) (oi := ⟨some 62, _, _, _, _, _⟩) (v := ?_) rfl (by kernel_rfl) (by kernel_rfl) (by kernel_rfl) (Or.inl ⟨by rfl, unib_val ?_⟩) ?_; rotate_left; (focus (intro w9 hSw; go_simp; try with_reducible rfl)); simp only [Act.put, List.setIfInBounds_toArray, List.set_cons_zero, List.set_cons_succ]
  refine wpG_take (i := 18) (oi := ⟨some 63, _, _, _, _, _⟩) (v := ?_) rfl (by kernel_rfl) (by kernel_rfl) (by kernel_rfl) (Or.inl ⟨by rfl, unib_val ?_⟩) ?_; rotate_left; (focus (intro w9 hSw; go_simp; try with_reducible rfl)); simp only [Act.put, List.setIfInBounds_toArray, List.set_cons_zero, List.set_cons_succ]
  refine wpG_take (i := 19) (oi := ⟨some 64, _, _, _, _, _⟩) (v := ?_) rfl (by kernel_rfl) (by kernel_rfl) (by kernel_rfl) (Or.inl ⟨by rfl, unib_val ?_⟩) ?_; rotate_left; (focus (intro w9 hSw; go_simp; try with_reducible rfl)); simp only [Act.put, List.setIfInBounds_toArray, List.set_cons_zero, List.set_cons_succ]
  refine wpG_take (i := 20) (oi := ⟨some 65, _, _, _, _, _⟩) (v := ?_) rfl (by kernel_rfl) (by kernel_rfl) (by kernel_rfl) (Or.inl ⟨by rfl, unib_val ?_⟩) ?_; rotate_left; (focus (intro w9 hSw; go_simp; try with_reducible rfl)); simp only [Act.put, List.setIfInBounds_toArray, List.set_cons_zero, List.set_cons_succ]
  refine wpG_take (i := 21) (oi := ⟨some 66, _, _, _, _, _⟩) (v := ?_) rfl (by kernel_rfl) (by kernel_rfl) (by kernel_rfl) (Or.inl ⟨by rfl, unib_val ?_⟩) ?_; rotate_left; (focus (intro w9 hSw; go_simp; try with_reducible rfl)); simp only [Act.put, List.setIfInBounds_toArray, List.set_cons_zero, List.set_cons_succ]
  refine wpG_take (i := 22) (oi := ⟨some 67, _, _, _, _, _⟩) (v := ?_) rfl (by kernel_rfl) (by kernel_rfl) (by kernel_rfl) (Or.inl ⟨by rfl, unib_val ?_⟩) ?_; rotate_left; (focus (intro w9 hSw; go_simp; try with_reducible rfl)); simp only [Act.put, List.setIfInBounds_toArray, List.set_cons_zero, List.set_cons_succ]
  refine wpG_take (i := 23) (oi := ⟨some 68, _, _, _, _, _⟩) rfl (by kernel_rfl) (by kernel_rfl) (by kernel_rfl) (Or.inr ⟨by rfl, rfl⟩) ?_; simp only [Act.put, List.setIfInBounds_toArray, List.set_cons_zero, List.set_cons_succ]
  refine wpG_take (i := 24) (oi := ⟨some 69, _, _, _, _, _⟩) rfl (by kernel_rfl) (by kernel_rfl) (by kernel_rfl) (Or.inr ⟨by rfl, rfl⟩) ?_; simp only [Act.put, List.setIfInBounds_toArray, List.set_cons_zero, List.set_cons_succ]
  refine wpG_take (i := 25) (oi := ⟨some 70, _, _, _, _, _⟩) (v := ?_) rfl (by kernel_rfl) (by kernel_rfl) (by kernel_rfl) (Or.inl ⟨by rfl, unib_val ?_⟩) ?_; rotate_left; (focus (intro w9 hSw; go_simp; try with_reducible rfl)); simp only [Act.put, List.setIfInBounds_toArray, List.set_cons_zero, List.set_cons_succ]
  refine wpG_take (i := 26) (oi := ⟨some 71, _, _, _, _, _⟩) (v := ?_) rfl (by kernel_rfl) (by kernel_rfl) (by kernel_rfl) (Or.inl ⟨by rfl, unib_val ?_⟩) ?_; rotate_left; (focus (intro w9 hSw; go_simp; try with_reducible rfl)); simp only [Act.put, List.setIfInBounds_toArray, List.set_cons_zero, List.set_cons_succ]
  refine wpG_take (i := 27) (oi := ⟨some 72, _, _, _, _, _⟩) rfl (by kernel_rfl) (by kernel_rfl) (by kernel_rfl) (Or.inr ⟨by rfl, rfl⟩) ?_; simp only [Act.put, List.setIfInBounds_toArray, List.set_cons_zero, List.set_cons_succ]
  refine wpG_take (i := 28) (oi := ⟨some 73, _, _, _, _, _⟩) rfl (by kernel_rfl) (by kernel_rfl) (by kernel_rfl) (Or.inr ⟨by rfl, rfl⟩) ?_; simp only [Act.put, List.setIfInBounds_toArray, List.set_cons_zero, List.set_cons_succ]
  refine wpG_take (i := 29) (oi := ⟨some 74, _, _, _, _, _⟩) rfl (by kernel_rfl) (by kernel_rfl) (by kernel_rfl) (Or.inr ⟨by rfl, rfl⟩) ?_; simp only [Act.put, List.setIfInBounds_toArray, List.set_cons_zero, List.set_cons_succ]
  refine wpG_take (i := 30) (oi := ⟨some 75, _, _, _, _, _⟩) (v := ?_) rfl (by kernel_rfl) (by kernel_rfl) (by kernel_rfl) (Or.inl ⟨by rfl, unib_val ?_⟩) ?_; rotate_left; (focus (intro w9 hSw; go_simp; try with_reducible rfl)); simp only [Act.put, List.setIfInBounds_toArray, List.set_cons_zero, List.set_cons_succ]
  refine wpG_take (i := 31) (oi := ⟨some 76, _, _, _, _, _⟩) (v := ?_) rfl (by kernel_rfl) (by kernel_rfl) (by kernel_rfl) (Or.inl ⟨by rfl, unib_val ?_⟩) ?_; rotate_left; (focus (intro w9 hSw; go_simp; try with_reducible rfl)); simp only [Act.put, List.setIfInBounds_toArray, List.set_cons_zero, List.set_cons_succ]
  refine wpG_take (i := 32) (oi := ⟨some 6, _, _, _, _, _⟩) (v := ?_) rfl (by kernel_rfl) (by kernel_rfl) (by kernel_rfl) (Or.inl ⟨by rfl, unib_val ?_⟩) ?_; rotate_left; (focus (intro w9 hSw; go_simp; try with_reducible rfl)); simp only [Act.put, List.setIfInBounds_toArray, List.set_cons_zero, List.set_cons_succ]
  refine wpG_done (by kernel_rfl) ?_ _
  intro w9 hSw _
  go_wp2
  go_ret
  exact ⟨rfl, B92.out.trans (hSw.mono B92.out.size)⟩
set_option maxHeartbeats 16000000 in
theorem border_tff (a b c : Bk) (w : World) (hlaid : Laid w) (wa : BkAt w a) (wb : BkAt w b) (wc : BkAt w c) (p : (fewB a.rs && fewB b.rs && fewB c.rs) = true) (hab : bleq a.rs b.rs = true) (hba : bleq b.rs a.rs = false) (hbc : bleq b.rs c.rs = false) :
    Calls Tryd.prog 5 #[.agg #[.slice a.A a.xs.length a.c], .agg #[.slice b.A b.xs.length b.c], .agg #[.slice c.A c.xs.length c.c]] w fun e w' => e = .returned (.bool true) ∧ Below w.heap.size w w' := by
  have HLA := Lib.hid (fun (X : World) (hX : Below w.heap.size w X) => hlaid.below hX (Nat.le_refl _))
  have Fa := Lib.hid wa
  have Fb := Lib.hid wb
  have Fc := Lib.hid wc
  clear hlaid wa wb wc
  simp only [Bool.and_eq_true] at p
  have PA := Lib.hid p.1.1
  have PB := Lib.hid p.1.2
  have PC := Lib.hid p.2
  have AB := Lib.hid hab
  have BA := Lib.hid hba
  have BC := Lib.hid hbc
  obtain ⟨m, hm⟩ : ∃ m, bmay a.rs = m := ⟨_, rfl⟩
  have AA := Lib.hid ((@bleq_refl a.rs).trans hm)
  have MA := Lib.hid hm
  have EQB := Lib.hid (show decide (m = m) = true from decide_eq_true rfl)
  clear p hm hab hba hbc
  have B1 := Lib.hid (Below.refl w.heap.size w)
  have T2n := BoAt.new w (.slice a.A a.xs.length a.c)
  have T2 := Lib.hid T2n
  clear T2n
  have B3 := Lib.hid (B1.out.alloc B1.out.size (.cells #[(.slice a.A a.xs.length a.c)] 41))
  have T4 := Lib.hid (T2.out.old (.cells #[(.slice b.A b.xs.length b.c)] 41))
  have T5n := BoAt.new (w.alloc (.cells #[(.slice a.A a.xs.length a.c)] 41)) (.slice b.A b.xs.length b.c)
  simp only [World.size_alloc] at T5n
  have T5 := Lib.hid T5n
  clear T5n
  have B6 := Lib.hid (B3.out.alloc B3.out.size (.cells #[(.slice b.A b.xs.length b.c)] 41))
  have T7 := Lib.hid (T4.out.old (.cells #[(.slice c.A c.xs.length c.c)] 41))
  have T8 := Lib.hid (T5.out.old (.cells #[(.slice c.A c.xs.length c.c)] 41))
  have T9n := BoAt.new ((w.alloc (.cells #[(.slice a.A a.xs.length a.c)] 41)).alloc (.cells #[(.slice b.A b.xs.length b.c)] 41)) (.slice c.A c.xs.length c.c)
  simp only [World.size_alloc] at T9n
  have T9 := Lib.hid T9n
  clear T9n
  have B10 := Lib.hid (B6.out.alloc B6.out.size (.cells #[(.slice c.A c.xs.length c.c)] 41))
  have F11 := Lib.hid (Fa.out.below B10.out (Nat.le_refl _))
  have F12 := Lib.hid (Fb.out.below B10.out (Nat.le_refl _))
  have F13 := Lib.hid (Fc.out.below B10.out (Nat.le_refl _))
  go_enter Tryd.func5, Tryd.ntmps5
  have C14 := Lib.hid (bkAwake (((w.alloc (.cells #[(.slice a.A a.xs.length a.c)] 41)).alloc (.cells #[(.slice b.A b.xs.length b.c)] 41)).alloc (.cells #[(.slice c.A c.xs.length c.c)] 41)) (HLA.out _ B10.out))
  go_wp2_with fail
  refine C14.out.mono ?_
  rintro e w15 ⟨rfl, hb16⟩
  have T17 := Lib.hid (T7.out.below hb16 T7.out.lt)
  have T18 := Lib.hid (T8.out.below hb16 T8.out.lt)
  have T19 := Lib.hid (T9.out.below hb16 T9.out.lt)
  have F20 := Lib.hid (F11.out.below hb16 (Nat.le_refl _))
  have F21 := Lib.hid (F12.out.below hb16 (Nat.le_refl _))
  have F22 := Lib.hid (F13.out.below hb16 (Nat.le_refl _))
  have B23 := Lib.hid (B10.out.trans (hb16.mono B10.out.size))
  clear hb16
  have M24 := Lib.hid (T17.out.load)
  have C25 := Lib.hid (fewB_any a w15 F20.out)
  rw [PA.out] at C25
  go_wp2_with (first | ((with_reducible refine wpList_load_by (o := ⟨some 15, .load 41 (.tmp 3), _, _, _, _⟩) ?e1 41 (.tmp 3) ?e2 ⟨w.heap.size, 0, none⟩ ?e3 _ M24.out ?_); (case e1 => rfl); (case e2 => rfl); (case e3 => rfl)))
  refine C25.out.mono ?_
  rintro e w26 ⟨rfl, hb27⟩
  have T28 := Lib.hid (T17.out.below hb27 T17.out.lt)
  have T29 := Lib.hid (T18.out.below hb27 T18.out.lt)
  have T30 := Lib.hid (T19.out.below hb27 T19.out.lt)
  have F31 := Lib.hid (F20.out.below hb27 (Nat.le_refl _))
  have F32 := Lib.hid (F21.out.below hb27 (Nat.le_refl _))
  have F33 := Lib.hid (F22.out.below hb27 (Nat.le_refl _))
  have B34 := Lib.hid (B23.out.trans (hb27.mono B23.out.size))
  clear hb27
  have M35 := Lib.hid (T29.out.load)
  have C36 := Lib.hid (fewB_any b w26 F32.out)
  rw [PB.out] at C36
  go_wp2_with (first | ((with_reducible refine wpList_load_by (o := ⟨some 17, .load 41 (.tmp 4), _, _, _, _⟩) ?e1 41 (.tmp 4) ?e2 ⟨(w.heap.size + 1), 0, none⟩ ?e3 _ M35.out ?_); (case e1 => rfl); (case e2 => rfl); (case e3 => rfl)))
  refine C36.out.mono ?_
  rintro e w37 ⟨rfl, hb38⟩
  have T39 := Lib.hid (T28.out.below hb38 T28.out.lt)
  have T40 := Lib.hid (T29.out.below hb38 T29.out.lt)
  have T41 := Lib.hid (T30.out.below hb38 T30.out.lt)
  have F42 := Lib.hid (F31.out.below hb38 (Nat.le_refl _))
  have F43 := Lib.hid (F32.out.below hb38 (Nat.le_refl _))
  have F44 := Lib.hid (F33.out.below hb38 (Nat.le_refl _))
  have B45 := Lib.hid (B34.out.trans (hb38.mono B34.out.size))
  clear hb38
  have M46 := Lib.hid (T41.out.load)
  have C47 := Lib.hid (fewB_any c w37 F44.out)
  rw [PC.out] at C47
  go_wp2_with (first | ((with_reducible refine wpList_load_by (o := ⟨some 19, .load 41 (.tmp 5), _, _, _, _⟩) ?e1 41 (.tmp 5) ?e2 ⟨(w.heap.size + 1 + 1), 0, none⟩ ?e3 _ M46.out ?_); (case e1 => rfl); (case e2 => rfl); (case e3 => rfl)))
  refine C47.out.mono ?_
  rintro e w48 ⟨rfl, hb49⟩
  have T50 := Lib.hid (T39.out.below hb49 T39.out.lt)
  have T51 := Lib.hid (T40.out.below hb49 T40.out.lt)
  have T52 := Lib.hid (T41.out.below hb49 T41.out.lt)
  have F53 := Lib.hid (F42.out.below hb49 (Nat.le_refl _))
  have F54 := Lib.hid (F43.out.below hb49 (Nat.le_refl _))
  have F55 := Lib.hid (F44.out.below hb49 (Nat.le_refl _))
  have B56 := Lib.hid (B45.out.trans (hb49.mono B45.out.size))
  clear hb49
  have M57 := Lib.hid (T50.out.load)
  have M58 := Lib.hid (T51.out.load)
  have C59 := Lib.hid (bleq_any a b w48 (HLA.out _ B56.out) F53.out F54.out)
  rw [AB.out] at C59
  go_wp2_with (first | ((with_reducible refine wpList_load_by (o := ⟨some 36, .load 41 (.tmp 3), _, _, _, _⟩) ?e1 41 (.tmp 3) ?e2 ⟨w.heap.size, 0, none⟩ ?e3 _ M57.out ?_); (case e1 => rfl); (case e2 => rfl); (case e3 => rfl)) | ((with_reducible refine wpList_load_by (o := ⟨some 37, .load 41 (.tmp 4), _, _, _, _⟩) ?e1 41 (.tmp 4) ?e2 ⟨(w.heap.size + 1), 0, none⟩ ?e3 _ M58.out ?_); (case e1 => rfl); (case e2 => rfl); (case e3 => rfl)))
  refine C59.out.mono ?_
  rintro e w60 ⟨rfl, hb61⟩
  have T62 := Lib.hid (T50.out.below hb61 T50.out.lt)
  have T63 := Lib.hid (T51.out.below hb61 T51.out.lt)
  have T64 := Lib.hid (T52.out.below hb61 T52.out.lt)
  have F65 := Lib.hid (F53.out.below hb61 (Nat.le_refl _))
  have F66 := Lib.hid (F54.out.below hb61 (Nat.le_refl _))
  have F67 := Lib.hid (F55.out.below hb61 (Nat.le_refl _))
  have B68 := Lib.hid (B56.out.trans (hb61.mono B56.out.size))
  clear hb61
  have M69 := Lib.hid (T63.out.load)
  have M70 := Lib.hid (T62.out.load)
  have C71 := Lib.hid (bleq_any b a w60 (HLA.out _ B68.out) F66.out F65.out)
  rw [BA.out] at C71
  go_wp2_with (first | ((with_reducible refine wpList_load_by (o := ⟨some 39, .load 41 (.tmp 4), _, _, _, _⟩) ?e1 41 (.tmp 4) ?e2 ⟨(w.heap.size + 1), 0, none⟩ ?e3 _ M69.out ?_); (case e1 => rfl); (case e2 => rfl); (case e3 => rfl)) | ((with_reducible refine wpList_load_by (o := ⟨some 40, .load 41 (.tmp 3), _, _, _, _⟩) ?e1 41 (.tmp 3) ?e2 ⟨w.heap.size, 0, none⟩ ?e3 _ M70.out ?_); (case e1 => rfl); (case e2 => rfl); (case e3 => rfl)))
  refine C71.out.mono ?_
  rintro e w72 ⟨rfl, hb73⟩
  have T74 := Lib.hid (T62.out.below hb73 T62.out.lt)
  have T75 := Lib.hid (T63.out.below hb73 T63.out.lt)
  have T76 := Lib.hid (T64.out.below hb73 T64.out.lt)
  have F77 := Lib.hid (F65.out.below hb73 (Nat.le_refl _))
  have F78 := Lib.hid (F66.out.below hb73 (Nat.le_refl _))
  have F79 := Lib.hid (F67.out.below hb73 (Nat.le_refl _))
  have B80 := Lib.hid (B68.out.trans (hb73.mono B68.out.size))
  clear hb73
  have M81 := Lib.hid (T75.out.load)
  have M82 := Lib.hid (T76.out.load)
  have C83 := Lib.hid (bleq_any b c w72 (HLA.out _ B80.out) F78.out F79.out)
  rw [BC.out] at C83
  go_wp2_with (first | ((with_reducible refine wpList_load_by (o := ⟨some 42, .load 41 (.tmp 4), _, _, _, _⟩) ?e1 41 (.tmp 4) ?e2 ⟨(w.heap.size + 1), 0, none⟩ ?e3 _ M81.out ?_); (case e1 => rfl); (case e2 => rfl); (case e3 => rfl)) | ((with_reducible refine wpList_load_by (o := ⟨some 43, .load 41 (.tmp 5), _, _, _, _⟩) ?e1 41 (.tmp 5) ?e2 ⟨(w.heap.size + 1 + 1), 0, none⟩ ?e3 _ M82.out ?_); (case e1 => rfl); (case e2 => rfl); (case e3 => rfl)))
  refine C83.out.mono ?_
  rintro e w84 ⟨rfl, hb85⟩
  have T86 := Lib.hid (T74.out.below hb85 T74.out.lt)
  have T87 := Lib.hid (T75.out.below hb85 T75.out.lt)
  have T88 := Lib.hid (T76.out.below hb85 T76.out.lt)
  have F89 := Lib.hid (F77.out.below hb85 (Nat.le_refl _))
  have F90 := Lib.hid (F78.out.below hb85 (Nat.le_refl _))
  have F91 := Lib.hid (F79.out.below hb85 (Nat.le_refl _))
  have B92 := Lib.hid (B80.out.trans (hb85.mono B80.out.size))
  clear hb85
  have U93 := Lib.hid (fun (w9 : World) (hS : Below w84.heap.size w84 w9) => bleq_any a a w9 (HLA.out _ (B92.out.trans (hS.mono B92.out.size))) (F89.out.below hS (Nat.le_refl _)) (F89.out.below hS (Nat.le_refl _)))
  rw [AA.out] at U93
  have U94 := Lib.hid (fun (w9 : World) (hS : Below w84.heap.size w84 w9) => bmay_any a w9 (F89.out.below hS (Nat.le_refl _)))
  rw [MA.out] at U94
  go_wp2_with fail
  refine wp_region_G w84 (by kernel_rfl) ?_
  refine wpG_take (i := 0) (oi := ⟨some 45, _, _, _, _, _⟩) (v := (.agg #[(.slice a.A a.xs.length a.c)])) rfl (by kernel_rfl) (by kernel_rfl) (by kernel_rfl) (Or.inl ⟨by rfl, unib_val ?_⟩) ?_; (focus (intro w9 hSw; exact exec_load_by 41 _ rfl ⟨w.heap.size, 0, none⟩ rfl (T86.out.below hSw T86.out.lt).load)); simp only [Act.put, List.setIfInBounds_toArray, List.set_cons_zero, List.set_cons_succ]
  refine wpG_take (i := 1) (oi := ⟨some 46, _, _, _, _, _⟩) (v := (.agg #[(.slice a.A a.xs.length a.c)])) rfl (by kernel_rfl) (by kernel_rfl) (by kernel_rfl) (Or.inl ⟨by rfl, unib_val ?_⟩) ?_; (focus (intro w9 hSw; exact exec_load_by 41 _ rfl ⟨w.heap.size, 0, none⟩ rfl (T86.out.below hSw T86.out.lt).load)); simp only [Act.put, List.setIfInBounds_toArray, List.set_cons_zero, List.set_cons_succ]
  refine wpG_take (i := 2) (oi := ⟨some 47, _, _, _, _, _⟩) rfl (by kernel_rfl) (by kernel_rfl) (by kernel_rfl) (Or.inl ⟨by rfl, unib_call_if ?_ (fun w9 hS => U93.out w9 hS)⟩) ?_; (focus (intro w9 hSw; go_simp; try with_reducible rfl)); simp only [Act.put, List.setIfInBounds_toArray, List.set_cons_zero, List.set_cons_succ]
  refine wpG_take (i := 3) (oi := ⟨some 48, _, _, _, _, _⟩) (v := (.agg #[(.slice a.A a.xs.length a.c)])) rfl (by kernel_rfl) (by kernel_rfl) (by kernel_rfl) (Or.inl ⟨by rfl, unib_val ?_⟩) ?_; (focus (intro w9 hSw; exact exec_load_by 41 _ rfl ⟨w.heap.size, 0, none⟩ rfl (T86.out.below hSw T86.out.lt).load)); simp only [Act.put, List.setIfInBounds_toArray, List.set_cons_zero, List.set_cons_succ]
  refine wpG_take (i := 4) (oi := ⟨some 49, _, _, _, _, _⟩) rfl (by kernel_rfl) (by kernel_rfl) (by kernel_rfl) (Or.inl ⟨by rfl, unib_call_if ?_ (fun w9 hS => U94.out w9 hS)⟩) ?_; (focus (intro w9 hSw; go_simp; try with_reducible rfl)); simp only [Act.put, List.setIfInBounds_toArray, List.set_cons_zero, List.set_cons_succ]
  refine wpG_take (i := 5) (oi := ⟨some 50, _, _, _, _, _⟩) (v := ?_) rfl (by kernel_rfl) (by kernel_rfl) (by kernel_rfl) (Or.inl ⟨by rfl, unib_val ?_⟩) ?_; rotate_left; (focus (intro w9 hSw; have q0 := EQB.out; go_simp; try with_reducible rfl)); simp only [Act.put, List.setIfInBounds_toArray, List.set_cons_zero, List.set_cons_succ]
  refine wpG_take (i := 6) (oi := ⟨some 51, _, _, _, _, _⟩) (v := ?_) rfl (by kernel_rfl) (by kernel_rfl) (by kernel_rfl) (Or.inl ⟨by rfl, unib_val ?_⟩) ?_; rotate_left; (focus (intro w9 hSw; go_simp; try with_reducible rfl)); simp only [Act.put, List.setIfInBounds_toArray, List.set_cons_zero, List.set_cons_succ]
  refine wpG_take (i := 7) (oi := ⟨some 52, _, _, _, _, _⟩) (v := ?_) rfl (by kernel_rfl) (by kernel_rfl) (by kernel_rfl) (Or.inl ⟨by rfl, unib_val ?_⟩) ?_; rotate_left; (focus (intro w9 hSw; go_simp; try with_reducible rfl)); simp only [Act.put, List.setIfInBounds_toArray, List.set_cons_zero, List.set_cons_succ]
  refine wpG_take (i := 8) (oi := ⟨some 53, _, _, _, _, _⟩) (v := ?_) rfl (by kernel_rfl) (by kernel_rfl) (by kernel_rfl) (Or.inl ⟨by rfl, unib_val ?_⟩) ?_; rotate_left; (focus (intro w9 hSw; go_simp; try with_reducible rfl)); simp only [Act.put, List.setIfInBounds_toArray, List.set_cons_zero, List.set_cons_succ]
  refine wpG_take (i := 9) (oi := ⟨some 54, _, _, _, _, _⟩) (v := ?_) rfl (by kernel_rfl) (by kernel_rfl) (by kernel_rfl) (Or.inl ⟨by rfl, unib_val ?_⟩) ?_; rotate_left; (focus (intro w9 hSw; go_simp; try with_reducible rfl)); simp only [Act.put, List.setIfInBounds_toArray, List.set_cons_zero, List.set_cons_succ]
  refine wpG_take (i := 10) (oi := ⟨some 55, _, _, _, _, _⟩) (v := ?_) rfl (by kernel_rfl) (by kernel_rfl) (by kernel_rfl) (Or.inl ⟨by rfl, unib_val ?_⟩) ?_; rotate_left; (focus (intro w9 hSw; go_simp; try with_reducible rfl)); simp only [Act.put, List.setIfInBounds_toArray, List.set_cons_zero, List.set_cons_succ]
  refine wpG_take (i := 11) (oi := ⟨some 56, _, _, _, _, _⟩) (v := ?_) rfl (by kernel_rfl) (by kernel_rfl) (by kernel_rfl) (Or.inl ⟨by rfl, unib_val ?_⟩) ?_; rotate_left; (focus (intro w9 hSw; go_simp; try with_reducible rfl)); simp only [Act.put, List.setIfInBounds_toArray, List.set_cons_zero, List.set_cons_succ]
  refine wpG_take (i := 12) (oi := ⟨some 57, _, _, _, _, _⟩) (v := ?_) rfl (by kernel_rfl) (by kernel_rfl) (by kernel_rfl) (Or.inl ⟨by rfl, unib_val ?_⟩) ?_; rotate_left; (focus (intro w9 hSw; go_simp; try with_reducible rfl)); simp only [Act.put, List.setIfInBounds_toArray, List.set_cons_zero, List.set_cons_succ]
  refine wpG_take (i := 13) (oi := ⟨some 58, _, _, _, _, _⟩) (v := ?_) rfl (by kernel_rfl) (by kernel_rfl) (by kernel_rfl) (Or.inl ⟨by rfl, unib_val ?_⟩) ?_; rotate_left; (focus (intro w9 hSw; go_simp; try with_reducible rfl)); simp only [Act.put, List.setIfInBounds_toArray, List.set_cons_zero, List.set_cons_succ]
  refine wpG_take (i := 14) (oi := ⟨some 59, _, _, _, _, _⟩) rfl (by kernel_rfl) (by kernel_rfl) (by kernel_rfl) (Or.inr ⟨by rfl, rfl⟩) ?_; simp only [Act.put, List.setIfInBounds_toArray, List.set_cons_zero, List.set_cons_succ]
  refine wpG_take (i := 15) (oi := ⟨some 60, _, _, _, _, _⟩) rfl (by kernel_rfl) (by kernel_rfl) (by kernel_rfl) (Or.inr ⟨by rfl, rfl⟩) ?_; simp only [Act.put, List.setIfInBounds_toArray, List.set_cons_zero, List.set_cons_succ]
  refine wpG_take (i := 16) (oi := ⟨some 61, _, _, _, _, _⟩) rfl (by kernel_rfl) (by kernel_rfl) (by kernel_rfl) (Or.inr ⟨by rfl, rfl⟩) ?_; simp only [Act.put, List.setIfInBounds_toArray, List.set_cons_zero, List.set_cons_succ]
  refine wpG_take (i := 17) (oi := ⟨some 62, _, _, _, _, _⟩) (v := ?_) rfl (by kernel_rfl) (by kernel_rfl) (by kernel_rfl) (Or.inl ⟨by rfl, unib_val ?_⟩) ?_; rotate_left; (focus (intro w9 hSw; go_simp; try with_reducible rfl)); simp only [Act.put, List.setIfInBounds_toArray, List.set_cons_zero, List.set_cons_succ]
  refine wpG_take (i := 18) (oi := ⟨some 63, _, _, _, _, _⟩) (v := ?_) rfl (by kernel_rfl) (by kernel_rfl) (by kernel_rfl) (Or.inl ⟨by rfl, unib_val ?_⟩) ?_; rotate_left; (focus (intro w9 hSw; go_simp; try with_reducible rfl)); simp only [Act.put, List.setIfInBounds_toArray, List.set_cons_zero, List.set_cons_succ]
  refine wpG_take (i := 19) (oi := ⟨some 64, _, _, _, _, _⟩) (v := ?_) rfl (by kernel_rfl) (by kernel_rfl) (by kernel_rfl) (Or.inl ⟨by rfl, unib_val ?_⟩) ?_; rotate_left; (focus (intro w9 hSw; go_simp; try with_reducible rfl)); simp only [Act.put, List.setIfInBounds_toArray, List.set_cons_zero, List.set_cons_succ]
  refine wpG_take (i := 20) (oi := ⟨some 65, _, _, _, _, _⟩) (v := ?_) rfl (by kernel_rfl) (by kernel_rfl) (by kernel_rfl) (Or.inl ⟨by rfl, unib_val ?_⟩) ?_; rotate_left; (focus (intro w9 hSw; go_simp; try with_reducible rfl)); simp only [Act.put, List.setIfInBounds_toArray, List.set_cons_zero, List.set_cons_succ]
  refine wpG_take (i := 21) (oi := ⟨some 66, _, _, _, _, _⟩) (v := ?_) rfl (by kernel_rfl) (by kernel_rfl) (by kernel_rfl) (Or.inl ⟨by rfl, unib_val ?_⟩) ?_; rotate_left; (focus (intro w9 hSw; go_simp; try with_reducible rfl)); simp only [Act.put, List.setIfInBounds_toArray, List.set_cons_zero, List.set_cons_succ]
  refine wpG_take (i := 22) (oi := ⟨some 67, _, _, _, _, _⟩) (v := ?_) rfl (by kernel_rfl) (by kernel_rfl) (by kernel_rfl) (Or.inl ⟨by rfl, unib_val ?_⟩) ?_; rotate_left; (focus (intro w9 hSw; go_simp; try with_reducible rfl)); simp only [Act.put, List.setIfInBounds_toArray, List.set_cons_zero, List.set_cons_succ]
  refine wpG_take (i := 23) (oi := ⟨some 68, _, _, _, _, _⟩) (v := ?_) rfl (by kernel_rfl) (by kernel_rfl) (by kernel_rfl) (Or.inl ⟨by rfl, unib_val ?_⟩) ?_; rotate_left; (focus (intro w9 hSw; go_simp; try with_reducible rfl)); simp only [Act.put, List.setIfInBounds_toArray, List.set_cons_zero, List.set_cons_succ]
  refine wpG_take (i := 24) (oi := ⟨some 69, _, _, _, _, _⟩) (v := ?_) rfl (by kernel_rfl) (by kernel_rfl) (by kernel_rfl) (Or.inl ⟨by rfl, unib_val ?_⟩) ?_; rotate_left; (focus (intro w9 hSw; go_simp; try with_reducible rfl)); simp only [Act.put, List.setIfInBounds_toArray, List.set_cons_zero, List.set_cons_succ]
  refine wpG_take (i := 25) (oi := ⟨some 70, _, _, _, _, _⟩) (v := ?_) rfl (by kernel_rfl) (by kernel_rfl) (by kernel_rfl) (Or.inl ⟨by rfl, unib_val ?_⟩) ?_; rotate_left; (focus (intro w9 hSw; go_simp; try with_reducible rfl)); simp only [Act.put, List.setIfInBounds_toArray, List.set_cons_zero, List.set_cons_succ]
  refine wpG_take (i := 26) (oi := ⟨some 71, _, _, _, _, _⟩) (v := ?_) rfl (by kernel_rfl) (by kernel_rfl) (by kernel_rfl) (Or.inl ⟨by rfl, unib_val ?_⟩) ?_; rotate_left; (focus (intro w9 hSw; go_simp; try with_reducible rfl)); simp only [Act.put, List.setIfInBounds_toArray, List.set_cons_zero, List.set_cons_succ]
  refine wpG_take (i := 27) (oi := ⟨some 72, _, _, _, _, _⟩) rfl (by kernel_rfl) (by kernel_rfl) (by kernel_rfl) (Or.inr ⟨by rfl, rfl⟩) ?_; simp only [Act.put, List.setIfInBounds_toArray, List.set_cons_zero, List.set_cons_succ]
  refine wpG_take (i := 28) (oi := ⟨some 73, _, _, _, _, _⟩) rfl (by kernel_rfl) (by kernel_rfl) (by kernel_rfl) (Or.inr ⟨by rfl, rfl⟩) ?_; simp only [Act.put, List.setIfInBounds_toArray, List.set_cons_zero, List.set_cons_succ]
  refine wpG_take (i := 29) (oi := ⟨some 74, _, _, _, _, _⟩) rfl (by kernel_rfl) (by kernel_rfl) (by kernel_rfl) (Or.inr ⟨by rfl, rfl⟩) ?_; simp only [Act.put, List.setIfInBounds_toArray, List.set_cons_zero, List.set_cons_succ]
  refine wpG_take (i := 30) (oi := ⟨some 75, _, _, _, _, _⟩) (v := ?_) rfl (by kernel_rfl) (by kernel_rfl) (by kernel_rfl) (Or.inl ⟨by rfl, unib_val ?_⟩) ?_; rotate_left; (focus (intro w9 hSw; go_simp; try with_reducible rfl)); simp only [Act.put, List.setIfInBounds_toArray, List.set_cons_zero, List.set_cons_succ]
  refine wpG_take (i := 31) (oi := ⟨some 76, _, _, _, _, _⟩) (v := ?_) rfl (by kernel_rfl) (by kernel_rfl) (by kernel_rfl) (Or.inl ⟨by rfl, unib_val ?_⟩) ?_; rotate_left; (focus (intro w9 hSw; go_simp; try with_reducible rfl)); simp only [Act.put, List.setIfInBounds_toArray, List.set_cons_zero, List.set_cons_succ]
  refine wpG_take (i := 32) (oi := ⟨some 6, _, _, _, _, _⟩) (v := ?_) rfl (by kernel_rfl) (by kernel_rfl) (by kernel_rfl) (Or.inl ⟨by rfl, unib_val ?_⟩) ?_; rotate_left; (focus (intro w9 hSw; go_simp; try with_reducible rfl)); simp only [Act.put, List.setIfInBounds_toArray, List.set_cons_zero, List.set_cons_succ]
  refine wpG_done (by kernel_rfl) ?_ _
  intro w9 hSw _
  go_wp2
  go_ret
  exact ⟨rfl, B92.out.trans (hSw.mono B92.out.size)⟩
set_option maxHeartbeats 16000000 in
theorem border_tft (a b c : Bk) (w : World) (hlaid : Laid w) (wa : BkAt w a) (wb : BkAt w b) (wc : BkAt w c) (p : (fewB a.rs && fewB b.rs && fewB c.rs) = true) (hab : bleq a.rs b.rs = true) (hba : bleq b.rs a.rs = false) (hbc : bleq b.rs c.rs = true) :
    Calls Tryd.prog 5 #[.agg #[.slice a.A a.xs.length a.c], .agg #[.slice b.A b.xs.length b.c], .agg #[.slice c.A c.xs.length c.c]] w fun e w' => e = .returned (.bool true) ∧ Below w.heap.size w w' := by
  have HLA := Lib.hid (fun (X : World) (hX : Below w.heap.size w X) => hlaid.below hX (Nat.le_refl _))
  have Fa := Lib.hid wa
  have Fb := Lib.hid wb
  have Fc := Lib.hid wc
  clear hlaid wa wb wc
  simp only [Bool.and_eq_true] at p
  have PA := Lib.hid p.1.1
  have PB := Lib.hid p.1.2
  have PC := Lib.hid p.2
  have AB := Lib.hid hab
  have BA := Lib.hid hba
  have BC := Lib.hid hbc
  obtain ⟨m, hm⟩ : ∃ m, bmay a.rs = m := ⟨_, rfl⟩
  have AA := Lib.hid ((@bleq_refl a.rs).trans hm)
  have MA := Lib.hid hm
  have EQB := Lib.hid (show decide (m = m) = true from decide_eq_true rfl)
  have AC := Lib.hid (bleq_trans hab hbc)
  clear p hm hab hba hbc
  have B1 := Lib.hid (Below.refl w.heap.size w)
  have T2n := BoAt.new w (.slice a.A a.xs.length a.c)
  have T2 := Lib.hid T2n
  clear T2n
  have B3 := Lib.hid (B1.out.alloc B1.out.size (.cells #[(.slice a.A a.xs.length a.c)] 41))
  have T4 := Lib.hid (T2.out.old (.cells #[(.slice b.A b.xs.length b.c)] 41))
  have T5n := BoAt.new (w.alloc (.cells #[(.slice a.A a.xs.length a.c)] 41)) (.slice b.A b.xs.length b.c)
  simp only [World.size_alloc] at T5n
  have T5 := Lib.hid T5n
  clear T5n
  have B6 := Lib.hid (B3.out.alloc B3.out.size (.cells #[(.slice b.A b.xs.length b.c)] 41))
  have T7 := Lib.hid (T4.out.old (.cells #[(.slice c.A c.xs.length c.c)] 41))
  have T8 := Lib.hid (T5.out.old (.cells #[(.slice c.A c.xs.length c.c)] 41))
  have T9n := BoAt.new ((w.alloc (.cells #[(.slice a.A a.xs.length a.c)] 41)).alloc (.cells #[(.slice b.A b.xs.length b.c)] 41)) (.slice c.A c.xs.length c.c)
  simp only [World.size_alloc] at T9n
  have T9 := Lib.hid T9n
  clear T9n
  have B10 := Lib.hid (B6.out.alloc B6.out.size (.cells #[(.slice c.A c.xs.length c.c)] 41))
  have F11 := Lib.hid (Fa.out.below B10.out (Nat.le_refl _))
  have F12 := Lib.hid (Fb.out.below B10.out (Nat.le_refl _))
  have F13 := Lib.hid (Fc.out.below B10.out (Nat.le_refl _))
  go_enter Tryd.func5, Tryd.ntmps5
  have C14 := Lib.hid (bkAwake (((w.alloc (.cells #[(.slice a.A a.xs.length a.c)] 41)).alloc (.cells #[(.slice b.A b.xs.length b.c)] 41)).alloc (.cells #[(.slice c.A c.xs.length c.c)] 41)) (HLA.out _ B10.out))
  go_wp2_with fail
  refine C14.out.mono ?_
  rintro e w15 ⟨rfl, hb16⟩
  have T17 := Lib.hid (T7.out.below hb16 T7.out.lt)
  have T18 := Lib.hid (T8.out.below hb16 T8.out.lt)
  have T19 := Lib.hid (T9.out.below hb16 T9.out.lt)
  have F20 := Lib.hid (F11.out.below hb16 (Nat.le_refl _))
  have F21 := Lib.hid (F12.out.below hb16 (Nat.le_refl _))
  have F22 := Lib.hid (F13.out.below hb16 (Nat.le_refl _))
  have B23 := Lib.hid (B10.out.trans (hb16.mono B10.out.size))
  clear hb16
  have M24 := Lib.hid (T17.out.load)
  have C25 := Lib.hid (fewB_any a w15 F20.out)
  rw [PA.out] at C25
  go_wp2_with (first | ((with_reducible refine wpList_load_by (o := ⟨some 15, .load 41 (.tmp 3), _, _, _, _⟩) ?e1 41 (.tmp 3) ?e2 ⟨w.heap.size, 0, none⟩ ?e3 _ M24.out ?_); (case e1 => rfl); (case e2 => rfl); (case e3 => rfl)))
  refine C25.out.mono ?_
  rintro e w26 ⟨rfl, hb27⟩
  have T28 := Lib.hid (T17.out.below hb27 T17.out.lt)
  have T29 := Lib.hid (T18.out.below hb27 T18.out.lt)
  have T30 := Lib.hid (T19.out.below hb27 T19.out.lt)
  have F31 := Lib.hid (F20.out.below hb27 (Nat.le_refl _))
  have F32 := Lib.hid (F21.out.below hb27 (Nat.le_refl _))
  have F33 := Lib.hid (F22.out.below hb27 (Nat.le_refl _))
  have B34 := Lib.hid (B23.out.trans (hb27.mono B23.out.size))
  clear hb27
  have M35 := Lib.hid (T29.out.load)
  have C36 := Lib.hid (fewB_any b w26 F32.out)
  rw [PB.out] at C36
  go_wp2_with (first | ((with_reducible refine wpList_load_by (o := ⟨some 17, .load 41 (.tmp 4), _, _, _, _⟩) ?e1 41 (.tmp 4) ?e2 ⟨(w.heap.size + 1), 0, none⟩ ?e3 _ M35.out ?_); (case e1 => rfl); (case e2 => rfl); (case e3 => rfl)))
  refine C36.out.mono ?_
  rintro e w37 ⟨rfl, hb38⟩
  have T39 := Lib.hid (T28.out.below hb38 T28.out.lt)
  have T40 := Lib.hid (T29.out.below hb38 T29.out.lt)
  have T41 := Lib.hid (T30.out.below hb38 T30.out.lt)
  have F42 := Lib.hid (F31.out.below hb38 (Nat.le_refl _))
  have F43 := Lib.hid (F32.out.below hb38 (Nat.le_refl _))
  have F44 := Lib.hid (F33.out.below hb38 (Nat.le_refl _))
  have B45 := Lib.hid (B34.out.trans (hb38.mono B34.out.size))
  clear hb38
  have M46 := Lib.hid (T41.out.load)
  have C47 := Lib.hid (fewB_any c w37 F44.out)
  rw [PC.out] at C47
  go_wp2_with (first | ((with_reducible refine wpList_load_by (o := ⟨some 19, .load 41 (.tmp 5), _, _, _, _⟩) ?e1 41 (.tmp 5) ?e2 ⟨(w.heap.size + 1 + 1), 0, none⟩ ?e3 _ M46.out ?_); (case e1 => rfl); (case e2 => rfl); (case e3 => rfl)))
  refine C47.out.mono ?_
  rintro e w48 ⟨rfl, hb49⟩
  have T50 := Lib.hid (T39.out.below hb49 T39.out.lt)
  have T51 := Lib.hid (T40.out.below hb49 T40.out.lt)
  have T52 := Lib.hid (T41.out.below hb49 T41.out.lt)
  have F53 := Lib.hid (F42.out.below hb49 (Nat.le_refl _))
  have F54 := Lib.hid (F43.out.below hb49 (Nat.le_refl _))
  have F55 := Lib.hid (F44.out.below hb49 (Nat.le_refl _))
  have B56 := Lib.hid (B45.out.trans (hb49.mono B45.out.size))
  clear hb49
  have M57 := Lib.hid (T50.out.load)
  have M58 := Lib.hid (T51.out.load)
  have C59 := Lib.hid (bleq_any a b w48 (HLA.out _ B56.out) F53.out F54.out)
  rw [AB.out] at C59
  go_wp2_with (first | ((with_reducible refine wpList_load_by (o := ⟨some 36, .load 41 (.tmp 3), _, _, _, _⟩) ?e1 41 (.tmp 3) ?e2 ⟨w.heap.size, 0, none⟩ ?e3 _ M57.out ?_); (case e1 => rfl); (case e2 => rfl); (case e3 => rfl)) | ((with_reducible refine wpList_load_by (o := ⟨some 37, .load 41 (.tmp 4), _, _, _, _⟩) ?e1 41 (.tmp 4) ?e2 ⟨(w.heap.size + 1), 0, none⟩ ?e3 _ M58.out ?_); (case e1 => rfl); (case e2 => rfl); (case e3 => rfl)))
  refine C59.out.mono ?_
  rintro e w60 ⟨rfl, hb61⟩
  have T62 := Lib.hid (T50.out.below hb61 T50.out.lt)
  have T63 := Lib.hid (T51.out.below hb61 T51.out.lt)
  have T64 := Lib.hid (T52.out.below hb61 T52.out.lt)
  have F65 := Lib.hid (F53.out.below hb61 (Nat.le_refl _))
  have F66 := Lib.hid (F54.out.below hb61 (Nat.le_refl _))
  have F67 := Lib.hid (F55.out.below hb61 (Nat.le_refl _))
  have B68 := Lib.hid (B56.out.trans (hb61.mono B56.out.size))
  clear hb61
  have M69 := Lib.hid (T63.out.load)
  have M70 := Lib.hid (T62.out.load)
  have C71 := Lib.hid (bleq_any b a w60 (HLA.out _ B68.out) F66.out F65.out)
  rw [BA.out] at C71
  go_wp2_with (first | ((with_reducible refine wpList_load_by (o := ⟨some 39, .load 41 (.tmp 4), _, _, _, _⟩) ?e1 41 (.tmp 4) ?e2 ⟨(w.heap.size + 1), 0, none⟩ ?e3 _ M69.out ?_); (case e1 => rfl); (case e2 => rfl); (case e3 => rfl)) | ((with_reducible refine wpList_load_by (o := ⟨some 40, .load 41 (.tmp 3), _, _, _, _⟩) ?e1 41 (.tmp 3) ?e2 ⟨w.heap.size, 0, none⟩ ?e3 _ M70.out ?_); (case e1 => rfl); (case e2 => rfl); (case e3 => rfl)))
  refine C71.out.mono ?_
  rintro e w72 ⟨rfl, hb73⟩
  have T74 := Lib.hid (T62.out.below hb73 T62.out.lt)
  have T75 := Lib.hid (T63.out.below hb73 T63.out.lt)
  have T76 := Lib.hid (T64.out.below hb73 T64.out.lt)
  have F77 := Lib.hid (F65.out.below hb73 (Nat.le_refl _))
  have F78 := Lib.hid (F66.out.below hb73 (Nat.le_refl _))
  have F79 := Lib.hid (F67.out.below hb73 (Nat.le_refl _))
  have B80 := Lib.hid (B68.out.trans (hb73.mono B68.out.size))
  clear hb73
  have M81 := Lib.hid (T75.out.load)
  have M82 := Lib.hid (T76.out.load)
  have C83 := Lib.hid (bleq_any b c w72 (HLA.out _ B80.out) F78.out F79.out)
  rw [BC.out] at C83
  go_wp2_with (first | ((with_reducible refine wpList_load_by (o := ⟨some 42, .load 41 (.tmp 4), _, _, _, _⟩) ?e1 41 (.tmp 4) ?e2 ⟨(w.heap.size + 1), 0, none⟩ ?e3 _ M81.out ?_); (case e1 => rfl); (case e2 => rfl); (case e3 => rfl)) | ((with_reducible refine wpList_load_by (o := ⟨some 43, .load 41 (.tmp 5), _, _, _, _⟩) ?e1 41 (.tmp 5) ?e2 ⟨(w.heap.size + 1 + 1), 0, none⟩ ?e3 _ M82.out ?_); (case e1 => rfl); (case e2 => rfl); (case e3 => rfl)))
  refine C83.out.mono ?_
  rintro e w84 ⟨rfl, hb85⟩
  have T86 := Lib.hid (T74.out.below hb85 T74.out.lt)
  have T87 := Lib.hid (T75.out.below hb85 T75.out.lt)
  have T88 := Lib.hid (T76.out.below hb85 T76.out.lt)
  have F89 := Lib.hid (F77.out.below hb85 (Nat.le_refl _))
  have F90 := Lib.hid (F78.out.below hb85 (Nat.le_refl _))
  have F91 := Lib.hid (F79.out.below hb85 (Nat.le_refl _))
  have B92 := Lib.hid (B80.out.trans (hb85.mono B80.out.size))
  clear hb85
  have U93 := Lib.hid (fun (w9 : World) (hS : Below w84.heap.size w84 w9) => bleq_any a a w9 (HLA.out _ (B92.out.trans (hS.mono B92.out.size))) (F89.out.below hS (Nat.le_refl _)) (F89.out.below hS (Nat.le_refl _)))
  rw [AA.out] at U93
  have U94 := Lib.hid (fun (w9 : World) (hS : Below w84.heap.size w84 w9) => bmay_any a w9 (F89.out.below hS (Nat.le_refl _)))
  rw [MA.out] at U94
  have U95 := Lib.hid (fun (w9 : World) (hS : Below w84.heap.size w84 w9) => bleq_any a c w9 (HLA.out _ (B92.out.trans (hS.mono B92.out.size))) (F89.out.below hS (Nat.le_refl _)) (F91.out.below hS (Nat.le_refl _)))
  rw [AC.out] at U95
  go_wp2_with fail
  refine wp_region_G w84 (by kernel_rfl) ?_
  refine wpG_take (i := 0) (oi := ⟨some 45, _, _, _, _, _⟩) (v := (.agg #[(.slice a.A a.xs.length a.c)])) rfl (by kernel_rfl) (by kernel_rfl) (by kernel_rfl) (Or.inl ⟨by rfl, unib_val ?_⟩) ?_; (focus (intro w9 hSw; exact exec_load_by 41 _ rfl ⟨w.heap.size, 0, none⟩ rfl (T86.out.below hSw T86.out.lt).load)); simp only [Act.put, List.setIfInBounds_toArray, List.set_cons_zero, List.set_cons_succ]
  refine wpG_take (i := 1) (oi := ⟨some 46, _, _, _, _, _⟩) (v := (.agg #[(.slice a.A a.xs.length a.c)])) rfl (by kernel_rfl) (by kernel_rfl) (by kernel_rfl) (Or.inl ⟨by rfl, unib_val ?_⟩) ?_; (focus (intro w9 hSw; exact exec_load_by 41 _ rfl ⟨w.heap.size, 0, none⟩ rfl (T86.out.below hSw T86.out.lt).load)); simp only [Act.put, List.setIfInBounds_toArray, List.set_cons_zero, List.set_cons_succ]
  refine wpG_take (i := 2) (oi := ⟨some 47, _, _, _, _, _⟩) rfl (by kernel_rfl) (by kernel_rfl) (by kernel_rfl) (Or.inl ⟨by rfl, unib_call_if ?_ (fun w9 hS => U93.out w9 hS)⟩) ?_; (focus (intro w9 hSw; go_simp; try with_reducible rfl)); simp only [Act.put, List.setIfInBounds_toArray, List.set_cons_zero, List.set_cons_succ]
  refine wpG_take (i := 3) (oi := ⟨some 48, _, _, _, _, _⟩) (v := (.agg #[(.slice a.A a.xs.length a.c)])) rfl (by kernel_rfl) (by kernel_rfl) (by kernel_rfl) (Or.inl ⟨by rfl, unib_val ?_⟩) ?_; (focus (intro w9 hSw; exact exec_load_by 41 _ rfl ⟨w.heap.size, 0, none⟩ rfl (T86.out.below hSw T86.out.lt).load)); simp only [Act.put, List.setIfInBounds_toArray, List.set_cons_zero, List.set_cons_succ]
  refine wpG_take (i := 4) (oi := ⟨some 49, _, _, _, _, _⟩) rfl (by kernel_rfl) (by kernel_rfl) (by kernel_rfl) (Or.inl ⟨by rfl, unib_call_if ?_ (fun w9 hS => U94.out w9 hS)⟩) ?_; (focus (intro w9 hSw; go_simp; try with_reducible rfl)); simp only [Act.put, List.setIfInBounds_toArray, List.set_cons_zero, List.set_cons_succ]
  refine wpG_take (i := 5) (oi := ⟨some 50, _, _, _, _, _⟩) (v := ?_) rfl (by kernel_rfl) (by kernel_rfl) (by kernel_rfl) (Or.inl ⟨by rfl, unib_val ?_⟩) ?_; rotate_left; (focus (intro w9 hSw; have q0 := EQB.out; go_simp; try with_reducible rfl)); simp only [Act.put, List.setIfInBounds_toArray, List.set_cons_zero, List.set_cons_succ]
  refine wpG_take (i := 6) (oi := ⟨some 51, _, _, _, _, _⟩) (v := ?_) rfl (by kernel_rfl) (by kernel_rfl) (by kernel_rfl) (Or.inl ⟨by rfl, unib_val ?_⟩) ?_; rotate_left; (focus (intro w9 hSw; go_simp; try with_reducible rfl)); simp only [Act.put, List.setIfInBounds_toArray, List.set_cons_zero, List.set_cons_succ]
  refine wpG_take (i := 7) (oi := ⟨some 52, _, _, _, _, _⟩) (v := ?_) rfl (by kernel_rfl) (by kernel_rfl) (by kernel_rfl) (Or.inl ⟨by rfl, unib_val ?_⟩) ?_; rotate_left; (focus (intro w9 hSw; go_simp; try with_reducible rfl)); simp only [Act.put, List.setIfInBounds_toArray, List.set_cons_zero, List.set_cons_succ]
  refine wpG_take (i := 8) (oi := ⟨some 53, _, _, _, _, _⟩) (v := ?_) rfl (by kernel_rfl) (by kernel_rfl) (by kernel_rfl) (Or.inl ⟨by rfl, unib_val ?_⟩) ?_; rotate_left; (focus (intro w9 hSw; go_simp; try with_reducible rfl)); simp only [Act.put, List.setIfInBounds_toArray, List.set_cons_zero, List.set_cons_succ]
  refine wpG_take (i := 9) (oi := ⟨some 54, _, _, _, _, _⟩) (v := ?_) rfl (by kernel_rfl) (by kernel_rfl) (by kernel_rfl) (Or.inl ⟨by rfl, unib_val ?_⟩) ?_; rotate_left; (focus (intro w9 hSw; go_simp; try with_reducible rfl)); simp only [Act.put, List.setIfInBounds_toArray, List.set_cons_zero, List.set_cons_succ]
  refine wpG_take (i := 10) (oi := ⟨some 55, _, _, _, _, _⟩) (v := ?_) rfl (by kernel_rfl) (by kernel_rfl) (by kernel_rfl) (Or.inl ⟨by rfl, unib_val ?_⟩) ?_; rotate_left; (focus (intro w9 hSw; go_simp; try with_reducible rfl)); simp only [Act.put, List.setIfInBounds_toArray, List.set_cons_zero, List.set_cons_succ]
  refine wpG_take (i := 11) (oi := ⟨some 56, _, _, _, _, _⟩) (v := ?_) rfl (by kernel_rfl) (by kernel_rfl) (by kernel_rfl) (Or.inl ⟨by rfl, unib_val ?_⟩) ?_; rotate_left; (focus (intro w9 hSw; go_simp; try with_reducible rfl)); simp only [Act.put, List.setIfInBounds_toArray, List.set_cons_zero, List.set_cons_succ]
  refine wpG_take (i := 12) (oi := ⟨some 57, _, _, _, _, _⟩) (v := ?_) rfl (by kernel_rfl) (by kernel_rfl) (by kernel_rfl) (Or.inl ⟨by rfl, unib_val ?_⟩) ?_; rotate_left; (focus (intro w9 hSw; go_simp; try with_reducible rfl)); simp only [Act.put, List.setIfInBounds_toArray, List.set_cons_zero, List.set_cons_succ]
  refine wpG_take (i := 13) (oi := ⟨some 58, _, _, _, _, _⟩) (v := ?_) rfl (by kernel_rfl) (by kernel_rfl) (by kernel_rfl) (Or.inl ⟨by rfl, unib_val ?_⟩) ?_; rotate_left; (focus (intro w9 hSw; go_simp; try with_reducible rfl)); simp only [Act.put, List.setIfInBounds_toArray, List.set_cons_zero, List.set_cons_succ]
  refine wpG_take (i := 14) (oi := ⟨some 59, _, _, _, _, _⟩) rfl (by kernel_rfl) (by kernel_rfl) (by kernel_rfl) (Or.inr ⟨by rfl, rfl⟩) ?_; simp only [Act.put, List.setIfInBounds_toArray, List.set_cons_zero, List.set_cons_succ]
  refine wpG_take (i := 15) (oi := ⟨some 60, _, _, _, _, _⟩) rfl (by kernel_rfl) (by kernel_rfl) (by kernel_rfl) (Or.inr ⟨by rfl, rfl⟩) ?_; simp only [Act.put, List.setIfInBounds_toArray, List.set_cons_zero, List.set_cons_succ]
  refine wpG_take (i := 16) (oi := ⟨some 61, _, _, _, _, _⟩) rfl (by kernel_rfl) (by kernel_rfl) (by kernel_rfl) (Or.inr ⟨by rfl, rfl⟩) ?_; simp only [Act.put, List.setIfInBounds_toArray, List.set_cons_zero, List.set_cons_succ]
  refine wpG_take (i := 17) (oi := ⟨some 62, _, _, _, _, _⟩) (v := ?_) rfl (by kernel_rfl) (by kernel_rfl) (by kernel_rfl) (Or.inl ⟨by rfl, unib_val ?_⟩) ?_; rotate_left; (focus (intro w9 hSw; go_simp; try with_reducible rfl)); simp only [Act.put, List.setIfInBounds_toArray, List.set_cons_zero, List.set_cons_succ]
  refine wpG_take (i := 18) (oi := ⟨some 63, _, _, _, _, _⟩) (v := ?_) rfl (by kernel_rfl) (by kernel_rfl) (by kernel_rfl) (Or.inl ⟨by rfl, unib_val ?_⟩) ?_; rotate_left; (focus (intro w9 hSw; go_simp; try with_reducible rfl)); simp only [Act.put, List.setIfInBounds_toArray, List.set_cons_zero, List.set_cons_succ]
  refine wpG_take (i := 19) (oi := ⟨some 64, _, _, _, _, _⟩) (v := ?_) rfl (by kernel_rfl) (by kernel_rfl) (by kernel_rfl) (Or.inl ⟨by rfl, unib_val ?_⟩) ?_; rotate_left; (focus (intro w9 hSw; go_simp; try with_reducible rfl)); simp only [Act.put, List.setIfInBounds_toArray, List.set_cons_zero, List.set_cons_succ]
  refine wpG_take (i := 20) (oi := ⟨some 65, _, _, _, _, _⟩) (v := ?_) rfl (by kernel_rfl) (by kernel_rfl) (by kernel_rfl) (Or.inl ⟨by rfl, unib_val ?_⟩) ?_; rotate_left; (focus (intro w9 hSw; go_simp; try with_reducible rfl)); simp only [Act.put, List.setIfInBounds_toArray, List.set_cons_zero, List.set_cons_succ]
  refine wpG_take (i := 21) (oi := ⟨some 66, _, _, _, _, _⟩) (v := ?_) rfl (by kernel_rfl) (by kernel_rfl) (by kernel_rfl) (Or.inl ⟨by rfl, unib_val ?_⟩) ?_; rotate_left; (focus (intro w9 hSw; go_simp; try with_reducible rfl)); simp only [Act.put, List.setIfInBounds_toArray, List.set_cons_zero, List.set_cons_succ]
  refine wpG_take (i := 22) (oi := ⟨some 67, _, _, _, _, _⟩) (v := ?_) rfl (by kernel_rfl) (by kernel_rfl) (by kernel_rfl) (Or.inl ⟨by rfl, unib_val ?_⟩) ?_; rotate_left; (focus (intro w9 hSw; go_simp; try with_reducible rfl)); simp only [Act.put, List.setIfInBounds_toArray, List.set_cons_zero, List.set_cons_succ]
  refine wpG_take (i := 23) (oi := ⟨some 68, _, _, _, _, _⟩) (v := ?_) rfl (by kernel_rfl) (by kernel_rfl) (by kernel_rfl) (Or.inl ⟨by rfl, unib_val ?_⟩) ?_; rotate_left; (focus (intro w9 hSw; go_simp; try with_reducible rfl)); simp only [Act.put, List.setIfInBounds_toArray, List.set_cons_zero, List.set_cons_succ]
  refine wpG_take (i := 24) (oi := ⟨some 69, _, _, _, _, _⟩) (v := ?_) rfl (by kernel_rfl) (by kernel_rfl) (by kernel_rfl) (Or.inl ⟨by rfl, unib_val ?_⟩) ?_; rotate_left; (focus (intro w9 hSw; go_simp; try with_reducible rfl)); simp only [Act.put, List.setIfInBounds_toArray, List.set_cons_zero, List.set_cons_succ]
  refine wpG_take (i := 25) (oi := ⟨some 70, _, _, _, _, _⟩) (v := ?_) rfl (by kernel_rfl) (by kernel_rfl) (by kernel_rfl) (Or.inl ⟨by rfl, unib_val ?_⟩) ?_; rotate_left; (focus (intro w9 hSw; go_simp; try with_reducible rfl)); simp only [Act.put, List.setIfInBounds_toArray, List.set_cons_zero, List.set_cons_succ]
  refine wpG_take (i := 26) (oi := ⟨some 71, _, _, _, _, _⟩) (v := ?_) rfl (by kernel_rfl) (by kernel_rfl) (by kernel_rfl) (Or.inl ⟨by rfl, unib_val ?_⟩) ?_; rotate_left; (focus (intro w9 hSw; go_simp; try with_reducible rfl)); simp only [Act.put, List.setIfInBounds_toArray, List.set_cons_zero, List.set_cons_succ]
  refine wpG_take (i := 27) (oi := ⟨some 72, _, _, _, _, _⟩) (v := (.agg #[(.slice a.A a.xs.length a.c)])) rfl (by kernel_rfl) (by kernel_rfl) (by kernel_rfl) (Or.inl ⟨by rfl, unib_val ?_⟩) ?_; (focus (intro w9 hSw; exact exec_load_by 41 _ rfl ⟨w.heap.size, 0, none⟩ rfl (T86.out.below hSw T86.out.lt).load)); simp only [Act.put, List.setIfInBounds_toArray, List.set_cons_zero, List.set_cons_succ]
  refine wpG_take (i := 28) (oi := ⟨some 73, _, _, _, _, _⟩) (v := (.agg #[(.slice c.A c.xs.length c.c)])) rfl (by kernel_rfl) (by kernel_rfl) (by kernel_rfl) (Or.inl ⟨by rfl, unib_val ?_⟩) ?_; (focus (intro w9 hSw; exact exec_load_by 41 _ rfl ⟨(w.heap.size + 1 + 1), 0, none⟩ rfl (T88.out.below hSw T88.out.lt).load)); simp only [Act.put, List.setIfInBounds_toArray, List.set_cons_zero, List.set_cons_succ]
  refine wpG_take (i := 29) (oi := ⟨some 74, _, _, _, _, _⟩) rfl (by kernel_rfl) (by kernel_rfl) (by kernel_rfl) (Or.inl ⟨by rfl, unib_call_if ?_ (fun w9 hS => U95.out w9 hS)⟩) ?_; (focus (intro w9 hSw; go_simp; try with_reducible rfl)); simp only [Act.put, List.setIfInBounds_toArray, List.set_cons_zero, List.set_cons_succ]
  refine wpG_take (i := 30) (oi := ⟨some 75, _, _, _, _, _⟩) (v := ?_) rfl (by kernel_rfl) (by kernel_rfl) (by kernel_rfl) (Or.inl ⟨by rfl, unib_val ?_⟩) ?_; rotate_left; (focus (intro w9 hSw; go_simp; try with_reducible rfl)); simp only [Act.put, List.setIfInBounds_toArray, List.set_cons_zero, List.set_cons_succ]
  refine wpG_take (i := 31) (oi := ⟨some 76, _, _, _, _, _⟩) (v := ?_) rfl (by kernel_rfl) (by kernel_rfl) (by kernel_rfl) (Or.inl ⟨by rfl, unib_val ?_⟩) ?_; rotate_left; (focus (intro w9 hSw; go_simp; try with_reducible rfl)); simp only [Act.put, List.setIfInBounds_toArray, List.set_cons_zero, List.set_cons_succ]
  refine wpG_take (i := 32) (oi := ⟨some 6, _, _, _, _, _⟩) (v := ?_) rfl (by kernel_rfl) (by kernel_rfl) (by kernel_rfl) (Or.inl ⟨by rfl, unib_val ?_⟩) ?_; rotate_left; (focus (intro w9 hSw; go_simp; try with_reducible rfl)); simp only [Act.put, List.setIfInBounds_toArray, List.set_cons_zero, List.set_cons_succ]
  refine wpG_done (by kernel_rfl) ?_ _
  intro w9 hSw _
  go_wp2
  go_ret
  exact ⟨rfl, B92.out.trans (hSw.mono B92.out.size)⟩
set_option maxHeartbeats 16000000 in
theorem border_ttf (a b c : Bk) (w : World) (hlaid : Laid w) (wa : BkAt w a) (wb : BkAt w b) (wc : BkAt w c) (p : (fewB a.rs && fewB b.rs && fewB c.rs) = true) (hab : bleq a.rs b.rs = true) (hba : bleq b.rs a.rs = true) (hbc : bleq b.rs c.rs = false) :
    Calls Tryd.prog 5 #[.agg #[.slice a.A a.xs.length a.c], .agg #[.slice b.A b.xs.length b.c], .agg #[.slice c.A c.xs.length c.c]] w fun e w' => e = .returned (.bool true) ∧ Below w.heap.size w w' := by
  have HLA := Lib.hid (fun (X : World) (hX : Below w.heap.size w X) => hlaid.below hX (Nat.le_refl _))
  have Fa := Lib.hid wa
  have Fb := Lib.hid wb
  have Fc := Lib.hid wc
  clear hlaid wa wb wc
  simp only [Bool.and_eq_true] at p
  have PA := Lib.hid p.1.1
  have PB := Lib.hid p.1.2
  have PC := Lib.hid p.2
  have AB := Lib.hid hab
  have BA := Lib.hid hba
  have BC := Lib.hid hbc
  obtain ⟨m, hm⟩ : ∃ m, bmay a.rs = m := ⟨_, rfl⟩
  have AA := Lib.hid ((@bleq_refl a.rs).trans hm)
  have MA := Lib.hid hm
  have EQB := Lib.hid (show decide (m = m) = true from decide_eq_true rfl)
  have SAB := Lib.hid (bsame_iff.2 (bleq_anti hab hba))
  clear p hm hab hba hbc
  have B1 := Lib.hid (Below.refl w.heap.size w)
  have T2n := BoAt.new w (.slice a.A a.xs.length a.c)
  have T2 := Lib.hid T2n
  clear T2n
  have B3 := Lib.hid (B1.out.alloc B1.out.size (.cells #[(.slice a.A a.xs.length a.c)] 41))
  have T4 := Lib.hid (T2.out.old (.cells #[(.slice b.A b.xs.length b.c)] 41))
  have T5n := BoAt.new (w.alloc (.cells #[(.slice a.A a.xs.length a.c)] 41)) (.slice b.A b.xs.length b.c)
  simp only [World.size_alloc] at T5n
  have T5 := Lib.hid T5n
  clear T5n
  have B6 := Lib.hid (B3.out.alloc B3.out.size (.cells #[(.slice b.A b.xs.length b.c)] 41))
  have T7 := Lib.hid (T4.out.old (.cells #[(.slice c.A c.xs.length c.c)] 41))
  have T8 := Lib.hid (T5.out.old (.cells #[(.slice c.A c.xs.length c.c)] 41))
  have T9n := BoAt.new ((w.alloc (.cells #[(.slice a.A a.xs.length a.c)] 41)).alloc (.cells #[(.slice b.A b.xs.length b.c)] 41)) (.slice c.A c.xs.length c.c)
  simp only [World.size_alloc] at T9n
  have T9 := Lib.hid T9n
  clear T9n
  have B10 := Lib.hid (B6.out.alloc B6.out.size (.cells #[(.slice c.A c.xs.length c.c)] 41))
  have F11 := Lib.hid (Fa.out.below B10.out (Nat.le_refl _))
  have F12 := Lib.hid (Fb.out.below B10.out (Nat.le_refl _))
  have F13 := Lib.hid (Fc.out.below B10.out (Nat.le_refl _))
  go_enter Tryd.func5, Tryd.ntmps5
  have C14 := Lib.hid (bkAwake (((w.alloc (.cells #[(.slice a.A a.xs.length a.c)] 41)).alloc (.cells #[(.slice b.A b.xs.length b.c)] 41)).alloc (.cells #[(.slice c.A c.xs.length c.c)] 41)) (HLA.out _ B10.out))
  go_wp2_with fail
  refine C14.out.mono ?_
  rintro e w15 ⟨rfl, hb16⟩
  have T17 := Lib.hid (T7.out.below hb16 T7.out.lt)
  have T18 := Lib.hid (T8.out.below hb16 T8.out.lt)
  have T19 := Lib.hid (T9.out.below hb16 T9.out.lt)
  have F20 := Lib.hid (F11.out.below hb16 (Nat.le_refl _))
  have F21 := Lib.hid (F12.out.below hb16 (Nat.le_refl _))
  have F22 := Lib.hid (F13.out.below hb16 (Nat.le_refl _))
  have B23 := Lib.hid (B10.out.trans (hb16.mono B10.out.size))
  clear hb16
  have M24 := Lib.hid (T17.out.load)
  have C25 := Lib.hid (fewB_any a w15 F20.out)
  rw [PA.out] at C25
  go_wp2_with (first | ((with_reducible refine wpList_load_by (o := ⟨some 15, .load 41 (.tmp 3), _, _, _, _⟩) ?e1 41 (.tmp 3) ?e2 ⟨w.heap.size, 0, none⟩ ?e3 _ M24.out ?_); (case e1 => rfl); (case e2 => rfl); (case e3 => rfl)))
  refine C25.out.mono ?_
  rintro e w26 ⟨rfl, hb27⟩
  have T28 := Lib.hid (T17.out.below hb27 T17.out.lt)
  have T29 := Lib.hid (T18.out.below hb27 T18.out.lt)
  have T30 := Lib.hid (T19.out.below hb27 T19.out.lt)
  have F31 := Lib.hid (F20.out.below hb27 (Nat.le_refl _))
  have F32 := Lib.hid (F21.out.below hb27 (Nat.le_refl _))
  have F33 := Lib.hid (F22.out.below hb27 (Nat.le_refl _))
  have B34 := Lib.hid (B23.out.trans (hb27.mono B23.out.size))
  clear hb27
  have M35 := Lib.hid (T29.out.load)
  have C36 := Lib.hid (fewB_any b w26 F32.out)
  rw [PB.out] at C36
  go_wp2_with (first | ((with_reducible refine wpList_load_by (o := ⟨some 17, .load 41 (.tmp 4), _, _, _, _⟩) ?e1 41 (.tmp 4) ?e2 ⟨(w.heap.size + 1), 0, none⟩ ?e3 _ M35.out ?_); (case e1 => rfl); (case e2 => rfl); (case e3 => rfl)))
  refine C36.out.mono ?_
  rintro e w37 ⟨rfl, hb38⟩
  have T39 := Lib.hid (T28.out.below hb38 T28.out.lt)
  have T40 := Lib.hid (T29.out.below hb38 T29.out.lt)
  have T41 := Lib.hid (T30.out.below hb38 T30.out.lt)
  have F42 := Lib.hid (F31.out.below hb38 (Nat.le_refl _))
  have F43 := Lib.hid (F32.out.below hb38 (Nat.le_refl _))
  have F44 := Lib.hid (F33.out.below hb38 (Nat.le_refl _))
  have B45 := Lib.hid (B34.out.trans (hb38.mono B34.out.size))
  clear hb38
  have M46 := Lib.hid (T41.out.load)
  have C47 := Lib.hid (fewB_any c w37 F44.out)
  rw [PC.out] at C47
  go_wp2_with (first | ((with_reducible refine wpList_load_by (o := ⟨some 19, .load 41 (.tmp 5), _, _, _, _⟩) ?e1 41 (.tmp 5) ?e2 ⟨(w.heap.size + 1 + 1), 0, none⟩ ?e3 _ M46.out ?_); (case e1 => rfl); (case e2 => rfl); (case e3 => rfl)))
  refine C47.out.mono ?_
  rintro e w48 ⟨rfl, hb49⟩
  have T50 := Lib.hid (T39.out.below hb49 T39.out.lt)
  have T51 := Lib.hid (T40.out.below hb49 T40.out.lt)
  have T52 := Lib.hid (T41.out.below hb49 T41.out.lt)
  have F53 := Lib.hid (F42.out.below hb49 (Nat.le_refl _))
  have F54 := Lib.hid (F43.out.below hb49 (Nat.le_refl _))
  have F55 := Lib.hid (F44.out.below hb49 (Nat.le_refl _))
  have B56 := Lib.hid (B45.out.trans (hb49.mono B45.out.size))
  clear hb49
  have M57 := Lib.hid (T50.out.load)
  have M58 := Lib.hid (T51.out.load)
  have C59 := Lib.hid (bleq_any a b w48 (HLA.out _ B56.out) F53.out F54.out)
  rw [AB.out] at C59
  go_wp2_with (first | ((with_reducible refine wpList_load_by (o := ⟨some 36, .load 41 (.tmp 3), _, _, _, _⟩) ?e1 41 (.tmp 3) ?e2 ⟨w.heap.size, 0, none⟩ ?e3 _ M57.out ?_); (case e1 => rfl); (case e2 => rfl); (case e3 => rfl)) | ((with_reducible refine wpList_load_by (o := ⟨some 37, .load 41 (.tmp 4), _, _, _, _⟩) ?e1 41 (.tmp 4) ?e2 ⟨(w.heap.size + 1), 0, none⟩ ?e3 _ M58.out ?_); (case e1 => rfl); (case e2 => rfl); (case e3 => rfl)))
  refine C59.out.mono ?_
  rintro e w60 ⟨rfl, hb61⟩
  have T62 := Lib.hid (T50.out.below hb61 T50.out.lt)
  have T63 := Lib.hid (T51.out.below hb61 T51.out.lt)
  have T64 := Lib.hid (T52.out.below hb61 T52.out.lt)
  have F65 := Lib.hid (F53.out.below hb61 (Nat.le_refl _))
  have F66 := Lib.hid (F54.out.below hb61 (Nat.le_refl _))
  have F67 := Lib.hid (F55.out.below hb61 (Nat.le_refl _))
  have B68 := Lib.hid (B56.out.trans (hb61.mono B56.out.size))
  clear hb61
  have M69 := Lib.hid (T63.out.load)
  have M70 := Lib.hid (T62.out.load)
  have C71 := Lib.hid (bleq_any b a w60 (HLA.out _ B68.out) F66.out F65.out)
  rw [BA.out] at C71
  go_wp2_with (first | ((with_reducible refine wpList_load_by (o := ⟨some 39, .load 41 (.tmp 4), _, _, _, _⟩) ?e1 41 (.tmp 4) ?e2 ⟨(w.heap.size + 1), 0, none⟩ ?e3 _ M69.out ?_); (case e1 => rfl); (case e2 => rfl); (case e3 => rfl)) | ((with_reducible refine wpList_load_by (o := ⟨some 40, .load 41 (.tmp 3), _, _, _, _⟩) ?e1 41 (.tmp 3) ?e2 ⟨w.heap.size, 0, none⟩ ?e3 _ M70.out ?_); (case e1 => rfl); (case e2 => rfl); (case e3 => rfl)))
  refine C71.out.mono ?_
  rintro e w72 ⟨rfl, hb73⟩
  have T74 := Lib.hid (T62.out.below hb73 T62.out.lt)
  have T75 := Lib.hid (T63.out.below hb73 T63.out.lt)
  have T76 := Lib.hid (T64.out.below hb73 T64.out.lt)
  have F77 := Lib.hid (F65.out.below hb73 (Nat.le_refl _))
  have F78 := Lib.hid (F66.out.below hb73 (Nat.le_refl _))
  have F79 := Lib.hid (F67.out.below hb73 (Nat.le_refl _))
  have B80 := Lib.hid (B68.out.trans (hb73.mono B68.out.size))
  clear hb73
  have M81 := Lib.hid (T75.out.load)
  have M82 := Lib.hid (T76.out.load)
  have C83 := Lib.hid (bleq_any b c w72 (HLA.out _ B80.out) F78.out F79.out)
  rw [BC.out] at C83
  go_wp2_with (first | ((with_reducible refine wpList_load_by (o := ⟨some 42, .load 41 (.tmp 4), _, _, _, _⟩) ?e1 41 (.tmp 4) ?e2 ⟨(w.heap.size + 1), 0, none⟩ ?e3 _ M81.out ?_); (case e1 => rfl); (case e2 => rfl); (case e3 => rfl)) | ((with_reducible refine wpList_load_by (o := ⟨some 43, .load 41 (.tmp 5), _, _, _, _⟩) ?e1 41 (.tmp 5) ?e2 ⟨(w.heap.size + 1 + 1), 0, none⟩ ?e3 _ M82.out ?_); (case e1 => rfl); (case e2 => rfl); (case e3 => rfl)))
  refine C83.out.mono ?_
  rintro e w84 ⟨rfl, hb85⟩
  have T86 := Lib.hid (T74.out.below hb85 T74.out.lt)
  have T87 := Lib.hid (T75.out.below hb85 T75.out.lt)
  have T88 := Lib.hid (T76.out.below hb85 T76.out.lt)
  have F89 := Lib.hid (F77.out.below hb85 (Nat.le_refl _))
  have F90 := Lib.hid (F78.out.below hb85 (Nat.le_refl _))
  have F91 := Lib.hid (F79.out.below hb85 (Nat.le_refl _))
  have B92 := Lib.hid (B80.out.trans (hb85.mono B80.out.size))
  clear hb85
  have U93 := Lib.hid (fun (w9 : World) (hS : Below w84.heap.size w84 w9) => bleq_any a a w9 (HLA.out _ (B92.out.trans (hS.mono B92.out.size))) (F89.out.below hS (Nat.le_refl _)) (F89.out.below hS (Nat.le_refl _)))
  rw [AA.out] at U93
  have U94 := Lib.hid (fun (w9 : World) (hS : Below w84.heap.size w84 w9) => bmay_any a w9 (F89.out.below hS (Nat.le_refl _)))
  rw [MA.out] at U94
  have U95 := Lib.hid (fun (w9 : World) (hS : Below w84.heap.size w84 w9) => bsame_any a b w9 (F89.out.below hS (Nat.le_refl _)) (F90.out.below hS (Nat.le_refl _)))
  rw [SAB.out] at U95
  go_wp2_with fail
  refine wp_region_G w84 (by kernel_rfl) ?_
  refine wpG_take (i := 0) (oi := ⟨some 45, _, _, _, _, _⟩) (v := (.agg #[(.slice a.A a.xs.length a.c)])) rfl (by kernel_rfl) (by kernel_rfl) (by kernel_rfl) (Or.inl ⟨by rfl, unib_val ?_⟩) ?_; (focus (intro w9 hSw; exact exec_load_by 41 _ rfl ⟨w.heap.size, 0, none⟩ rfl (T86.out.below hSw T86.out.lt).load)); simp only [Act.put, List.setIfInBounds_toArray, List.set_cons_zero, List.set_cons_succ]
  refine wpG_take (i := 1) (oi := ⟨some 46, _, _, _, _, _⟩) (v := (.agg #[(.slice a.A a.xs.length a.c)])) rfl (by kernel_rfl) (by kernel_rfl) (by kernel_rfl) (Or.inl ⟨by rfl, unib_val ?_⟩) ?_; (focus (intro w9 hSw; exact exec_load_by 41 _ rfl ⟨w.heap.size, 0, none⟩ rfl (T86.out.below hSw T86.out.lt).load)); simp only [Act.put, List.setIfInBounds_toArray, List.set_cons_zero, List.set_cons_succ]
  refine wpG_take (i := 2) (oi := ⟨some 47, _, _, _, _, _⟩) rfl (by kernel_rfl) (by kernel_rfl) (by kernel_rfl) (Or.inl ⟨by rfl, unib_call_if ?_ (fun w9 hS => U93.out w9 hS)⟩) ?_; (focus (intro w9 hSw; go_simp; try with_reducible rfl)); simp only [Act.put, List.setIfInBounds_toArray, List.set_cons_zero, List.set_cons_succ]
  refine wpG_take (i := 3) (oi := ⟨some 48, _, _, _, _, _⟩) (v := (.agg #[(.slice a.A a.xs.length a.c)])) rfl (by kernel_rfl) (by kernel_rfl) (by kernel_rfl) (Or.inl ⟨by rfl, unib_val ?_⟩) ?_; (focus (intro w9 hSw; exact exec_load_by 41 _ rfl ⟨w.heap.size, 0, none⟩ rfl (T86.out.below hSw T86.out.lt).load)); simp only [Act.put, List.setIfInBounds_toArray, List.set_cons_zero, List.set_cons_succ]
  refine wpG_take (i := 4) (oi := ⟨some 49, _, _, _, _, _⟩) rfl (by kernel_rfl) (by kernel_rfl) (by kernel_rfl) (Or.inl ⟨by rfl, unib_call_if ?_ (fun w9 hS => U94.out w9 hS)⟩) ?_; (focus (intro w9 hSw; go_simp; try with_reducible rfl)); simp only [Act.put, List.setIfInBounds_toArray, List.set_cons_zero, List.set_cons_succ]
  refine wpG_take (i := 5) (oi := ⟨some 50, _, _, _, _, _⟩) (v := ?_) rfl (by kernel_rfl) (by kernel_rfl) (by kernel_rfl) (Or.inl ⟨by rfl, unib_val ?_⟩) ?_; rotate_left; (focus (intro w9 hSw; have q0 := EQB.out; go_simp; try with_reducible rfl)); simp only [Act.put, List.setIfInBounds_toArray, List.set_cons_zero, List.set_cons_succ]
  refine wpG_take (i := 6) (oi := ⟨some 51, _, _, _, _, _⟩) (v := ?_) rfl (by kernel_rfl) (by kernel_rfl) (by kernel_rfl) (Or.inl ⟨by rfl, unib_val ?_⟩) ?_; rotate_left; (focus (intro w9 hSw; go_simp; try with_reducible rfl)); simp only [Act.put, List.setIfInBounds_toArray, List.set_cons_zero, List.set_cons_succ]
  refine wpG_take (i := 7) (oi := ⟨some 52, _, _, _, _, _⟩) (v := ?_) rfl (by kernel_rfl) (by kernel_rfl) (by kernel_rfl) (Or.inl ⟨by rfl, unib_val ?_⟩) ?_; rotate_left; (focus (intro w9 hSw; go_simp; try with_reducible rfl)); simp only [Act.put, List.setIfInBounds_toArray, List.set_cons_zero, List.set_cons_succ]
  refine wpG_take (i := 8) (oi := ⟨some 53, _, _, _, _, _⟩) (v := ?_) rfl (by kernel_rfl) (by kernel_rfl) (by kernel_rfl) (Or.inl ⟨by rfl, unib_val ?_⟩) ?_; rotate_left; (focus (intro w9 hSw; go_simp; try with_reducible rfl)); simp only [Act.put, List.setIfInBounds_toArray, List.set_cons_zero, List.set_cons_succ]
  refine wpG_take (i := 9) (oi := ⟨some 54, _, _, _, _, _⟩) (v := ?_) rfl (by kernel_rfl) (by kernel_rfl) (by kernel_rfl) (Or.inl ⟨by rfl, unib_val ?_⟩) ?_; rotate_left; (focus (intro w9 hSw; go_simp; try with_reducible rfl)); simp only [Act.put, List.setIfInBounds_toArray, List.set_cons_zero, List.set_cons_succ]
  refine wpG_take (i := 10) (oi := ⟨some 55, _, _, _, _, _⟩) (v := ?_) rfl (by kernel_rfl) (by kernel_rfl) (by kernel_rfl) (Or.inl ⟨by rfl, unib_val ?_⟩) ?_; rotate_left; (focus (intro w9 hSw; go_simp; try with_reducible rfl)); simp only [Act.put, List.setIfInBounds_toArray, List.set_cons_zero, List.set_cons_succ]
  refine wpG_take (i := 11) (oi := ⟨some 56, _, _, _, _, _⟩) (v := ?_) rfl (by kernel_rfl) (by kernel_rfl) (by kernel_rfl) (Or.inl ⟨by rfl, unib_val ?_⟩) ?_; rotate_left; (focus (intro w9 hSw; go_simp; try with_reducible rfl)); simp only [Act.put, List.setIfInBounds_toArray, List.set_cons_zero, List.set_cons_succ]
  refine wpG_take (i := 12) (oi := ⟨some 57, _, _, _, _, _⟩) (v := ?_) rfl (by kernel_rfl) (by kernel_rfl) (by kernel_rfl) (Or.inl ⟨by rfl, unib_val ?_⟩) ?_; rotate_left; (focus (intro w9 hSw; go_simp; try with_reducible rfl)); simp only [Act.put, List.setIfInBounds_toArray, List.set_cons_zero, List.set_cons_succ]
  refine wpG_take (i := 13) (oi := ⟨some 58, _, _, _, _, _⟩) (v := ?_) rfl (by kernel_rfl) (by kernel_rfl) (by kernel_rfl) (Or.inl ⟨by rfl, unib_val ?_⟩) ?_; rotate_left; (focus (intro w9 hSw; go_simp; try with_reducible rfl)); simp only [Act.put, List.setIfInBounds_toArray, List.set_cons_zero, List.set_cons_succ]
  refine wpG_take (i := 14) (oi := ⟨some 59, _, _, _, _, _⟩) (v := (.agg #[(.slice a.A a.xs.length a.c)])) rfl (by kernel_rfl) (by kernel_rfl) (by kernel_rfl) (Or.inl ⟨by rfl, unib_val ?_⟩) ?_; (focus (intro w9 hSw; exact exec_load_by 41 _ rfl ⟨w.heap.size, 0, none⟩ rfl (T86.out.below hSw T86.out.lt).load)); simp only [Act.put, List.setIfInBounds_toArray, List.set_cons_zero, List.set_cons_succ]
  refine wpG_take (i := 15) (oi := ⟨some 60, _, _, _, _, _⟩) (v := (.agg #[(.slice b.A b.xs.length b.c)])) rfl (by kernel_rfl) (by kernel_rfl) (by kernel_rfl) (Or.inl ⟨by rfl, unib_val ?_⟩) ?_; (focus (intro w9 hSw; exact exec_load_by 41 _ rfl ⟨(w.heap.size + 1), 0, none⟩ rfl (T87.out.below hSw T87.out.lt).load)); simp only [Act.put, List.setIfInBounds_toArray, List.set_cons_zero, List.set_cons_succ]
  refine wpG_take (i := 16) (oi := ⟨some 61, _, _, _, _, _⟩) rfl (by kernel_rfl) (by kernel_rfl) (by kernel_rfl) (Or.inl ⟨by rfl, unib_call_if ?_ (fun w9 hS => U95.out w9 hS)⟩) ?_; (focus (intro w9 hSw; go_simp; try with_reducible rfl)); simp only [Act.put, List.setIfInBounds_toArray, List.set_cons_zero, List.set_cons_succ]
  refine wpG_take (i := 17) (oi := ⟨some 62, _, _, _, _, _⟩) (v := ?_) rfl (by kernel_rfl) (by kernel_rfl) (by kernel_rfl) (Or.inl ⟨by rfl, unib_val ?_⟩) ?_; rotate_left; (focus (intro w9 hSw; go_simp; try with_reducible rfl)); simp only [Act.put, List.setIfInBounds_toArray, List.set_cons_zero, List.set_cons_succ]
  refine wpG_take (i := 18) (oi := ⟨some 63, _, _, _, _, _⟩) (v := ?_) rfl (by kernel_rfl) (by kernel_rfl) (by kernel_rfl) (Or.inl ⟨by rfl, unib_val ?_⟩) ?_; rotate_left; (focus (intro w9 hSw; go_simp; try with_reducible rfl)); simp only [Act.put, List.setIfInBounds_toArray, List.set_cons_zero, List.set_cons_succ]
  refine wpG_take (i := 19) (oi := ⟨some 64, _, _, _, _, _⟩) (v := ?_) rfl (by kernel_rfl) (by kernel_rfl) (by kernel_rfl) (Or.inl ⟨by rfl, unib_val ?_⟩) ?_; rotate_left; (focus (intro w9 hSw; go_simp; try with_reducible rfl)); simp only [Act.put, List.setIfInBounds_toArray, List.set_cons_zero, List.set_cons_succ]
  refine wpG_take (i := 20) (oi := ⟨some 65, _, _, _, _, _⟩) (v := ?_) rfl (by kernel_rfl) (by kernel_rfl) (by kernel_rfl) (Or.inl ⟨by rfl, unib_val ?_⟩) ?_; rotate_left; (focus (intro w9 hSw; go_simp; try with_reducible rfl)); simp only [Act.put, List.setIfInBounds_toArray, List.set_cons_zero, List.set_cons_succ]
  refine wpG_take (i := 21) (oi := ⟨some 66, _, _, _, _, _⟩) (v := ?_) rfl (by kernel_rfl) (by kernel_rfl) (by kernel_rfl) (Or.inl ⟨by rfl, unib_val ?_⟩) ?_; rotate_left; (focus (intro w9 hSw; go_simp; try with_reducible rfl)); simp only [Act.put, List.setIfInBounds_toArray, List.set_cons_zero, List.set_cons_succ]
  refine wpG_take (i := 22) (oi := ⟨some 67, _, _, _, _, _⟩) (v := ?_) rfl (by kernel_rfl) (by kernel_rfl) (by kernel_rfl) (Or.inl ⟨by rfl, unib_val ?_⟩) ?_; rotate_left; (focus (intro w9 hSw; go_simp; try with_reducible rfl)); simp only [Act.put, List.setIfInBounds_toArray, List.set_cons_zero, List.set_cons_succ]
  refine wpG_take (i := 23) (oi := ⟨some 68, _, _, _, _, _⟩) (v := ?_) rfl (by kernel_rfl) (by kernel_rfl) (by kernel_rfl) (Or.inl ⟨by rfl, unib_val ?_⟩) ?_; rotate_left; (focus (intro w9 hSw; go_simp; try with_reducible rfl)); simp only [Act.put, List.setIfInBounds_toArray, List.set_cons_zero, List.set_cons_succ]
  refine wpG_take (i := 24) (oi := ⟨some 69, _, _, _, _, _⟩) (v := ?_) rfl (by kernel_rfl) (by kernel_rfl) (by kernel_rfl) (Or.inl ⟨by rfl, unib_val ?_⟩) ?_; rotate_left; (focus (intro w9 hSw; go_simp; try with_reducible rfl)); simp only [Act.put, List.setIfInBounds_toArray, List.set_cons_zero, List.set_cons_succ]
  refine wpG_take (i := 25) (oi := ⟨some 70, _, _, _, _, _⟩) (v := ?_) rfl (by kernel_rfl) (by kernel_rfl) (by kernel_rfl) (Or.inl ⟨by rfl, unib_val ?_⟩) ?_; rotate_left; (focus (intro w9 hSw; go_simp; try with_reducible rfl)); simp only [Act.put, List.setIfInBounds_toArray, List.set_cons_zero, List.set_cons_succ]
  refine wpG_take (i := 26) (oi := ⟨some 71, _, _, _, _, _⟩) (v := ?_) rfl (by kernel_rfl) (by kernel_rfl) (by kernel_rfl) (Or.inl ⟨by rfl, unib_val ?_⟩) ?_; rotate_left; (focus (intro w9 hSw; go_simp; try with_reducible rfl)); simp only [Act.put, List.setIfInBounds_toArray, List.set_cons_zero, List.set_cons_succ]
  refine wpG_take (i := 27) (oi := ⟨some 72, _, _, _, _, _⟩) rfl (by kernel_rfl) (by kernel_rfl) (by kernel_rfl) (Or.inr ⟨by rfl, rfl⟩) ?_; simp only [Act.put, List.setIfInBounds_toArray, List.set_cons_zero, List.set_cons_succ]
  refine wpG_take (i := 28) (oi := ⟨some 73, _, _, _, _, _⟩) rfl (by kernel_rfl) (by kernel_rfl) (by kernel_rfl) (Or.inr ⟨by rfl, rfl⟩) ?_; simp only [Act.put, List.setIfInBounds_toArray, List.set_cons_zero, List.set_cons_succ]
  refine wpG_take (i := 29) (oi := ⟨some 74, _, _, _, _, _⟩) rfl (by kernel_rfl) (by kernel_rfl) (by kernel_rfl) (Or.inr ⟨by rfl, rfl⟩) ?_; simp only [Act.put, List.setIfInBounds_toArray, List.set_cons_zero, List.set_cons_succ]
  refine wpG_take (i := 30) (oi := ⟨some 75, _, _, _, _, _⟩) (v := ?_) rfl (by kernel_rfl) (by kernel_rfl) (by kernel_rfl) (Or.inl ⟨by rfl, unib_val ?_⟩) ?_; rotate_left; (focus (intro w9 hSw; go_simp; try with_reducible rfl)); simp only [Act.put, List.setIfInBounds_toArray, List.set_cons_zero, List.set_cons_succ]
  refine wpG_take (i := 31) (oi := ⟨some 76, _, _, _, _, _⟩) (v := ?_) rfl (by kernel_rfl) (by kernel_rfl) (by kernel_rfl) (Or.inl ⟨by rfl, unib_val ?_⟩) ?_; rotate_left; (focus (intro w9 hSw; go_simp; try with_reducible rfl)); simp only [Act.put, List.setIfInBounds_toArray, List.set_cons_zero, List.set_cons_succ]
  refine wpG_take (i := 32) (oi := ⟨some 6, _, _, _, _, _⟩) (v := ?_) rfl (by kernel_rfl) (by kernel_rfl) (by kernel_rfl) (Or.inl ⟨by rfl, unib_val ?_⟩) ?_; rotate_left; (focus (intro w9 hSw; go_simp; try with_reducible rfl)); simp only [Act.put, List.setIfInBounds_toArray, List.set_cons_zero, List.set_cons_succ]
  refine wpG_done (by kernel_rfl) ?_ _
  intro w9 hSw _
  go_wp2
  go_ret
  exact ⟨rfl, B92.out.trans (hSw.mono B92.out.size)⟩
set_option maxHeartbeats 16000000 in
theorem border_ttt (a b c : Bk) (w : World) (hlaid : Laid w) (wa : BkAt w a) (wb : BkAt w b) (wc : BkAt w c) (p : (fewB a.rs && fewB b.rs && fewB c.rs) = true) (hab : bleq a.rs b.rs = true) (hba : bleq b.rs a.rs = true) (hbc : bleq b.rs c.rs = true) :
    Calls Tryd.prog 5 #[.agg #[.slice a.A a.xs.length a.c], .agg #[.slice b.A b.xs.length b.c], .agg #[.slice c.A c.xs.length c.c]] w fun e w' => e = .returned (.bool true) ∧ Below w.heap.size w w' := by
  have HLA := Lib.hid (fun (X : World) (hX : Below w.heap.size w X) => hlaid.below hX (Nat.le_refl _))
  have Fa := Lib.hid wa
  have Fb := Lib.hid wb
  have Fc := Lib.hid wc
  clear hlaid wa wb wc
  simp only [Bool.and_eq_true] at p
  have PA := Lib.hid p.1.1
  have PB := Lib.hid p.1.2
  have PC := Lib.hid p.2
  have AB := Lib.hid hab
  have BA := Lib.hid hba
  have BC := Lib.hid hbc
  obtain ⟨m, hm⟩ : ∃ m, bmay a.rs = m := ⟨_, rfl⟩
  have AA := Lib.hid ((@bleq_refl a.rs).trans hm)
  have MA := Lib.hid hm
  have EQB := Lib.hid (show decide (m = m) = true from decide_eq_true rfl)
  have SAB := Lib.hid (bsame_iff.2 (bleq_anti hab hba))
  have AC := Lib.hid (bleq_trans hab hbc)
  clear p hm hab hba hbc
  have B1 := Lib.hid (Below.refl w.heap.size w)
  have T2n := BoAt.new w (.slice a.A a.xs.length a.c)
  have T2 := Lib.hid T2n
  clear T2n
  have B3 := Lib.hid (B1.out.alloc B1.out.size (.cells #[(.slice a.A a.xs.length a.c)] 41))
  have T4 := Lib.hid (T2.out.old (.cells #[(.slice b.A b.xs.length b.c)] 41))
  have T5n := BoAt.new (w.alloc (.cells #[(.slice a.A a.xs.length a.c)] 41)) (.slice b.A b.xs.length b.c)
  simp only [World.size_alloc] at T5n
  have T5 := Lib.hid T5n
  clear T5n
  have B6 := Lib.hid (B3.out.alloc B3.out.size (.cells #[(.slice b.A b.xs.length b.c)] 41))
  have T7 := Lib.hid (T4.out.old (.cells #[(.slice c.A c.xs.length c.c)] 41))
  have T8 := Lib.hid (T5.out.old (.cells #[(.slice c.A c.xs.length c.c)] 41))
  have T9n := BoAt.new ((w.alloc (.cells #[(.slice a.A a.xs.length a.c)] 41)).alloc (.cells #[(.slice b.A b.xs.length b.c)] 41)) (.slice c.A c.xs.length c.c)
  simp only [World.size_alloc] at T9n
  have T9 := Lib.hid T9n
  clear T9n
  have B10 := Lib.hid (B6.out.alloc B6.out.size (.cells #[(.slice c.A c.xs.length c.c)] 41))
  have F11 := Lib.hid (Fa.out.below B10.out (Nat.le_refl _))
  have F12 := Lib.hid (Fb.out.below B10.out (Nat.le_refl _))
  have F13 := Lib.hid (Fc.out.below B10.out (Nat.le_refl _))
  go_enter Tryd.func5, Tryd.ntmps5
  have C14 := Lib.hid (bkAwake (((w.alloc (.cells #[(.slice a.A a.xs.length a.c)] 41)).alloc (.cells #[(.slice b.A b.xs.length b.c)] 41)).alloc (.cells #[(.slice c.A c.xs.length c.c)] 41)) (HLA.out _ B10.out))
  go_wp2_with fail
  refine C14.out.mono ?_
  rintro e w15 ⟨rfl, hb16⟩
  have T17 := Lib.hid (T7.out.below hb16 T7.out.lt)
  have T18 := Lib.hid (T8.out.below hb16 T8.out.lt)
  have T19 := Lib.hid (T9.out.below hb16 T9.out.lt)
  have F20 := Lib.hid (F11.out.below hb16 (Nat.le_refl _))
  have F21 := Lib.hid (F12.out.below hb16 (Nat.le_refl _))
  have F22 := Lib.hid (F13.out.below hb16 (Nat.le_refl _))
  have B23 := Lib.hid (B10.out.trans (hb16.mono B10.out.size))
  clear hb16
  have M24 := Lib.hid (T17.out.load)
  have C25 := Lib.hid (fewB_any a w15 F20.out)
  rw [PA.out] at C25
  go_wp2_with (first | ((with_reducible refine wpList_load_by (o := ⟨some 15, .load 41 (.tmp 3), _, _, _, _⟩) ?e1 41 (.tmp 3) ?e2 ⟨w.heap.size, 0, none⟩ ?e3 _ M24.out ?_); (case e1 => rfl); (case e2 => rfl); (case e3 => rfl)))
  refine C25.out.mono ?_
  rintro e w26 ⟨rfl, hb27⟩
  have T28 := Lib.hid (T17.out.below hb27 T17.out.lt)
  have T29 := Lib.hid (T18.out.below hb27 T18.out.lt)
  have T30 := Lib.hid (T19.out.below hb27 T19.out.lt)
  have F31 := Lib.hid (F20.out.below hb27 (Nat.le_refl _))
  have F32 := Lib.hid (F21.out.below hb27 (Nat.le_refl _))
  have F33 := Lib.hid (F22.out.below hb27 (Nat.le_refl _))
  have B34 := Lib.hid (B23.out.trans (hb27.mono B23.out.size))
  clear hb27
  have M35 := Lib.hid (T29.out.load)
  have C36 := Lib.hid (fewB_any b w26 F32.out)
  rw [PB.out] at C36
  go_wp2_with (first | ((with_reducible refine wpList_load_by (o := ⟨some 17, .load 41 (.tmp 4), _, _, _, _⟩) ?e1 41 (.tmp 4) ?e2 ⟨(w.heap.size + 1), 0, none⟩ ?e3 _ M35.out ?_); (case e1 => rfl); (case e2 => rfl); (case e3 => rfl)))
  refine C36.out.mono ?_
  rintro e w37 ⟨rfl, hb38⟩
  have T39 := Lib.hid (T28.out.below hb38 T28.out.lt)
  have T40 := Lib.hid (T29.out.below hb38 T29.out.lt)
  have T41 := Lib.hid (T30.out.below hb38 T30.out.lt)
  have F42 := Lib.hid (F31.out.below hb38 (Nat.le_refl _))
  have F43 := Lib.hid (F32.out.below hb38 (Nat.le_refl _))
  have F44 := Lib.hid (F33.out.below hb38 (Nat.le_refl _))
  have B45 := Lib.hid (B34.out.trans (hb38.mono B34.out.size))
  clear hb38
  have M46 := Lib.hid (T41.out.load)
  have C47 := Lib.hid (fewB_any c w37 F44.out)
  rw [PC.out] at C47
  go_wp2_with (first | ((with_reducible refine wpList_load_by (o := ⟨some 19, .load 41 (.tmp 5), _, _, _, _⟩) ?e1 41 (.tmp 5) ?e2 ⟨(w.heap.size + 1 + 1), 0, none⟩ ?e3 _ M46.out ?_); (case e1 => rfl); (case e2 => rfl); (case e3 => rfl)))
  refine C47.out.mono ?_
  rintro e w48 ⟨rfl, hb49⟩
  have T50 := Lib.hid (T39.out.below hb49 T39.out.lt)
  have T51 := Lib.hid (T40.out.below hb49 T40.out.lt)
  have T52 := Lib.hid (T41.out.below hb49 T41.out.lt)
  have F53 := Lib.hid (F42.out.below hb49 (Nat.le_refl _))
  have F54 := Lib.hid (F43.out.below hb49 (Nat.le_refl _))
  have F55 := Lib.hid (F44.out.below hb49 (Nat.le_refl _))
  have B56 := Lib.hid (B45.out.trans (hb49.mono B45.out.size))
  clear hb49
  have M57 := Lib.hid (T50.out.load)
  have M58 := Lib.hid (T51.out.load)
  have C59 := Lib.hid (bleq_any a b w48 (HLA.out _ B56.out) F53.out F54.out)
  rw [AB.out] at C59
  go_wp2_with (first | ((with_reducible refine wpList_load_by (o := ⟨some 36, .load 41 (.tmp 3), _, _, _, _⟩) ?e1 41 (.tmp 3) ?e2 ⟨w.heap.size, 0, none⟩ ?e3 _ M57.out ?_); (case e1 => rfl); (case e2 => rfl); (case e3 => rfl)) | ((with_reducible refine wpList_load_by (o := ⟨some 37, .load 41 (.tmp 4), _, _, _, _⟩) ?e1 41 (.tmp 4) ?e2 ⟨(w.heap.size + 1), 0, none⟩ ?e3 _ M58.out ?_); (case e1 => rfl); (case e2 => rfl); (case e3 => rfl)))
  refine C59.out.mono ?_
  rintro e w60 ⟨rfl, hb61⟩
  have T62 := Lib.hid (T50.out.below hb61 T50.out.lt)
  have T63 := Lib.hid (T51.out.below hb61 T51.out.lt)
  have T64 := Lib.hid (T52.out.below hb61 T52.out.lt)
  have F65 := Lib.hid (F53.out.below hb61 (Nat.le_refl _))
  have F66 := Lib.hid (F54.out.below hb61 (Nat.le_refl _))
  have F67 := Lib.hid (F55.out.below hb61 (Nat.le_refl _))
  have B68 := Lib.hid (B56.out.trans (hb61.mono B56.out.size))
  clear hb61
  have M69 := Lib.hid (T63.out.load)
  have M70 := Lib.hid (T62.out.load)
  have C71 := Lib.hid (bleq_any b a w60 (HLA.out _ B68.out) F66.out F65.out)
  rw [BA.out] at C71
  go_wp2_with (first | ((with_reducible refine wpList_load_by (o := ⟨some 39, .load 41 (.tmp 4), _, _, _, _⟩) ?e1 41 (.tmp 4) ?e2 ⟨(w.heap.size + 1), 0, none⟩ ?e3 _ M69.out ?_); (case e1 => rfl); (case e2 => rfl); (case e3 => rfl)) | ((with_reducible refine wpList_load_by (o := ⟨some 40, .load 41 (.tmp 3), _, _, _, _⟩) ?e1 41 (.tmp 3) ?e2 ⟨w.heap.size, 0, none⟩ ?e3 _ M70.out ?_); (case e1 => rfl); (case e2 => rfl); (case e3 => rfl)))
  refine C71.out.mono ?_
  rintro e w72 ⟨rfl, hb73⟩
  have T74 := Lib.hid (T62.out.below hb73 T62.out.lt)
  have T75 := Lib.hid (T63.out.below hb73 T63.out.lt)
  have T76 := Lib.hid (T64.out.below hb73 T64.out.lt)
  have F77 := Lib.hid (F65.out.below hb73 (Nat.le_refl _))
  have F78 := Lib.hid (F66.out.below hb73 (Nat.le_refl _))
  have F79 := Lib.hid (F67.out.below hb73 (Nat.le_refl _))
  have B80 := Lib.hid (B68.out.trans (hb73.mono B68.out.size))
  clear hb73
  have M81 := Lib.hid (T75.out.load)
  have M82 := Lib.hid (T76.out.load)
  have C83 := Lib.hid (bleq_any b c w72 (HLA.out _ B80.out) F78.out F79.out)
  rw [BC.out] at C83
  go_wp2_with (first | ((with_reducible refine wpList_load_by (o := ⟨some 42, .load 41 (.tmp 4), _, _, _, _⟩) ?e1 41 (.tmp 4) ?e2 ⟨(w.heap.size + 1), 0, none⟩ ?e3 _ M81.out ?_); (case e1 => rfl); (case e2 => rfl); (case e3 => rfl)) | ((with_reducible refine wpList_load_by (o := ⟨some 43, .load 41 (.tmp 5), _, _, _, _⟩) ?e1 41 (.tmp 5) ?e2 ⟨(w.heap.size + 1 + 1), 0, none⟩ ?e3 _ M82.out ?_); (case e1 => rfl); (case e2 => rfl); (case e3 => rfl)))
  refine C83.out.mono ?_
  rintro e w84 ⟨rfl, hb85⟩
  have T86 := Lib.hid (T74.out.below hb85 T74.out.lt)
  have T87 := Lib.hid (T75.out.below hb85 T75.out.lt)
  have T88 := Lib.hid (T76.out.below hb85 T76.out.lt)
  have F89 := Lib.hid (F77.out.below hb85 (Nat.le_refl _))
  have F90 := Lib.hid (F78.out.below hb85 (Nat.le_refl _))
  have F91 := Lib.hid (F79.out.below hb85 (Nat.le_refl _))
  have B92 := Lib.hid (B80.out.trans (hb85.mono B80.out.size))
  clear hb85
  have U93 := Lib.hid (fun (w9 : World) (hS : Below w84.heap.size w84 w9) => bleq_any a a w9 (HLA.out _ (B92.out.trans (hS.mono B92.out.size))) (F89.out.below hS (Nat.le_refl _)) (F89.out.below hS (Nat.le_refl _)))
  rw [AA.out] at U93
  have U94 := Lib.hid (fun (w9 : World) (hS : Below w84.heap.size w84 w9) => bmay_any a w9 (F89.out.below hS (Nat.le_refl _)))
  rw [MA.out] at U94
  have U95 := Lib.hid (fun (w9 : World) (hS : Below w84.heap.size w84 w9) => bsame_any a b w9 (F89.out.below hS (Nat.le_refl _)) (F90.out.below hS (Nat.le_refl _)))
  rw [SAB.out] at U95
  have U96 := Lib.hid (fun (w9 : World) (hS : Below w84.heap.size w84 w9) => bleq_any a c w9 (HLA.out _ (B92.out.trans (hS.mono B92.out.size))) (F89.out.below hS (Nat.le_refl _)) (F91.out.below hS (Nat.le_refl _)))
  rw [AC.out] at U96
  go_wp2_with fail
  refine wp_region_G w84 (by kernel_rfl) ?_
  refine wpG_take (i := 0) (oi := ⟨some 45, _, _, _, _, _⟩) (v := (.agg #[(.slice a.A a.xs.length a.c)])) rfl (by kernel_rfl) (by kernel_rfl) (by kernel_rfl) (Or.inl ⟨by rfl, unib_val ?_⟩) ?_; (focus (intro w9 hSw; exact exec_load_by 41 _ rfl ⟨w.heap.size, 0, none⟩ rfl (T86.out.below hSw T86.out.lt).load)); simp only [Act.put, List.setIfInBounds_toArray, List.set_cons_zero, List.set_cons_succ]
  refine wpG_take (i := 1) (oi := ⟨some 46, _, _, _, _, _⟩) (v := (.agg #[(.slice a.A a.xs.length a.c)])) rfl (by kernel_rfl) (by kernel_rfl) (by kernel_rfl) (Or.inl ⟨by rfl, unib_val ?_⟩) ?_; (focus (intro w9 hSw; exact exec_load_by 41 _ rfl ⟨w.heap.size, 0, none⟩ rfl (T86.out.below hSw T86.out.lt).load)); simp only [Act.put, List.setIfInBounds_toArray, List.set_cons_zero, List.set_cons_succ]
  refine wpG_take (i := 2) (oi := ⟨some 47, _, _, _, _, _⟩) rfl (by kernel_rfl) (by kernel_rfl) (by kernel_rfl) (Or.inl ⟨by rfl, unib_call_if ?_ (fun w9 hS => U93.out w9 hS)⟩) ?_; (focus (intro w9 hSw; go_simp; try with_reducible rfl)); simp only [Act.put, List.setIfInBounds_toArray, List.set_cons_zero, List.set_cons_succ]
  refine wpG_take (i := 3) (oi := ⟨some 48, _, _, _, _, _⟩) (v := (.agg #[(.slice a.A a.xs.length a.c)])) rfl (by kernel_rfl) (by kernel_rfl) (by kernel_rfl) (Or.inl ⟨by rfl, unib_val ?_⟩) ?_; (focus (intro w9 hSw; exact exec_load_by 41 _ rfl ⟨w.heap.size, 0, none⟩ rfl (T86.out.below hSw T86.out.lt).load)); simp only [Act.put, List.setIfInBounds_toArray, List.set_cons_zero, List.set_cons_succ]
  refine wpG_take (i := 4) (oi := ⟨some 49, _, _, _, _, _⟩) rfl (by kernel_rfl) (by kernel_rfl) (by kernel_rfl) (Or.inl ⟨by rfl, unib_call_if ?_ (fun w9 hS => U94.out w9 hS)⟩) ?_; (focus (intro w9 hSw; go_simp; try with_reducible rfl)); simp only [Act.put, List.setIfInBounds_toArray, List.set_cons_zero, List.set_cons_succ]
  refine wpG_take (i := 5) (oi := ⟨some 50, _, _, _, _, _⟩) (v := ?_) rfl (by kernel_rfl) (by kernel_rfl) (by kernel_rfl) (Or.inl ⟨by rfl, unib_val ?_⟩) ?_; rotate_left; (focus (intro w9 hSw; have q0 := EQB.out; go_simp; try with_reducible rfl)); simp only [Act.put, List.setIfInBounds_toArray, List.set_cons_zero, List.set_cons_succ]
  refine wpG_take (i := 6) (oi := ⟨some 51, _, _, _, _, _⟩) (v := ?_) rfl (by kernel_rfl) (by kernel_rfl) (by kernel_rfl) (Or.inl ⟨by rfl, unib_val ?_⟩) ?_; rotate_left; (focus (intro w9 hSw; go_simp; try with_reducible rfl)); simp only [Act.put, List.setIfInBounds_toArray, List.set_cons_zero, List.set_cons_succ]
  refine wpG_take (i := 7) (oi := ⟨some 52, _, _, _, _, _⟩) (v := ?_) rfl (by kernel_rfl) (by kernel_rfl) (by kernel_rfl) (Or.inl ⟨by rfl, unib_val ?_⟩) ?_; rotate_left; (focus (intro w9 hSw; go_simp; try with_reducible rfl)); simp only [Act.put, List.setIfInBounds_toArray, List.set_cons_zero, List.set_cons_succ]
  refine wpG_take (i := 8) (oi := ⟨some 53, _, _, _, _, _⟩) (v := ?_) rfl (by kernel_rfl) (by kernel_rfl) (by kernel_rfl) (Or.inl ⟨by rfl, unib_val ?_⟩) ?_; rotate_left; (focus (intro w9 hSw; go_simp; try with_reducible rfl)); simp only [Act.put, List.setIfInBounds_toArray, List.set_cons_zero, List.set_cons_succ]
  refine wpG_take (i := 9) (oi := ⟨some 54, _, _, _, _, _⟩) (v := ?_) rfl (by kernel_rfl) (by kernel_rfl) (by kernel_rfl) (Or.inl ⟨by rfl, unib_val ?_⟩) ?_; rotate_left; (focus (intro w9 hSw; go_simp; try with_reducible rfl)); simp only [Act.put, List.setIfInBounds_toArray, List.set_cons_zero, List.set_cons_succ]
  refine wpG_take (i := 10) (oi := ⟨some 55, _, _, _, _, _⟩) (v := ?_) rfl (by kernel_rfl) (by kernel_rfl) (by kernel_rfl) (Or.inl ⟨by rfl, unib_val ?_⟩) ?_; rotate_left; (focus (intro w9 hSw; go_simp; try with_reducible rfl)); simp only [Act.put, List.setIfInBounds_toArray, List.set_cons_zero, List.set_cons_succ]
  refine wpG_take (i := 11) (oi := ⟨some 56, _, _, _, _, _⟩) (v := ?_) rfl (by kernel_rfl) (by kernel_rfl) (by kernel_rfl) (Or.inl ⟨by rfl, unib_val ?_⟩) ?_; rotate_left; (focus (intro w9 hSw; go_simp; try with_reducible rfl)); simp only [Act.put, List.setIfInBounds_toArray, List.set_cons_zero, List.set_cons_succ]
  refine wpG_take (i := 12) (oi := ⟨some 57, _, _, _, _, _⟩) (v := ?_) rfl (by kernel_rfl) (by kernel_rfl) (by kernel_rfl) (Or.inl ⟨by rfl, unib_val ?_⟩) ?_; rotate_left; (focus (intro w9 hSw; go_simp; try with_reducible rfl)); simp only [Act.put, List.setIfInBounds_toArray, List.set_cons_zero, List.set_cons_succ]
  refine wpG_take (i := 13) (oi := ⟨some 58, _, _, _, _, _⟩) (v := ?_) rfl (by kernel_rfl) (by kernel_rfl) (by kernel_rfl) (Or.inl ⟨by rfl, unib_val ?_⟩) ?_; rotate_left; (focus (intro w9 hSw; go_simp; try with_reducible rfl)); simp only [Act.put, List.setIfInBounds_toArray, List.set_cons_zero, List.set_cons_succ]
  refine wpG_take (i := 14) (oi := ⟨some 59, _, _, _, _, _⟩) (v := (.agg #[(.slice a.A a.xs.length a.c)])) rfl (by kernel_rfl) (by kernel_rfl) (by kernel_rfl) (Or.inl ⟨by rfl, unib_val ?_⟩) ?_; (focus (intro w9 hSw; exact exec_load_by 41 _ rfl ⟨w.heap.size, 0, none⟩ rfl (T86.out.below hSw T86.out.lt).load)); simp only [Act.put, List.setIfInBounds_toArray, List.set_cons_zero, List.set_cons_succ]
  refine wpG_take (i := 15) (oi := ⟨some 60, _, _, _, _, _⟩) (v := (.agg #[(.slice b.A b.xs.length b.c)])) rfl (by kernel_rfl) (by kernel_rfl) (by kernel_rfl) (Or.inl ⟨by rfl, unib_val ?_⟩) ?_; (focus (intro w9 hSw; exact exec_load_by 41 _ rfl ⟨(w.heap.size + 1), 0, none⟩ rfl (T87.out.below hSw T87.out.lt).load)); simp only [Act.put, List.setIfInBounds_toArray, List.set_cons_zero, List.set_cons_succ]
  refine wpG_take (i := 16) (oi := ⟨some 61, _, _, _, _, _⟩) rfl (by kernel_rfl) (by kernel_rfl) (by kernel_rfl) (Or.inl ⟨by rfl, unib_call_if ?_ (fun w9 hS => U95.out w9 hS)⟩) ?_; (focus (intro w9 hSw; go_simp; try with_reducible rfl)); simp only [Act.put, List.setIfInBounds_toArray, List.set_cons_zero, List.set_cons_succ]
  refine wpG_take (i := 17) (oi := ⟨some 62, _, _, _, _, _⟩) (v := ?_) rfl (by kernel_rfl) (by kernel_rfl) (by kernel_rfl) (Or.inl ⟨by rfl, unib_val ?_⟩) ?_; rotate_left; (focus (intro w9 hSw; go_simp; try with_reducible rfl)); simp only [Act.put, List.setIfInBounds_toArray, List.set_cons_zero, List.set_cons_succ]
  refine wpG_take (i := 18) (oi := ⟨some 63, _, _, _, _, _⟩) (v := ?_) rfl (by kernel_rfl) (by kernel_rfl) (by kernel_rfl) (Or.inl ⟨by rfl, unib_val ?_⟩) ?_; rotate_left; (focus (intro w9 hSw; go_simp; try with_reducible rfl)); simp only [Act.put, List.setIfInBounds_toArray, List.set_cons_zero, List.set_cons_succ]
  refine wpG_take (i := 19) (oi := ⟨some 64, _, _, _, _, _⟩) (v := ?_) rfl (by kernel_rfl) (by kernel_rfl) (by kernel_rfl) (Or.inl ⟨by rfl, unib_val ?_⟩) ?_; rotate_left; (focus (intro w9 hSw; go_simp; try with_reducible rfl)); simp only [Act.put, List.setIfInBounds_toArray, List.set_cons_zero, List.set_cons_succ]
  refine wpG_take (i := 20) (oi := ⟨some 65, _, _, _, _, _⟩) (v := ?_) rfl (by kernel_rfl) (by kernel_rfl) (by kernel_rfl) (Or.inl ⟨by rfl, unib_val ?_⟩) ?_; rotate_left; (focus (intro w9 hSw; go_simp; try with_reducible rfl)); simp only [Act.put, List.setIfInBounds_toArray, List.set_cons_zero, List.set_cons_succ]
  refine wpG_take (i := 21) (oi := ⟨some 66, _, _, _, _, _⟩) (v := ?_) rfl (by kernel_rfl) (by kernel_rfl) (by kernel_rfl) (Or.inl ⟨by rfl, unib_val ?_⟩) ?_; rotate_left; (focus (intro w9 hSw; go_simp; try with_reducible rfl)); simp only [Act.put, List.setIfInBounds_toArray, List.set_cons_zero, List.set_cons_succ]
  refine wpG_take (i := 22) (oi := ⟨some 67, _, _, _, _, _⟩) (v := ?_) rfl (by kernel_rfl) (by kernel_rfl) (by kernel_rfl) (Or.inl ⟨by rfl, unib_val ?_⟩) ?_; rotate_left; (focus (intro w9 hSw; go_simp; try with_reducible rfl)); simp only [Act.put, List.setIfInBounds_toArray, List.set_cons_zero, List.set_cons_succ]
  refine wpG_take (i := 23) (oi := ⟨some 68, _, _, _, _, _⟩) (v := ?_) rfl (by kernel_rfl) (by kernel_rfl) (by kernel_rfl) (Or.inl ⟨by rfl, unib_val ?_⟩) ?_; rotate_left; (focus (intro w9 hSw; go_simp; try with_reducible rfl)); simp only [Act.put, List.setIfInBounds_toArray, List.set_cons_zero, List.set_cons_succ]
  refine wpG_take (i := 24) (oi := ⟨some 69, _, _, _, _, _⟩) (v := ?_) rfl (by kernel_rfl) (by kernel_rfl) (by kernel_rfl) (Or.inl ⟨by rfl, unib_val ?_⟩) ?_; rotate_left; (focus (intro w9 hSw; go_simp; try with_reducible rfl)); simp only [Act.put, List.setIfInBounds_toArray, List.set_cons_zero, List.set_cons_succ]
  refine wpG_take (i := 25) (oi := ⟨some 70, _, _, _, _, _⟩) (v := ?_) rfl (by kernel_rfl) (by kernel_rfl) (by kernel_rfl) (Or.inl ⟨by rfl, unib_val ?_⟩) ?_; rotate_left; (focus (intro w9 hSw; go_simp; try with_reducible rfl)); simp only [Act.put, List.setIfInBounds_toArray, List.set_cons_zero, List.set_cons_succ]
  refine wpG_take (i := 26) (oi := ⟨some 71, _, _, _, _, _⟩) (v := ?_) rfl (by kernel_rfl) (by kernel_rfl) (by kernel_rfl) (Or.inl ⟨by rfl, unib_val ?_⟩) ?_; rotate_left; (focus (intro w9 hSw; go_simp; try with_reducible rfl)); simp only [Act.put, List.setIfInBounds_toArray, List.set_cons_zero, List.set_cons_succ]
  refine wpG_take (i := 27) (oi := ⟨some 72, _, _, _, _, _⟩) (v := (.agg #[(.slice a.A a.xs.length a.c)])) rfl (by kernel_rfl) (by kernel_rfl) (by kernel_rfl) (Or.inl ⟨by rfl, unib_val ?_⟩) ?_; (focus (intro w9 hSw; exact exec_load_by 41 _ rfl ⟨w.heap.size, 0, none⟩ rfl (T86.out.below hSw T86.out.lt).load)); simp only [Act.put, List.setIfInBounds_toArray, List.set_cons_zero, List.set_cons_succ]
  refine wpG_take (i := 28) (oi := ⟨some 73, _, _, _, _, _⟩) (v := (.agg #[(.slice c.A c.xs.length c.c)])) rfl (by kernel_rfl) (by kernel_rfl) (by kernel_rfl) (Or.inl ⟨by rfl, unib_val ?_⟩) ?_; (focus (intro w9 hSw; exact exec_load_by 41 _ rfl ⟨(w.heap.size + 1 + 1), 0, none⟩ rfl (T88.out.below hSw T88.out.lt).load)); simp only [Act.put, List.setIfInBounds_toArray, List.set_cons_zero, List.set_cons_succ]
  refine wpG_take (i := 29) (oi := ⟨some 74, _, _, _, _, _⟩) rfl (by kernel_rfl) (by kernel_rfl) (by kernel_rfl) (Or.inl ⟨by rfl, unib_call_if ?_ (fun w9 hS => U96.out w9 hS)⟩) ?_; (focus (intro w9 hSw; go_simp; try with_reducible rfl)); simp only [Act.put, List.setIfInBounds_toArray, List.set_cons_zero, List.set_cons_succ]
  refine wpG_take (i := 30) (oi := ⟨some 75, _, _, _, _, _⟩) (v := ?_) rfl (by kernel_rfl) (by kernel_rfl) (by kernel_rfl) (Or.inl ⟨by rfl, unib_val ?_⟩) ?_; rotate_left; (focus (intro w9 hSw; go_simp; try with_reducible rfl)); simp only [Act.put, List.setIfInBounds_toArray, List.set_cons_zero, List.set_cons_succ]
  refine wpG_take (i := 31) (oi := ⟨some 76, _, _, _, _, _⟩) (v := ?_) rfl (by kernel_rfl) (by kernel_rfl) (by kernel_rfl) (Or.inl ⟨by rfl, unib_val ?_⟩) ?_; rotate_left; (focus (intro w9 hSw; go_simp; try with_reducible rfl)); simp only [Act.put, List.setIfInBounds_toArray, List.set_cons_zero, List.set_cons_succ]
  refine wpG_take (i := 32) (oi := ⟨some 6, _, _, _, _, _⟩) (v := ?_) rfl (by kernel_rfl) (by kernel_rfl) (by kernel_rfl) (Or.inl ⟨by rfl, unib_val ?_⟩) ?_; rotate_left; (focus (intro w9 hSw; go_simp; try with_reducible rfl)); simp only [Act.put, List.setIfInBounds_toArray, List.set_cons_zero, List.set_cons_succ]
  refine wpG_done (by kernel_rfl) ?_ _
  intro w9 hSw _
  go_wp2
  go_ret
  exact ⟨rfl, B92.out.trans (hSw.mono B92.out.size)⟩
theorem walk_bookOrder (a b c : Bk) (w : World) (hlaid : Laid w) (wa : BkAt w a) (wb : BkAt w b) (wc : BkAt w c) :
    Calls Tryd.prog 5 #[.agg #[.slice a.A a.xs.length a.c], .agg #[.slice b.A b.xs.length b.c], .agg #[.slice c.A c.xs.length c.c]] w fun e w' => e = .returned (.bool true) ∧ Below w.heap.size w w' := by
  cases p : (fewB a.rs && fewB b.rs && fewB c.rs)
  · exact border_few a b c w hlaid wa wb wc p
  · cases hab : bleq a.rs b.rs
    · exact border_f a b c w hlaid wa wb wc p hab
    · cases hba : bleq b.rs a.rs
      · cases hbc : bleq b.rs c.rs
        · exact border_tff a b c w hlaid wa wb wc p hab hba hbc
        · exact border_tft a b c w hlaid wa wb wc p hab hba hbc
      · cases hbc : bleq b.rs c.rs
        · exact border_ttf a b c w hlaid wa wb wc p hab hba hbc
        · exact border_ttt a b c w hlaid wa wb wc p hab hba hbc
end Go.Proofs.YtepapdnchpolmaaDoor

