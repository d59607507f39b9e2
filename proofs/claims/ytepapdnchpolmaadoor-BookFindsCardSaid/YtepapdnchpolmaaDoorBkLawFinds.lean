import Derived.Test.YtepapdnchpolmaaDoorBkAwake
import Derived.Test.YtepapdnchpolmaaDoorGArgs
import Derived.Test.YtepapdnchpolmaaDoorBkFew
/-
  The law BookFinds: for every two books and every name it answers true, and nothing that was there is written.
-/
namespace Go.Proofs.YtepapdnchpolmaaDoor
open Go.RowKit WM
set_option linter.unusedVariables false
set_option maxRecDepth 100000
theorem bmay_fs {d : Bk} {X : List Rc} (h : d.rs = X) (hm : bmay X = true) : ∀ x ∈ d.xs, x.R.fs.length ≤ 1000 := by
  subst h
  intro x hx
  have := rmay_len ((bmay_iff.1 hm).2.1 x.R (List.mem_map_of_mem hx))
  omega
set_option maxHeartbeats 16000000 in
theorem bfinds_few (a b : Bk) (z : List Int) (w : World) (hlaid : Laid w) (wa : BkAt w a) (wb : BkAt w b) (wz : z.length = 16 ∧ AllBytes z) (h : (fewB a.rs && fewB b.rs) = false) :
    Calls Tryd.prog 6 #[.agg #[.slice a.A a.xs.length a.c], .agg #[.slice b.A b.xs.length b.c], .agg (bvals z)] w fun e w' => e = .returned (.bool true) ∧ Below w.heap.size w w' := by
  have HLA := Lib.hid (fun (X : World) (hX : Below w.heap.size w X) => hlaid.below hX (Nat.le_refl _))
  have Fa := Lib.hid wa
  have Fb := Lib.hid wb
  have ZI := Lib.hid wz
  have hz := zeroX
  clear hlaid wa wb wz
  cases pa : fewB a.rs
  · have PA := Lib.hid pa
    clear pa h
    have B1 := Lib.hid (Below.refl w.heap.size w)
    have T2n := BoAt.new w (.slice a.A a.xs.length a.c)
    have T2 := Lib.hid T2n
    clear T2n
    have B3 := Lib.hid (B1.out.alloc B1.out.size (.cells #[(.slice a.A a.xs.length a.c)] 41))
    have T4 := Lib.hid (T2.out.old (.cells #[(.slice b.A b.xs.length b.c)] 41))
    have T5n := BoAt.new (w.alloc (.cells #[(.slice a.A a.xs.length a.c)] 41)) (.slice b.A b.xs.length b.c)
    simp only [World.size_alloc] at T5n
    have T5 := Lib.hid T5n
    clear T5n
    have B6 := Lib.hid (B3.out.alloc B3.out.size (.cells #[(.slice b.A b.xs.length b.c)] 41))
    have T7 := Lib.hid (T4.out.old (.cells (bvals z) 23))
    have T8 := Lib.hid (T5.out.old (.cells (bvals z) 23))
    have T9n := IdAt.new ((w.alloc (.cells #[(.slice a.A a.xs.length a.c)] 41)).alloc (.cells #[(.slice b.A b.xs.length b.c)] 41)) ZI.out.1
    simp only [World.size_alloc] at T9n
    have T9 := Lib.hid T9n
    clear T9n
    have B10 := Lib.hid (B6.out.alloc B6.out.size (.cells (bvals z) 23))
    have F11 := Lib.hid (Fa.out.below B10.out (Nat.le_refl _))
    have F12 := Lib.hid (Fb.out.below B10.out (Nat.le_refl _))
    go_enter Tryd.func6, Tryd.ntmps6
    have C13 := Lib.hid (bkAwake (((w.alloc (.cells #[(.slice a.A a.xs.length a.c)] 41)).alloc (.cells #[(.slice b.A b.xs.length b.c)] 41)).alloc (.cells (bvals z) 23)) (HLA.out _ B10.out))
    go_wp2_with fail
    refine C13.out.mono ?_
    rintro e w14 ⟨rfl, hb15⟩
    have T16 := Lib.hid (T7.out.below hb15 T7.out.lt)
    have T17 := Lib.hid (T8.out.below hb15 T8.out.lt)
    have T18 := Lib.hid (T9.out.below hb15 T9.out.lt)
    have F19 := Lib.hid (F11.out.below hb15 (Nat.le_refl _))
    have F20 := Lib.hid (F12.out.below hb15 (Nat.le_refl _))
    have B21 := Lib.hid (B10.out.trans (hb15.mono B10.out.size))
    clear hb15
    have M22 := Lib.hid (T16.out.load)
    have C23 := Lib.hid (fewB_any a w14 F19.out)
    rw [PA.out] at C23
    go_wp2_with (first | ((with_reducible refine wpList_load_by (o := ⟨some 21, .load 41 (.tmp 3), _, _, _, _⟩) ?e1 41 (.tmp 3) ?e2 ⟨w.heap.size, 0, none⟩ ?e3 _ M22.out ?_); (case e1 => rfl); (case e2 => rfl); (case e3 => rfl)))
    refine C23.out.mono ?_
    rintro e w24 ⟨rfl, hb25⟩
    have T26 := Lib.hid (T16.out.below hb25 T16.out.lt)
    have T27 := Lib.hid (T17.out.below hb25 T17.out.lt)
    have T28 := Lib.hid (T18.out.below hb25 T18.out.lt)
    have F29 := Lib.hid (F19.out.below hb25 (Nat.le_refl _))
    have F30 := Lib.hid (F20.out.below hb25 (Nat.le_refl _))
    have B31 := Lib.hid (B21.out.trans (hb25.mono B21.out.size))
    clear hb25
    have M32 := Lib.hid (T27.out.load)
    have C33 := Lib.hid (fewB_any b w24 F30.out)
    go_wp2_with (first | ((with_reducible refine wpList_load_by (o := ⟨some 23, .load 41 (.tmp 4), _, _, _, _⟩) ?e1 41 (.tmp 4) ?e2 ⟨(w.heap.size + 1), 0, none⟩ ?e3 _ M32.out ?_); (case e1 => rfl); (case e2 => rfl); (case e3 => rfl)))
    refine C33.out.mono ?_
    rintro e w34 ⟨rfl, hb35⟩
    have T36 := Lib.hid (T26.out.below hb35 T26.out.lt)
    have T37 := Lib.hid (T27.out.below hb35 T27.out.lt)
    have T38 := Lib.hid (T28.out.below hb35 T28.out.lt)
    have F39 := Lib.hid (F29.out.below hb35 (Nat.le_refl _))
    have F40 := Lib.hid (F30.out.below hb35 (Nat.le_refl _))
    have B41 := Lib.hid (B31.out.trans (hb35.mono B31.out.size))
    clear hb35
    have M45 := Lib.hid (T36.out.load)
    have M46 := Lib.hid (T37.out.load)
    have C47 := Lib.hid (bjoin_any a b w34 (HLA.out _ B41.out) F39.out F40.out)
    unfold BJoinPost at C47
    go_wp2_with (first | ((with_reducible refine wpList_load_by (o := ⟨some 26, .load 41 (.tmp 3), _, _, _, _⟩) ?e1 41 (.tmp 3) ?e2 ⟨w.heap.size, 0, none⟩ ?e3 _ M45.out ?_); (case e1 => rfl); (case e2 => rfl); (case e3 => rfl)) | ((with_reducible refine wpList_load_by (o := ⟨some 27, .load 41 (.tmp 4), _, _, _, _⟩) ?e1 41 (.tmp 4) ?e2 ⟨(w.heap.size + 1), 0, none⟩ ?e3 _ M46.out ?_); (case e1 => rfl); (case e2 => rfl); (case e3 => rfl)))
    refine C47.out.mono ?_
    rintro e w48 ⟨d42, rfl, hd43, hk44, hb49⟩
    have T50 := Lib.hid (T36.out.below hb49 T36.out.lt)
    have T51 := Lib.hid (T37.out.below hb49 T37.out.lt)
    have T52 := Lib.hid (T38.out.below hb49 T38.out.lt)
    have F53 := Lib.hid (F39.out.below hb49 (Nat.le_refl _))
    have F54 := Lib.hid (F40.out.below hb49 (Nat.le_refl _))
    have B55 := Lib.hid (B41.out.trans (hb49.mono B41.out.size))
    clear hb49
    have E56 := Lib.hid (hd43)
    have F57 := Lib.hid (hk44)
    clear hd43 hk44
    have hb58 := (Below.refl w48.heap.size w48).alloc (Nat.le_refl _) (.cells #[(.slice d42.A d42.xs.length d42.c)] 41)
    have T59 := Lib.hid (BoAt.new w48 (.slice d42.A d42.xs.length d42.c))
    have T60 := Lib.hid (T50.out.below hb58 T50.out.lt)
    have T61 := Lib.hid (T51.out.below hb58 T51.out.lt)
    have T62 := Lib.hid (T52.out.below hb58 T52.out.lt)
    have F63 := Lib.hid (F53.out.below hb58 (Nat.le_refl _))
    have F64 := Lib.hid (F54.out.below hb58 (Nat.le_refl _))
    have F65 := Lib.hid (F57.out.below hb58 (Nat.le_refl _))
    have B66 := Lib.hid (B55.out.trans (hb58.mono B55.out.size))
    clear hb58
    go_wp2
    go_ret
    exact ⟨rfl, B66.out⟩
  · rw [pa] at h
    have PA := Lib.hid pa
    have PB := Lib.hid (show fewB b.rs = false by simpa using h)
    clear pa h
    have B1 := Lib.hid (Below.refl w.heap.size w)
    have T2n := BoAt.new w (.slice a.A a.xs.length a.c)
    have T2 := Lib.hid T2n
    clear T2n
    have B3 := Lib.hid (B1.out.alloc B1.out.size (.cells #[(.slice a.A a.xs.length a.c)] 41))
    have T4 := Lib.hid (T2.out.old (.cells #[(.slice b.A b.xs.length b.c)] 41))
    have T5n := BoAt.new (w.alloc (.cells #[(.slice a.A a.xs.length a.c)] 41)) (.slice b.A b.xs.length b.c)
    simp only [World.size_alloc] at T5n
    have T5 := Lib.hid T5n
    clear T5n
    have B6 := Lib.hid (B3.out.alloc B3.out.size (.cells #[(.slice b.A b.xs.length b.c)] 41))
    have T7 := Lib.hid (T4.out.old (.cells (bvals z) 23))
    have T8 := Lib.hid (T5.out.old (.cells (bvals z) 23))
    have T9n := IdAt.new ((w.alloc (.cells #[(.slice a.A a.xs.length a.c)] 41)).alloc (.cells #[(.slice b.A b.xs.length b.c)] 41)) ZI.out.1
    simp only [World.size_alloc] at T9n
    have T9 := Lib.hid T9n
    clear T9n
    have B10 := Lib.hid (B6.out.alloc B6.out.size (.cells (bvals z) 23))
    have F11 := Lib.hid (Fa.out.below B10.out (Nat.le_refl _))
    have F12 := Lib.hid (Fb.out.below B10.out (Nat.le_refl _))
    go_enter Tryd.func6, Tryd.ntmps6
    have C13 := Lib.hid (bkAwake (((w.alloc (.cells #[(.slice a.A a.xs.length a.c)] 41)).alloc (.cells #[(.slice b.A b.xs.length b.c)] 41)).alloc (.cells (bvals z) 23)) (HLA.out _ B10.out))
    go_wp2_with fail
    refine C13.out.mono ?_
    rintro e w14 ⟨rfl, hb15⟩
    have T16 := Lib.hid (T7.out.below hb15 T7.out.lt)
    have T17 := Lib.hid (T8.out.below hb15 T8.out.lt)
    have T18 := Lib.hid (T9.out.below hb15 T9.out.lt)
    have F19 := Lib.hid (F11.out.below hb15 (Nat.le_refl _))
    have F20 := Lib.hid (F12.out.below hb15 (Nat.le_refl _))
    have B21 := Lib.hid (B10.out.trans (hb15.mono B10.out.size))
    clear hb15
    have M22 := Lib.hid (T16.out.load)
    have C23 := Lib.hid (fewB_any a w14 F19.out)
    rw [PA.out] at C23
    go_wp2_with (first | ((with_reducible refine wpList_load_by (o := ⟨some 21, .load 41 (.tmp 3), _, _, _, _⟩) ?e1 41 (.tmp 3) ?e2 ⟨w.heap.size, 0, none⟩ ?e3 _ M22.out ?_); (case e1 => rfl); (case e2 => rfl); (case e3 => rfl)))
    refine C23.out.mono ?_
    rintro e w24 ⟨rfl, hb25⟩
    have T26 := Lib.hid (T16.out.below hb25 T16.out.lt)
    have T27 := Lib.hid (T17.out.below hb25 T17.out.lt)
    have T28 := Lib.hid (T18.out.below hb25 T18.out.lt)
    have F29 := Lib.hid (F19.out.below hb25 (Nat.le_refl _))
    have F30 := Lib.hid (F20.out.below hb25 (Nat.le_refl _))
    have B31 := Lib.hid (B21.out.trans (hb25.mono B21.out.size))
    clear hb25
    have M32 := Lib.hid (T27.out.load)
    have C33 := Lib.hid (fewB_any b w24 F30.out)
    rw [PB.out] at C33
    go_wp2_with (first | ((with_reducible refine wpList_load_by (o := ⟨some 23, .load 41 (.tmp 4), _, _, _, _⟩) ?e1 41 (.tmp 4) ?e2 ⟨(w.heap.size + 1), 0, none⟩ ?e3 _ M32.out ?_); (case e1 => rfl); (case e2 => rfl); (case e3 => rfl)))
    refine C33.out.mono ?_
    rintro e w34 ⟨rfl, hb35⟩
    have T36 := Lib.hid (T26.out.below hb35 T26.out.lt)
    have T37 := Lib.hid (T27.out.below hb35 T27.out.lt)
    have T38 := Lib.hid (T28.out.below hb35 T28.out.lt)
    have F39 := Lib.hid (F29.out.below hb35 (Nat.le_refl _))
    have F40 := Lib.hid (F30.out.below hb35 (Nat.le_refl _))
    have B41 := Lib.hid (B31.out.trans (hb35.mono B31.out.size))
    clear hb35
    have M45 := Lib.hid (T36.out.load)
    have M46 := Lib.hid (T37.out.load)
    have C47 := Lib.hid (bjoin_any a b w34 (HLA.out _ B41.out) F39.out F40.out)
    unfold BJoinPost at C47
    go_wp2_with (first | ((with_reducible refine wpList_load_by (o := ⟨some 26, .load 41 (.tmp 3), _, _, _, _⟩) ?e1 41 (.tmp 3) ?e2 ⟨w.heap.size, 0, none⟩ ?e3 _ M45.out ?_); (case e1 => rfl); (case e2 => rfl); (case e3 => rfl)) | ((with_reducible refine wpList_load_by (o := ⟨some 27, .load 41 (.tmp 4), _, _, _, _⟩) ?e1 41 (.tmp 4) ?e2 ⟨(w.heap.size + 1), 0, none⟩ ?e3 _ M46.out ?_); (case e1 => rfl); (case e2 => rfl); (case e3 => rfl)))
    refine C47.out.mono ?_
    rintro e w48 ⟨d42, rfl, hd43, hk44, hb49⟩
    have T50 := Lib.hid (T36.out.below hb49 T36.out.lt)
    have T51 := Lib.hid (T37.out.below hb49 T37.out.lt)
    have T52 := Lib.hid (T38.out.below hb49 T38.out.lt)
    have F53 := Lib.hid (F39.out.below hb49 (Nat.le_refl _))
    have F54 := Lib.hid (F40.out.below hb49 (Nat.le_refl _))
    have B55 := Lib.hid (B41.out.trans (hb49.mono B41.out.size))
    clear hb49
    have E56 := Lib.hid (hd43)
    have F57 := Lib.hid (hk44)
    clear hd43 hk44
    have hb58 := (Below.refl w48.heap.size w48).alloc (Nat.le_refl _) (.cells #[(.slice d42.A d42.xs.length d42.c)] 41)
    have T59 := Lib.hid (BoAt.new w48 (.slice d42.A d42.xs.length d42.c))
    have T60 := Lib.hid (T50.out.below hb58 T50.out.lt)
    have T61 := Lib.hid (T51.out.below hb58 T51.out.lt)
    have T62 := Lib.hid (T52.out.below hb58 T52.out.lt)
    have F63 := Lib.hid (F53.out.below hb58 (Nat.le_refl _))
    have F64 := Lib.hid (F54.out.below hb58 (Nat.le_refl _))
    have F65 := Lib.hid (F57.out.below hb58 (Nat.le_refl _))
    have B66 := Lib.hid (B55.out.trans (hb58.mono B55.out.size))
    clear hb58
    go_wp2
    go_ret
    exact ⟨rfl, B66.out⟩
set_option maxHeartbeats 16000000 in
theorem bfinds_err1 (a b : Bk) (z : List Int) (w : World) (hlaid : Laid w) (wa : BkAt w a) (wb : BkAt w b) (wz : z.length = 16 ∧ AllBytes z) (p : (fewB a.rs && fewB b.rs) = true) (iJX : bjE a.rs b.rs = (1, [])) :
    Calls Tryd.prog 6 #[.agg #[.slice a.A a.xs.length a.c], .agg #[.slice b.A b.xs.length b.c], .agg (bvals z)] w fun e w' => e = .returned (.bool true) ∧ Below w.heap.size w w' := by
  have HLA := Lib.hid (fun (X : World) (hX : Below w.heap.size w X) => hlaid.below hX (Nat.le_refl _))
  have Fa := Lib.hid wa
  have Fb := Lib.hid wb
  have ZI := Lib.hid wz
  have hz := zeroX
  clear hlaid wa wb wz
  simp only [Bool.and_eq_true] at p
  have PA := Lib.hid p.1
  have PB := Lib.hid p.2
  have JX := Lib.hid iJX
  clear p iJX
  have B1 := Lib.hid (Below.refl w.heap.size w)
  have T2n := BoAt.new w (.slice a.A a.xs.length a.c)
  have T2 := Lib.hid T2n
  clear T2n
  have B3 := Lib.hid (B1.out.alloc B1.out.size (.cells #[(.slice a.A a.xs.length a.c)] 41))
  have T4 := Lib.hid (T2.out.old (.cells #[(.slice b.A b.xs.length b.c)] 41))
  have T5n := BoAt.new (w.alloc (.cells #[(.slice a.A a.xs.length a.c)] 41)) (.slice b.A b.xs.length b.c)
  simp only [World.size_alloc] at T5n
  have T5 := Lib.hid T5n
  clear T5n
  have B6 := Lib.hid (B3.out.alloc B3.out.size (.cells #[(.slice b.A b.xs.length b.c)] 41))
  have T7 := Lib.hid (T4.out.old (.cells (bvals z) 23))
  have T8 := Lib.hid (T5.out.old (.cells (bvals z) 23))
  have T9n := IdAt.new ((w.alloc (.cells #[(.slice a.A a.xs.length a.c)] 41)).alloc (.cells #[(.slice b.A b.xs.length b.c)] 41)) ZI.out.1
  simp only [World.size_alloc] at T9n
  have T9 := Lib.hid T9n
  clear T9n
  have B10 := Lib.hid (B6.out.alloc B6.out.size (.cells (bvals z) 23))
  have F11 := Lib.hid (Fa.out.below B10.out (Nat.le_refl _))
  have F12 := Lib.hid (Fb.out.below B10.out (Nat.le_refl _))
  go_enter Tryd.func6, Tryd.ntmps6
  have C13 := Lib.hid (bkAwake (((w.alloc (.cells #[(.slice a.A a.xs.length a.c)] 41)).alloc (.cells #[(.slice b.A b.xs.length b.c)] 41)).alloc (.cells (bvals z) 23)) (HLA.out _ B10.out))
  go_wp2_with fail
  refine C13.out.mono ?_
  rintro e w14 ⟨rfl, hb15⟩
  have T16 := Lib.hid (T7.out.below hb15 T7.out.lt)
  have T17 := Lib.hid (T8.out.below hb15 T8.out.lt)
  have T18 := Lib.hid (T9.out.below hb15 T9.out.lt)
  have F19 := Lib.hid (F11.out.below hb15 (Nat.le_refl _))
  have F20 := Lib.hid (F12.out.below hb15 (Nat.le_refl _))
  have B21 := Lib.hid (B10.out.trans (hb15.mono B10.out.size))
  clear hb15
  have M22 := Lib.hid (T16.out.load)
  have C23 := Lib.hid (fewB_any a w14 F19.out)
  rw [PA.out] at C23
  go_wp2_with (first | ((with_reducible refine wpList_load_by (o := ⟨some 21, .load 41 (.tmp 3), _, _, _, _⟩) ?e1 41 (.tmp 3) ?e2 ⟨w.heap.size, 0, none⟩ ?e3 _ M22.out ?_); (case e1 => rfl); (case e2 => rfl); (case e3 => rfl)))
  refine C23.out.mono ?_
  rintro e w24 ⟨rfl, hb25⟩
  have T26 := Lib.hid (T16.out.below hb25 T16.out.lt)
  have T27 := Lib.hid (T17.out.below hb25 T17.out.lt)
  have T28 := Lib.hid (T18.out.below hb25 T18.out.lt)
  have F29 := Lib.hid (F19.out.below hb25 (Nat.le_refl _))
  have F30 := Lib.hid (F20.out.below hb25 (Nat.le_refl _))
  have B31 := Lib.hid (B21.out.trans (hb25.mono B21.out.size))
  clear hb25
  have M32 := Lib.hid (T27.out.load)
  have C33 := Lib.hid (fewB_any b w24 F30.out)
  rw [PB.out] at C33
  go_wp2_with (first | ((with_reducible refine wpList_load_by (o := ⟨some 23, .load 41 (.tmp 4), _, _, _, _⟩) ?e1 41 (.tmp 4) ?e2 ⟨(w.heap.size + 1), 0, none⟩ ?e3 _ M32.out ?_); (case e1 => rfl); (case e2 => rfl); (case e3 => rfl)))
  refine C33.out.mono ?_
  rintro e w34 ⟨rfl, hb35⟩
  have T36 := Lib.hid (T26.out.below hb35 T26.out.lt)
  have T37 := Lib.hid (T27.out.below hb35 T27.out.lt)
  have T38 := Lib.hid (T28.out.below hb35 T28.out.lt)
  have F39 := Lib.hid (F29.out.below hb35 (Nat.le_refl _))
  have F40 := Lib.hid (F30.out.below hb35 (Nat.le_refl _))
  have B41 := Lib.hid (B31.out.trans (hb35.mono B31.out.size))
  clear hb35
  have M45 := Lib.hid (T36.out.load)
  have M46 := Lib.hid (T37.out.load)
  have C47 := Lib.hid (bjoin_any a b w34 (HLA.out _ B41.out) F39.out F40.out)
  unfold BJoinPost at C47
  rw [JX.out] at C47
  dsimp only at C47
  go_wp2_with (first | ((with_reducible refine wpList_load_by (o := ⟨some 26, .load 41 (.tmp 3), _, _, _, _⟩) ?e1 41 (.tmp 3) ?e2 ⟨w.heap.size, 0, none⟩ ?e3 _ M45.out ?_); (case e1 => rfl); (case e2 => rfl); (case e3 => rfl)) | ((with_reducible refine wpList_load_by (o := ⟨some 27, .load 41 (.tmp 4), _, _, _, _⟩) ?e1 41 (.tmp 4) ?e2 ⟨(w.heap.size + 1), 0, none⟩ ?e3 _ M46.out ?_); (case e1 => rfl); (case e2 => rfl); (case e3 => rfl)))
  refine C47.out.mono ?_
  rintro e w48 ⟨d42, rfl, hd43, hk44, hb49⟩
  have T50 := Lib.hid (T36.out.below hb49 T36.out.lt)
  have T51 := Lib.hid (T37.out.below hb49 T37.out.lt)
  have T52 := Lib.hid (T38.out.below hb49 T38.out.lt)
  have F53 := Lib.hid (F39.out.below hb49 (Nat.le_refl _))
  have F54 := Lib.hid (F40.out.below hb49 (Nat.le_refl _))
  have B55 := Lib.hid (B41.out.trans (hb49.mono B41.out.size))
  clear hb49
  have E56 := Lib.hid (hd43)
  have F57 := Lib.hid (hk44)
  clear hd43 hk44
  have hb58 := (Below.refl w48.heap.size w48).alloc (Nat.le_refl _) (.cells #[(.slice d42.A d42.xs.length d42.c)] 41)
  have T59 := Lib.hid (BoAt.new w48 (.slice d42.A d42.xs.length d42.c))
  have T60 := Lib.hid (T50.out.below hb58 T50.out.lt)
  have T61 := Lib.hid (T51.out.below hb58 T51.out.lt)
  have T62 := Lib.hid (T52.out.below hb58 T52.out.lt)
  have F63 := Lib.hid (F53.out.below hb58 (Nat.le_refl _))
  have F64 := Lib.hid (F54.out.below hb58 (Nat.le_refl _))
  have F65 := Lib.hid (F57.out.below hb58 (Nat.le_refl _))
  have B66 := Lib.hid (B55.out.trans (hb58.mono B55.out.size))
  clear hb58
  go_wp2
  go_ret
  exact ⟨rfl, B66.out⟩
set_option maxHeartbeats 16000000 in
theorem bfinds_err4 (a b : Bk) (z : List Int) (w : World) (hlaid : Laid w) (wa : BkAt w a) (wb : BkAt w b) (wz : z.length = 16 ∧ AllBytes z) (p : (fewB a.rs && fewB b.rs) = true) (iJX : bjE a.rs b.rs = (4, [])) :
    Calls Tryd.prog 6 #[.agg #[.slice a.A a.xs.length a.c], .agg #[.slice b.A b.xs.length b.c], .agg (bvals z)] w fun e w' => e = .returned (.bool true) ∧ Below w.heap.size w w' := by
  have HLA := Lib.hid (fun (X : World) (hX : Below w.heap.size w X) => hlaid.below hX (Nat.le_refl _))
  have Fa := Lib.hid wa
  have Fb := Lib.hid wb
  have ZI := Lib.hid wz
  have hz := zeroX
  clear hlaid wa wb wz
  simp only [Bool.and_eq_true] at p
  have PA := Lib.hid p.1
  have PB := Lib.hid p.2
  have JX := Lib.hid iJX
  clear p iJX
  have B1 := Lib.hid (Below.refl w.heap.size w)
  have T2n := BoAt.new w (.slice a.A a.xs.length a.c)
  have T2 := Lib.hid T2n
  clear T2n
  have B3 := Lib.hid (B1.out.alloc B1.out.size (.cells #[(.slice a.A a.xs.length a.c)] 41))
  have T4 := Lib.hid (T2.out.old (.cells #[(.slice b.A b.xs.length b.c)] 41))
  have T5n := BoAt.new (w.alloc (.cells #[(.slice a.A a.xs.length a.c)] 41)) (.slice b.A b.xs.length b.c)
  simp only [World.size_alloc] at T5n
  have T5 := Lib.hid T5n
  clear T5n
  have B6 := Lib.hid (B3.out.alloc B3.out.size (.cells #[(.slice b.A b.xs.length b.c)] 41))
  have T7 := Lib.hid (T4.out.old (.cells (bvals z) 23))
  have T8 := Lib.hid (T5.out.old (.cells (bvals z) 23))
  have T9n := IdAt.new ((w.alloc (.cells #[(.slice a.A a.xs.length a.c)] 41)).alloc (.cells #[(.slice b.A b.xs.length b.c)] 41)) ZI.out.1
  simp only [World.size_alloc] at T9n
  have T9 := Lib.hid T9n
  clear T9n
  have B10 := Lib.hid (B6.out.alloc B6.out.size (.cells (bvals z) 23))
  have F11 := Lib.hid (Fa.out.below B10.out (Nat.le_refl _))
  have F12 := Lib.hid (Fb.out.below B10.out (Nat.le_refl _))
  go_enter Tryd.func6, Tryd.ntmps6
  have C13 := Lib.hid (bkAwake (((w.alloc (.cells #[(.slice a.A a.xs.length a.c)] 41)).alloc (.cells #[(.slice b.A b.xs.length b.c)] 41)).alloc (.cells (bvals z) 23)) (HLA.out _ B10.out))
  go_wp2_with fail
  refine C13.out.mono ?_
  rintro e w14 ⟨rfl, hb15⟩
  have T16 := Lib.hid (T7.out.below hb15 T7.out.lt)
  have T17 := Lib.hid (T8.out.below hb15 T8.out.lt)
  have T18 := Lib.hid (T9.out.below hb15 T9.out.lt)
  have F19 := Lib.hid (F11.out.below hb15 (Nat.le_refl _))
  have F20 := Lib.hid (F12.out.below hb15 (Nat.le_refl _))
  have B21 := Lib.hid (B10.out.trans (hb15.mono B10.out.size))
  clear hb15
  have M22 := Lib.hid (T16.out.load)
  have C23 := Lib.hid (fewB_any a w14 F19.out)
  rw [PA.out] at C23
  go_wp2_with (first | ((with_reducible refine wpList_load_by (o := ⟨some 21, .load 41 (.tmp 3), _, _, _, _⟩) ?e1 41 (.tmp 3) ?e2 ⟨w.heap.size, 0, none⟩ ?e3 _ M22.out ?_); (case e1 => rfl); (case e2 => rfl); (case e3 => rfl)))
  refine C23.out.mono ?_
  rintro e w24 ⟨rfl, hb25⟩
  have T26 := Lib.hid (T16.out.below hb25 T16.out.lt)
  have T27 := Lib.hid (T17.out.below hb25 T17.out.lt)
  have T28 := Lib.hid (T18.out.below hb25 T18.out.lt)
  have F29 := Lib.hid (F19.out.below hb25 (Nat.le_refl _))
  have F30 := Lib.hid (F20.out.below hb25 (Nat.le_refl _))
  have B31 := Lib.hid (B21.out.trans (hb25.mono B21.out.size))
  clear hb25
  have M32 := Lib.hid (T27.out.load)
  have C33 := Lib.hid (fewB_any b w24 F30.out)
  rw [PB.out] at C33
  go_wp2_with (first | ((with_reducible refine wpList_load_by (o := ⟨some 23, .load 41 (.tmp 4), _, _, _, _⟩) ?e1 41 (.tmp 4) ?e2 ⟨(w.heap.size + 1), 0, none⟩ ?e3 _ M32.out ?_); (case e1 => rfl); (case e2 => rfl); (case e3 => rfl)))
  refine C33.out.mono ?_
  rintro e w34 ⟨rfl, hb35⟩
  have T36 := Lib.hid (T26.out.below hb35 T26.out.lt)
  have T37 := Lib.hid (T27.out.below hb35 T27.out.lt)
  have T38 := Lib.hid (T28.out.below hb35 T28.out.lt)
  have F39 := Lib.hid (F29.out.below hb35 (Nat.le_refl _))
  have F40 := Lib.hid (F30.out.below hb35 (Nat.le_refl _))
  have B41 := Lib.hid (B31.out.trans (hb35.mono B31.out.size))
  clear hb35
  have M45 := Lib.hid (T36.out.load)
  have M46 := Lib.hid (T37.out.load)
  have C47 := Lib.hid (bjoin_any a b w34 (HLA.out _ B41.out) F39.out F40.out)
  unfold BJoinPost at C47
  rw [JX.out] at C47
  dsimp only at C47
  go_wp2_with (first | ((with_reducible refine wpList_load_by (o := ⟨some 26, .load 41 (.tmp 3), _, _, _, _⟩) ?e1 41 (.tmp 3) ?e2 ⟨w.heap.size, 0, none⟩ ?e3 _ M45.out ?_); (case e1 => rfl); (case e2 => rfl); (case e3 => rfl)) | ((with_reducible refine wpList_load_by (o := ⟨some 27, .load 41 (.tmp 4), _, _, _, _⟩) ?e1 41 (.tmp 4) ?e2 ⟨(w.heap.size + 1), 0, none⟩ ?e3 _ M46.out ?_); (case e1 => rfl); (case e2 => rfl); (case e3 => rfl)))
  refine C47.out.mono ?_
  rintro e w48 ⟨d42, rfl, hd43, hk44, hb49⟩
  have T50 := Lib.hid (T36.out.below hb49 T36.out.lt)
  have T51 := Lib.hid (T37.out.below hb49 T37.out.lt)
  have T52 := Lib.hid (T38.out.below hb49 T38.out.lt)
  have F53 := Lib.hid (F39.out.below hb49 (Nat.le_refl _))
  have F54 := Lib.hid (F40.out.below hb49 (Nat.le_refl _))
  have B55 := Lib.hid (B41.out.trans (hb49.mono B41.out.size))
  clear hb49
  have E56 := Lib.hid (hd43)
  have F57 := Lib.hid (hk44)
  clear hd43 hk44
  have hb58 := (Below.refl w48.heap.size w48).alloc (Nat.le_refl _) (.cells #[(.slice d42.A d42.xs.length d42.c)] 41)
  have T59 := Lib.hid (BoAt.new w48 (.slice d42.A d42.xs.length d42.c))
  have T60 := Lib.hid (T50.out.below hb58 T50.out.lt)
  have T61 := Lib.hid (T51.out.below hb58 T51.out.lt)
  have T62 := Lib.hid (T52.out.below hb58 T52.out.lt)
  have F63 := Lib.hid (F53.out.below hb58 (Nat.le_refl _))
  have F64 := Lib.hid (F54.out.below hb58 (Nat.le_refl _))
  have F65 := Lib.hid (F57.out.below hb58 (Nat.le_refl _))
  have B66 := Lib.hid (B55.out.trans (hb58.mono B55.out.size))
  clear hb58
  go_wp2
  go_ret
  exact ⟨rfl, B66.out⟩
set_option maxHeartbeats 16000000 in
theorem bfinds_00 (a b : Bk) (z : List Int) (w : World) (hlaid : Laid w) (wa : BkAt w a) (wb : BkAt w b) (wz : z.length = 16 ∧ AllBytes z) (p : (fewB a.rs && fewB b.rs) = true) (X : List Rc) (r1 r2 : Rc) (iJX : bjE a.rs b.rs = (0, X)) (iMX : bmay X = true) (iBA : bat a.rs z = none) (iBB : bat b.rs z = none) (iBJ : bat X z = none) :
    Calls Tryd.prog 6 #[.agg #[.slice a.A a.xs.length a.c], .agg #[.slice b.A b.xs.length b.c], .agg (bvals z)] w fun e w' => e = .returned (.bool true) ∧ Below w.heap.size w w' := by
  have HLA := Lib.hid (fun (X : World) (hX : Below w.heap.size w X) => hlaid.below hX (Nat.le_refl _))
  have Fa := Lib.hid wa
  have Fb := Lib.hid wb
  have ZI := Lib.hid wz
  have hz := zeroX
  clear hlaid wa wb wz
  simp only [Bool.and_eq_true] at p
  have PA := Lib.hid p.1
  have PB := Lib.hid p.2
  have ZA := Lib.hid (fewB_fs p.1).2
  have ZB := Lib.hid (fewB_fs p.2).2
  have JX := Lib.hid iJX
  have MX := Lib.hid iMX
  have BA := Lib.hid iBA
  have BB := Lib.hid iBB
  have BJ := Lib.hid iBJ
  clear p iJX iMX iBA iBB iBJ
  have B1 := Lib.hid (Below.refl w.heap.size w)
  have T2n := BoAt.new w (.slice a.A a.xs.length a.c)
  have T2 := Lib.hid T2n
  clear T2n
  have B3 := Lib.hid (B1.out.alloc B1.out.size (.cells #[(.slice a.A a.xs.length a.c)] 41))
  have T4 := Lib.hid (T2.out.old (.cells #[(.slice b.A b.xs.length b.c)] 41))
  have T5n := BoAt.new (w.alloc (.cells #[(.slice a.A a.xs.length a.c)] 41)) (.slice b.A b.xs.length b.c)
  simp only [World.size_alloc] at T5n
  have T5 := Lib.hid T5n
  clear T5n
  have B6 := Lib.hid (B3.out.alloc B3.out.size (.cells #[(.slice b.A b.xs.length b.c)] 41))
  have T7 := Lib.hid (T4.out.old (.cells (bvals z) 23))
  have T8 := Lib.hid (T5.out.old (.cells (bvals z) 23))
  have T9n := IdAt.new ((w.alloc (.cells #[(.slice a.A a.xs.length a.c)] 41)).alloc (.cells #[(.slice b.A b.xs.length b.c)] 41)) ZI.out.1
  simp only [World.size_alloc] at T9n
  have T9 := Lib.hid T9n
  clear T9n
  have B10 := Lib.hid (B6.out.alloc B6.out.size (.cells (bvals z) 23))
  have F11 := Lib.hid (Fa.out.below B10.out (Nat.le_refl _))
  have F12 := Lib.hid (Fb.out.below B10.out (Nat.le_refl _))
  go_enter Tryd.func6, Tryd.ntmps6
  have C13 := Lib.hid (bkAwake (((w.alloc (.cells #[(.slice a.A a.xs.length a.c)] 41)).alloc (.cells #[(.slice b.A b.xs.length b.c)] 41)).alloc (.cells (bvals z) 23)) (HLA.out _ B10.out))
  go_wp2_with fail
  refine C13.out.mono ?_
  rintro e w14 ⟨rfl, hb15⟩
  have T16 := Lib.hid (T7.out.below hb15 T7.out.lt)
  have T17 := Lib.hid (T8.out.below hb15 T8.out.lt)
  have T18 := Lib.hid (T9.out.below hb15 T9.out.lt)
  have F19 := Lib.hid (F11.out.below hb15 (Nat.le_refl _))
  have F20 := Lib.hid (F12.out.below hb15 (Nat.le_refl _))
  have B21 := Lib.hid (B10.out.trans (hb15.mono B10.out.size))
  clear hb15
  have M22 := Lib.hid (T16.out.load)
  have C23 := Lib.hid (fewB_any a w14 F19.out)
  rw [PA.out] at C23
  go_wp2_with (first | ((with_reducible refine wpList_load_by (o := ⟨some 21, .load 41 (.tmp 3), _, _, _, _⟩) ?e1 41 (.tmp 3) ?e2 ⟨w.heap.size, 0, none⟩ ?e3 _ M22.out ?_); (case e1 => rfl); (case e2 => rfl); (case e3 => rfl)))
  refine C23.out.mono ?_
  rintro e w24 ⟨rfl, hb25⟩
  have T26 := Lib.hid (T16.out.below hb25 T16.out.lt)
  have T27 := Lib.hid (T17.out.below hb25 T17.out.lt)
  have T28 := Lib.hid (T18.out.below hb25 T18.out.lt)
  have F29 := Lib.hid (F19.out.below hb25 (Nat.le_refl _))
  have F30 := Lib.hid (F20.out.below hb25 (Nat.le_refl _))
  have B31 := Lib.hid (B21.out.trans (hb25.mono B21.out.size))
  clear hb25
  have M32 := Lib.hid (T27.out.load)
  have C33 := Lib.hid (fewB_any b w24 F30.out)
  rw [PB.out] at C33
  go_wp2_with (first | ((with_reducible refine wpList_load_by (o := ⟨some 23, .load 41 (.tmp 4), _, _, _, _⟩) ?e1 41 (.tmp 4) ?e2 ⟨(w.heap.size + 1), 0, none⟩ ?e3 _ M32.out ?_); (case e1 => rfl); (case e2 => rfl); (case e3 => rfl)))
  refine C33.out.mono ?_
  rintro e w34 ⟨rfl, hb35⟩
  have T36 := Lib.hid (T26.out.below hb35 T26.out.lt)
  have T37 := Lib.hid (T27.out.below hb35 T27.out.lt)
  have T38 := Lib.hid (T28.out.below hb35 T28.out.lt)
  have F39 := Lib.hid (F29.out.below hb35 (Nat.le_refl _))
  have F40 := Lib.hid (F30.out.below hb35 (Nat.le_refl _))
  have B41 := Lib.hid (B31.out.trans (hb35.mono B31.out.size))
  clear hb35
  have M45 := Lib.hid (T36.out.load)
  have M46 := Lib.hid (T37.out.load)
  have C47 := Lib.hid (bjoin_any a b w34 (HLA.out _ B41.out) F39.out F40.out)
  unfold BJoinPost at C47
  rw [JX.out] at C47
  dsimp only at C47
  go_wp2_with (first | ((with_reducible refine wpList_load_by (o := ⟨some 26, .load 41 (.tmp 3), _, _, _, _⟩) ?e1 41 (.tmp 3) ?e2 ⟨w.heap.size, 0, none⟩ ?e3 _ M45.out ?_); (case e1 => rfl); (case e2 => rfl); (case e3 => rfl)) | ((with_reducible refine wpList_load_by (o := ⟨some 27, .load 41 (.tmp 4), _, _, _, _⟩) ?e1 41 (.tmp 4) ?e2 ⟨(w.heap.size + 1), 0, none⟩ ?e3 _ M46.out ?_); (case e1 => rfl); (case e2 => rfl); (case e3 => rfl)))
  refine C47.out.mono ?_
  rintro e w48 ⟨d42, rfl, hd43, hk44, hb49⟩
  have T50 := Lib.hid (T36.out.below hb49 T36.out.lt)
  have T51 := Lib.hid (T37.out.below hb49 T37.out.lt)
  have T52 := Lib.hid (T38.out.below hb49 T38.out.lt)
  have F53 := Lib.hid (F39.out.below hb49 (Nat.le_refl _))
  have F54 := Lib.hid (F40.out.below hb49 (Nat.le_refl _))
  have B55 := Lib.hid (B41.out.trans (hb49.mono B41.out.size))
  clear hb49
  have E56 := Lib.hid (hd43)
  have F57 := Lib.hid (hk44)
  clear hd43 hk44
  have hb58 := (Below.refl w48.heap.size w48).alloc (Nat.le_refl _) (.cells #[(.slice d42.A d42.xs.length d42.c)] 41)
  have T59 := Lib.hid (BoAt.new w48 (.slice d42.A d42.xs.length d42.c))
  have T60 := Lib.hid (T50.out.below hb58 T50.out.lt)
  have T61 := Lib.hid (T51.out.below hb58 T51.out.lt)
  have T62 := Lib.hid (T52.out.below hb58 T52.out.lt)
  have F63 := Lib.hid (F53.out.below hb58 (Nat.le_refl _))
  have F64 := Lib.hid (F54.out.below hb58 (Nat.le_refl _))
  have F65 := Lib.hid (F57.out.below hb58 (Nat.le_refl _))
  have B66 := Lib.hid (B55.out.trans (hb58.mono B55.out.size))
  clear hb58
  have Z67 := Lib.hid (bmay_fs E56.out MX.out)
  have M71 := Lib.hid (T60.out.load)
  have M72 := Lib.hid (load_arr16 T62.out)
  have C73 := Lib.hid (bfind_any a z (w48.alloc (.cells #[(.slice d42.A d42.xs.length d42.c)] 41)) F63.out ZI.out.1 ZI.out.2 ZA.out)
  unfold BFindPost at C73
  rw [BA.out] at C73
  try dsimp only [Option.isSome_some, Option.isSome_none, Option.getD_some, Option.getD_none] at C73
  go_wp2_with (first | ((with_reducible refine wpList_load_by (o := ⟨some 47, .load 41 (.tmp 3), _, _, _, _⟩) ?e1 41 (.tmp 3) ?e2 ⟨w.heap.size, 0, none⟩ ?e3 _ M71.out ?_); (case e1 => rfl); (case e2 => rfl); (case e3 => rfl)) | ((with_reducible refine wpList_load_by (o := ⟨some 48, .load 23 (.tmp 5), _, _, _, _⟩) ?e1 23 (.tmp 5) ?e2 ⟨(w.heap.size + 1 + 1), 0, none⟩ ?e3 _ M72.out ?_); (case e1 => rfl); (case e2 => rfl); (case e3 => rfl)))
  refine C73.out.mono ?_
  rintro e w74 ⟨y68, rfl, hd69, hk70, hb75⟩
  have T76 := Lib.hid (T60.out.below hb75 T60.out.lt)
  have T77 := Lib.hid (T61.out.below hb75 T61.out.lt)
  have T78 := Lib.hid (T62.out.below hb75 T62.out.lt)
  have T79 := Lib.hid (T59.out.below hb75 T59.out.lt)
  have F80 := Lib.hid (F63.out.below hb75 (Nat.le_refl _))
  have F81 := Lib.hid (F64.out.below hb75 (Nat.le_refl _))
  have F82 := Lib.hid (F65.out.below hb75 (Nat.le_refl _))
  have B83 := Lib.hid (B66.out.trans (hb75.mono B66.out.size))
  clear hb75
  have E84 := Lib.hid (hd69)
  have F85 := Lib.hid (hk70)
  have Z86 := Lib.hid (hk70.len)
  clear hd69 hk70
  go_wp2_with (first | ((with_reducible refine wpList_store_newx (o := ⟨none, .store 28 (.tmp 12) (.tmp 50), _, _, _, _⟩) (w := w74) ?e1 (.tmp 12) (.tmp 50) ?e2 w74.heap.size ?e0 ?e3 y68 ?e4 Z86.out ?_); (case e1 => rfl); (case e2 => rfl); (case e0 => rfl); (case e3 => rfl); (case e4 => rfl); intro w90 hb91 hx92 hs93; have T94 := Lib.hid hx92; clear hx92 hs93; have T95 := Lib.hid (T76.out.below hb91 T76.out.lt); have T96 := Lib.hid (T77.out.below hb91 T77.out.lt); have T97 := Lib.hid (T78.out.below hb91 T78.out.lt); have T98 := Lib.hid (T79.out.below hb91 T79.out.lt); have F99 := Lib.hid (F80.out.below hb91 (Nat.le_refl _)); have F100 := Lib.hid (F81.out.below hb91 (Nat.le_refl _)); have F101 := Lib.hid (F82.out.below hb91 (Nat.le_refl _)); have F102 := Lib.hid (F85.out.below hb91 (Nat.le_refl _)); have B103 := Lib.hid (B83.out.trans (hb91.mono B83.out.size)); clear hb91; have M104 := Lib.hid (T96.out.load); have M105 := Lib.hid (load_arr16 T97.out); have C106 := Lib.hid (bfind_any b z w90 F100.out ZI.out.1 ZI.out.2 ZB.out); unfold BFindPost at C106; rw [BB.out] at C106; try dsimp only [Option.isSome_some, Option.isSome_none, Option.getD_some, Option.getD_none] at C106) | ((with_reducible refine wpList_load_by (o := ⟨some 53, .load 41 (.tmp 4), _, _, _, _⟩) ?e1 41 (.tmp 4) ?e2 ⟨(w.heap.size + 1), 0, none⟩ ?e3 _ M104.out ?_); (case e1 => rfl); (case e2 => rfl); (case e3 => rfl)) | ((with_reducible refine wpList_load_by (o := ⟨some 54, .load 23 (.tmp 5), _, _, _, _⟩) ?e1 23 (.tmp 5) ?e2 ⟨(w.heap.size + 1 + 1), 0, none⟩ ?e3 _ M105.out ?_); (case e1 => rfl); (case e2 => rfl); (case e3 => rfl)))
  refine C106.out.mono ?_
  rintro e w107 ⟨y87, rfl, hd88, hk89, hb108⟩
  have T109 := Lib.hid (T95.out.below hb108 T95.out.lt)
  have T110 := Lib.hid (T96.out.below hb108 T96.out.lt)
  have T111 := Lib.hid (T97.out.below hb108 T97.out.lt)
  have T112 := Lib.hid (T98.out.below hb108 T98.out.lt)
  have T113 := Lib.hid (T94.out.below hb108 T94.out.lt)
  have F114 := Lib.hid (F99.out.below hb108 (Nat.le_refl _))
  have F115 := Lib.hid (F100.out.below hb108 (Nat.le_refl _))
  have F116 := Lib.hid (F101.out.below hb108 (Nat.le_refl _))
  have F117 := Lib.hid (F102.out.below hb108 (Nat.le_refl _))
  have B118 := Lib.hid (B103.out.trans (hb108.mono B103.out.size))
  clear hb108
  have E119 := Lib.hid (hd88)
  have F120 := Lib.hid (hk89)
  have Z121 := Lib.hid (hk89.len)
  clear hd88 hk89
  go_wp2_with (first | ((with_reducible refine wpList_store_newx (o := ⟨none, .store 28 (.tmp 14) (.tmp 56), _, _, _, _⟩) (w := w107) ?e1 (.tmp 14) (.tmp 56) ?e2 w107.heap.size ?e0 ?e3 y87 ?e4 Z121.out ?_); (case e1 => rfl); (case e2 => rfl); (case e0 => rfl); (case e3 => rfl); (case e4 => rfl); intro w125 hb126 hx127 hs128; have T129 := Lib.hid hx127; clear hx127 hs128; have T130 := Lib.hid (T109.out.below hb126 T109.out.lt); have T131 := Lib.hid (T110.out.below hb126 T110.out.lt); have T132 := Lib.hid (T111.out.below hb126 T111.out.lt); have T133 := Lib.hid (T112.out.below hb126 T112.out.lt); have T134 := Lib.hid (T113.out.below hb126 T113.out.lt); have F135 := Lib.hid (F114.out.below hb126 (Nat.le_refl _)); have F136 := Lib.hid (F115.out.below hb126 (Nat.le_refl _)); have F137 := Lib.hid (F116.out.below hb126 (Nat.le_refl _)); have F138 := Lib.hid (F117.out.below hb126 (Nat.le_refl _)); have F139 := Lib.hid (F120.out.below hb126 (Nat.le_refl _)); have B140 := Lib.hid (B118.out.trans (hb126.mono B118.out.size)); clear hb126; have M141 := Lib.hid (T133.out.load); have M142 := Lib.hid (load_arr16 T132.out); have C143 := Lib.hid (bfind_any d42 z w125 F137.out ZI.out.1 ZI.out.2 Z67.out); unfold BFindPost at C143; try rw [E56.out] at C143; rw [BJ.out] at C143; try dsimp only [Option.isSome_some, Option.isSome_none, Option.getD_some, Option.getD_none] at C143) | ((with_reducible refine wpList_load_by (o := ⟨some 59, .load 41 (.tmp 10), _, _, _, _⟩) ?e1 41 (.tmp 10) ?e2 ⟨w48.heap.size, 0, none⟩ ?e3 _ M141.out ?_); (case e1 => rfl); (case e2 => rfl); (case e3 => rfl)) | ((with_reducible refine wpList_load_by (o := ⟨some 60, .load 23 (.tmp 5), _, _, _, _⟩) ?e1 23 (.tmp 5) ?e2 ⟨(w.heap.size + 1 + 1), 0, none⟩ ?e3 _ M142.out ?_); (case e1 => rfl); (case e2 => rfl); (case e3 => rfl)))
  refine C143.out.mono ?_
  rintro e w144 ⟨y122, rfl, hd123, hk124, hb145⟩
  have T146 := Lib.hid (T130.out.below hb145 T130.out.lt)
  have T147 := Lib.hid (T131.out.below hb145 T131.out.lt)
  have T148 := Lib.hid (T132.out.below hb145 T132.out.lt)
  have T149 := Lib.hid (T133.out.below hb145 T133.out.lt)
  have T150 := Lib.hid (T134.out.below hb145 T134.out.lt)
  have T151 := Lib.hid (T129.out.below hb145 T129.out.lt)
  have F152 := Lib.hid (F135.out.below hb145 (Nat.le_refl _))
  have F153 := Lib.hid (F136.out.below hb145 (Nat.le_refl _))
  have F154 := Lib.hid (F137.out.below hb145 (Nat.le_refl _))
  have F155 := Lib.hid (F138.out.below hb145 (Nat.le_refl _))
  have F156 := Lib.hid (F139.out.below hb145 (Nat.le_refl _))
  have B157 := Lib.hid (B140.out.trans (hb145.mono B140.out.size))
  clear hb145
  have E158 := Lib.hid (hd123)
  have F159 := Lib.hid (hk124)
  have Z160 := Lib.hid (hk124.len)
  clear hd123 hk124
  go_wp2_with (first | ((with_reducible refine wpList_store_newx (o := ⟨none, .store 28 (.tmp 16) (.tmp 62), _, _, _, _⟩) (w := w144) ?e1 (.tmp 16) (.tmp 62) ?e2 w144.heap.size ?e0 ?e3 y122 ?e4 Z160.out ?_); (case e1 => rfl); (case e2 => rfl); (case e0 => rfl); (case e3 => rfl); (case e4 => rfl); intro w161 hb162 hx163 hs164; have T165 := Lib.hid hx163; clear hx163 hs164; have T166 := Lib.hid (T146.out.below hb162 T146.out.lt); have T167 := Lib.hid (T147.out.below hb162 T147.out.lt); have T168 := Lib.hid (T148.out.below hb162 T148.out.lt); have T169 := Lib.hid (T149.out.below hb162 T149.out.lt); have T170 := Lib.hid (T150.out.below hb162 T150.out.lt); have T171 := Lib.hid (T151.out.below hb162 T151.out.lt); have F172 := Lib.hid (F152.out.below hb162 (Nat.le_refl _)); have F173 := Lib.hid (F153.out.below hb162 (Nat.le_refl _)); have F174 := Lib.hid (F154.out.below hb162 (Nat.le_refl _)); have F175 := Lib.hid (F155.out.below hb162 (Nat.le_refl _)); have F176 := Lib.hid (F156.out.below hb162 (Nat.le_refl _)); have F177 := Lib.hid (F159.out.below hb162 (Nat.le_refl _)); have B178 := Lib.hid (B157.out.trans (hb162.mono B157.out.size)); clear hb162))
  go_ret
  exact ⟨rfl, B178.out⟩
set_option maxHeartbeats 16000000 in
theorem bfinds_01 (a b : Bk) (z : List Int) (w : World) (hlaid : Laid w) (wa : BkAt w a) (wb : BkAt w b) (wz : z.length = 16 ∧ AllBytes z) (p : (fewB a.rs && fewB b.rs) = true) (X : List Rc) (r1 r2 : Rc) (iJX : bjE a.rs b.rs = (0, X)) (iMX : bmay X = true) (iBA : bat a.rs z = none) (iBB : bat b.rs z = some r2) (iBJ : bat X z = some r2) (iSV : r2.same r2 = true) :
    Calls Tryd.prog 6 #[.agg #[.slice a.A a.xs.length a.c], .agg #[.slice b.A b.xs.length b.c], .agg (bvals z)] w fun e w' => e = .returned (.bool true) ∧ Below w.heap.size w w' := by
  have HLA := Lib.hid (fun (X : World) (hX : Below w.heap.size w X) => hlaid.below hX (Nat.le_refl _))
  have Fa := Lib.hid wa
  have Fb := Lib.hid wb
  have ZI := Lib.hid wz
  have hz := zeroX
  clear hlaid wa wb wz
  simp only [Bool.and_eq_true] at p
  have PA := Lib.hid p.1
  have PB := Lib.hid p.2
  have ZA := Lib.hid (fewB_fs p.1).2
  have ZB := Lib.hid (fewB_fs p.2).2
  have JX := Lib.hid iJX
  have MX := Lib.hid iMX
  have BA := Lib.hid iBA
  have BB := Lib.hid iBB
  have BJ := Lib.hid iBJ
  have SV := Lib.hid iSV
  clear p iJX iMX iBA iBB iBJ iSV
  have B1 := Lib.hid (Below.refl w.heap.size w)
  have T2n := BoAt.new w (.slice a.A a.xs.length a.c)
  have T2 := Lib.hid T2n
  clear T2n
  have B3 := Lib.hid (B1.out.alloc B1.out.size (.cells #[(.slice a.A a.xs.length a.c)] 41))
  have T4 := Lib.hid (T2.out.old (.cells #[(.slice b.A b.xs.length b.c)] 41))
  have T5n := BoAt.new (w.alloc (.cells #[(.slice a.A a.xs.length a.c)] 41)) (.slice b.A b.xs.length b.c)
  simp only [World.size_alloc] at T5n
  have T5 := Lib.hid T5n
  clear T5n
  have B6 := Lib.hid (B3.out.alloc B3.out.size (.cells #[(.slice b.A b.xs.length b.c)] 41))
  have T7 := Lib.hid (T4.out.old (.cells (bvals z) 23))
  have T8 := Lib.hid (T5.out.old (.cells (bvals z) 23))
  have T9n := IdAt.new ((w.alloc (.cells #[(.slice a.A a.xs.length a.c)] 41)).alloc (.cells #[(.slice b.A b.xs.length b.c)] 41)) ZI.out.1
  simp only [World.size_alloc] at T9n
  have T9 := Lib.hid T9n
  clear T9n
  have B10 := Lib.hid (B6.out.alloc B6.out.size (.cells (bvals z) 23))
  have F11 := Lib.hid (Fa.out.below B10.out (Nat.le_refl _))
  have F12 := Lib.hid (Fb.out.below B10.out (Nat.le_refl _))
  go_enter Tryd.func6, Tryd.ntmps6
  have C13 := Lib.hid (bkAwake (((w.alloc (.cells #[(.slice a.A a.xs.length a.c)] 41)).alloc (.cells #[(.slice b.A b.xs.length b.c)] 41)).alloc (.cells (bvals z) 23)) (HLA.out _ B10.out))
  go_wp2_with fail
  refine C13.out.mono ?_
  rintro e w14 ⟨rfl, hb15⟩
  have T16 := Lib.hid (T7.out.below hb15 T7.out.lt)
  have T17 := Lib.hid (T8.out.below hb15 T8.out.lt)
  have T18 := Lib.hid (T9.out.below hb15 T9.out.lt)
  have F19 := Lib.hid (F11.out.below hb15 (Nat.le_refl _))
  have F20 := Lib.hid (F12.out.below hb15 (Nat.le_refl _))
  have B21 := Lib.hid (B10.out.trans (hb15.mono B10.out.size))
  clear hb15
  have M22 := Lib.hid (T16.out.load)
  have C23 := Lib.hid (fewB_any a w14 F19.out)
  rw [PA.out] at C23
  go_wp2_with (first | ((with_reducible refine wpList_load_by (o := ⟨some 21, .load 41 (.tmp 3), _, _, _, _⟩) ?e1 41 (.tmp 3) ?e2 ⟨w.heap.size, 0, none⟩ ?e3 _ M22.out ?_); (case e1 => rfl); (case e2 => rfl); (case e3 => rfl)))
  refine C23.out.mono ?_
  rintro e w24 ⟨rfl, hb25⟩
  have T26 := Lib.hid (T16.out.below hb25 T16.out.lt)
  have T27 := Lib.hid (T17.out.below hb25 T17.out.lt)
  have T28 := Lib.hid (T18.out.below hb25 T18.out.lt)
  have F29 := Lib.hid (F19.out.below hb25 (Nat.le_refl _))
  have F30 := Lib.hid (F20.out.below hb25 (Nat.le_refl _))
  have B31 := Lib.hid (B21.out.trans (hb25.mono B21.out.size))
  clear hb25
  have M32 := Lib.hid (T27.out.load)
  have C33 := Lib.hid (fewB_any b w24 F30.out)
  rw [PB.out] at C33
  go_wp2_with (first | ((with_reducible refine wpList_load_by (o := ⟨some 23, .load 41 (.tmp 4), _, _, _, _⟩) ?e1 41 (.tmp 4) ?e2 ⟨(w.heap.size + 1), 0, none⟩ ?e3 _ M32.out ?_); (case e1 => rfl); (case e2 => rfl); (case e3 => rfl)))
  refine C33.out.mono ?_
  rintro e w34 ⟨rfl, hb35⟩
  have T36 := Lib.hid (T26.out.below hb35 T26.out.lt)
  have T37 := Lib.hid (T27.out.below hb35 T27.out.lt)
  have T38 := Lib.hid (T28.out.below hb35 T28.out.lt)
  have F39 := Lib.hid (F29.out.below hb35 (Nat.le_refl _))
  have F40 := Lib.hid (F30.out.below hb35 (Nat.le_refl _))
  have B41 := Lib.hid (B31.out.trans (hb35.mono B31.out.size))
  clear hb35
  have M45 := Lib.hid (T36.out.load)
  have M46 := Lib.hid (T37.out.load)
  have C47 := Lib.hid (bjoin_any a b w34 (HLA.out _ B41.out) F39.out F40.out)
  unfold BJoinPost at C47
  rw [JX.out] at C47
  dsimp only at C47
  go_wp2_with (first | ((with_reducible refine wpList_load_by (o := ⟨some 26, .load 41 (.tmp 3), _, _, _, _⟩) ?e1 41 (.tmp 3) ?e2 ⟨w.heap.size, 0, none⟩ ?e3 _ M45.out ?_); (case e1 => rfl); (case e2 => rfl); (case e3 => rfl)) | ((with_reducible refine wpList_load_by (o := ⟨some 27, .load 41 (.tmp 4), _, _, _, _⟩) ?e1 41 (.tmp 4) ?e2 ⟨(w.heap.size + 1), 0, none⟩ ?e3 _ M46.out ?_); (case e1 => rfl); (case e2 => rfl); (case e3 => rfl)))
  refine C47.out.mono ?_
  rintro e w48 ⟨d42, rfl, hd43, hk44, hb49⟩
  have T50 := Lib.hid (T36.out.below hb49 T36.out.lt)
  have T51 := Lib.hid (T37.out.below hb49 T37.out.lt)
  have T52 := Lib.hid (T38.out.below hb49 T38.out.lt)
  have F53 := Lib.hid (F39.out.below hb49 (Nat.le_refl _))
  have F54 := Lib.hid (F40.out.below hb49 (Nat.le_refl _))
  have B55 := Lib.hid (B41.out.trans (hb49.mono B41.out.size))
  clear hb49
  have E56 := Lib.hid (hd43)
  have F57 := Lib.hid (hk44)
  clear hd43 hk44
  have hb58 := (Below.refl w48.heap.size w48).alloc (Nat.le_refl _) (.cells #[(.slice d42.A d42.xs.length d42.c)] 41)
  have T59 := Lib.hid (BoAt.new w48 (.slice d42.A d42.xs.length d42.c))
  have T60 := Lib.hid (T50.out.below hb58 T50.out.lt)
  have T61 := Lib.hid (T51.out.below hb58 T51.out.lt)
  have T62 := Lib.hid (T52.out.below hb58 T52.out.lt)
  have F63 := Lib.hid (F53.out.below hb58 (Nat.le_refl _))
  have F64 := Lib.hid (F54.out.below hb58 (Nat.le_refl _))
  have F65 := Lib.hid (F57.out.below hb58 (Nat.le_refl _))
  have B66 := Lib.hid (B55.out.trans (hb58.mono B55.out.size))
  clear hb58
  have Z67 := Lib.hid (bmay_fs E56.out MX.out)
  have M71 := Lib.hid (T60.out.load)
  have M72 := Lib.hid (load_arr16 T62.out)
  have C73 := Lib.hid (bfind_any a z (w48.alloc (.cells #[(.slice d42.A d42.xs.length d42.c)] 41)) F63.out ZI.out.1 ZI.out.2 ZA.out)
  unfold BFindPost at C73
  rw [BA.out] at C73
  try dsimp only [Option.isSome_some, Option.isSome_none, Option.getD_some, Option.getD_none] at C73
  go_wp2_with (first | ((with_reducible refine wpList_load_by (o := ⟨some 47, .load 41 (.tmp 3), _, _, _, _⟩) ?e1 41 (.tmp 3) ?e2 ⟨w.heap.size, 0, none⟩ ?e3 _ M71.out ?_); (case e1 => rfl); (case e2 => rfl); (case e3 => rfl)) | ((with_reducible refine wpList_load_by (o := ⟨some 48, .load 23 (.tmp 5), _, _, _, _⟩) ?e1 23 (.tmp 5) ?e2 ⟨(w.heap.size + 1 + 1), 0, none⟩ ?e3 _ M72.out ?_); (case e1 => rfl); (case e2 => rfl); (case e3 => rfl)))
  refine C73.out.mono ?_
  rintro e w74 ⟨y68, rfl, hd69, hk70, hb75⟩
  have T76 := Lib.hid (T60.out.below hb75 T60.out.lt)
  have T77 := Lib.hid (T61.out.below hb75 T61.out.lt)
  have T78 := Lib.hid (T62.out.below hb75 T62.out.lt)
  have T79 := Lib.hid (T59.out.below hb75 T59.out.lt)
  have F80 := Lib.hid (F63.out.below hb75 (Nat.le_refl _))
  have F81 := Lib.hid (F64.out.below hb75 (Nat.le_refl _))
  have F82 := Lib.hid (F65.out.below hb75 (Nat.le_refl _))
  have B83 := Lib.hid (B66.out.trans (hb75.mono B66.out.size))
  clear hb75
  have E84 := Lib.hid (hd69)
  have F85 := Lib.hid (hk70)
  have Z86 := Lib.hid (hk70.len)
  clear hd69 hk70
  go_wp2_with (first | ((with_reducible refine wpList_store_newx (o := ⟨none, .store 28 (.tmp 12) (.tmp 50), _, _, _, _⟩) (w := w74) ?e1 (.tmp 12) (.tmp 50) ?e2 w74.heap.size ?e0 ?e3 y68 ?e4 Z86.out ?_); (case e1 => rfl); (case e2 => rfl); (case e0 => rfl); (case e3 => rfl); (case e4 => rfl); intro w90 hb91 hx92 hs93; have T94 := Lib.hid hx92; clear hx92 hs93; have T95 := Lib.hid (T76.out.below hb91 T76.out.lt); have T96 := Lib.hid (T77.out.below hb91 T77.out.lt); have T97 := Lib.hid (T78.out.below hb91 T78.out.lt); have T98 := Lib.hid (T79.out.below hb91 T79.out.lt); have F99 := Lib.hid (F80.out.below hb91 (Nat.le_refl _)); have F100 := Lib.hid (F81.out.below hb91 (Nat.le_refl _)); have F101 := Lib.hid (F82.out.below hb91 (Nat.le_refl _)); have F102 := Lib.hid (F85.out.below hb91 (Nat.le_refl _)); have B103 := Lib.hid (B83.out.trans (hb91.mono B83.out.size)); clear hb91; have M104 := Lib.hid (T96.out.load); have M105 := Lib.hid (load_arr16 T97.out); have C106 := Lib.hid (bfind_any b z w90 F100.out ZI.out.1 ZI.out.2 ZB.out); unfold BFindPost at C106; rw [BB.out] at C106; try dsimp only [Option.isSome_some, Option.isSome_none, Option.getD_some, Option.getD_none] at C106) | ((with_reducible refine wpList_load_by (o := ⟨some 53, .load 41 (.tmp 4), _, _, _, _⟩) ?e1 41 (.tmp 4) ?e2 ⟨(w.heap.size + 1), 0, none⟩ ?e3 _ M104.out ?_); (case e1 => rfl); (case e2 => rfl); (case e3 => rfl)) | ((with_reducible refine wpList_load_by (o := ⟨some 54, .load 23 (.tmp 5), _, _, _, _⟩) ?e1 23 (.tmp 5) ?e2 ⟨(w.heap.size + 1 + 1), 0, none⟩ ?e3 _ M105.out ?_); (case e1 => rfl); (case e2 => rfl); (case e3 => rfl)))
  refine C106.out.mono ?_
  rintro e w107 ⟨y87, rfl, hd88, hk89, hb108⟩
  have T109 := Lib.hid (T95.out.below hb108 T95.out.lt)
  have T110 := Lib.hid (T96.out.below hb108 T96.out.lt)
  have T111 := Lib.hid (T97.out.below hb108 T97.out.lt)
  have T112 := Lib.hid (T98.out.below hb108 T98.out.lt)
  have T113 := Lib.hid (T94.out.below hb108 T94.out.lt)
  have F114 := Lib.hid (F99.out.below hb108 (Nat.le_refl _))
  have F115 := Lib.hid (F100.out.below hb108 (Nat.le_refl _))
  have F116 := Lib.hid (F101.out.below hb108 (Nat.le_refl _))
  have F117 := Lib.hid (F102.out.below hb108 (Nat.le_refl _))
  have B118 := Lib.hid (B103.out.trans (hb108.mono B103.out.size))
  clear hb108
  have E119 := Lib.hid (hd88)
  have F120 := Lib.hid (hk89)
  have Z121 := Lib.hid (hk89.len)
  clear hd88 hk89
  go_wp2_with (first | ((with_reducible refine wpList_store_newx (o := ⟨none, .store 28 (.tmp 14) (.tmp 56), _, _, _, _⟩) (w := w107) ?e1 (.tmp 14) (.tmp 56) ?e2 w107.heap.size ?e0 ?e3 y87 ?e4 Z121.out ?_); (case e1 => rfl); (case e2 => rfl); (case e0 => rfl); (case e3 => rfl); (case e4 => rfl); intro w125 hb126 hx127 hs128; have T129 := Lib.hid hx127; clear hx127 hs128; have T130 := Lib.hid (T109.out.below hb126 T109.out.lt); have T131 := Lib.hid (T110.out.below hb126 T110.out.lt); have T132 := Lib.hid (T111.out.below hb126 T111.out.lt); have T133 := Lib.hid (T112.out.below hb126 T112.out.lt); have T134 := Lib.hid (T113.out.below hb126 T113.out.lt); have F135 := Lib.hid (F114.out.below hb126 (Nat.le_refl _)); have F136 := Lib.hid (F115.out.below hb126 (Nat.le_refl _)); have F137 := Lib.hid (F116.out.below hb126 (Nat.le_refl _)); have F138 := Lib.hid (F117.out.below hb126 (Nat.le_refl _)); have F139 := Lib.hid (F120.out.below hb126 (Nat.le_refl _)); have B140 := Lib.hid (B118.out.trans (hb126.mono B118.out.size)); clear hb126; have M141 := Lib.hid (T133.out.load); have M142 := Lib.hid (load_arr16 T132.out); have C143 := Lib.hid (bfind_any d42 z w125 F137.out ZI.out.1 ZI.out.2 Z67.out); unfold BFindPost at C143; try rw [E56.out] at C143; rw [BJ.out] at C143; try dsimp only [Option.isSome_some, Option.isSome_none, Option.getD_some, Option.getD_none] at C143) | ((with_reducible refine wpList_load_by (o := ⟨some 59, .load 41 (.tmp 10), _, _, _, _⟩) ?e1 41 (.tmp 10) ?e2 ⟨w48.heap.size, 0, none⟩ ?e3 _ M141.out ?_); (case e1 => rfl); (case e2 => rfl); (case e3 => rfl)) | ((with_reducible refine wpList_load_by (o := ⟨some 60, .load 23 (.tmp 5), _, _, _, _⟩) ?e1 23 (.tmp 5) ?e2 ⟨(w.heap.size + 1 + 1), 0, none⟩ ?e3 _ M142.out ?_); (case e1 => rfl); (case e2 => rfl); (case e3 => rfl)))
  refine C143.out.mono ?_
  rintro e w144 ⟨y122, rfl, hd123, hk124, hb145⟩
  have T146 := Lib.hid (T130.out.below hb145 T130.out.lt)
  have T147 := Lib.hid (T131.out.below hb145 T131.out.lt)
  have T148 := Lib.hid (T132.out.below hb145 T132.out.lt)
  have T149 := Lib.hid (T133.out.below hb145 T133.out.lt)
  have T150 := Lib.hid (T134.out.below hb145 T134.out.lt)
  have T151 := Lib.hid (T129.out.below hb145 T129.out.lt)
  have F152 := Lib.hid (F135.out.below hb145 (Nat.le_refl _))
  have F153 := Lib.hid (F136.out.below hb145 (Nat.le_refl _))
  have F154 := Lib.hid (F137.out.below hb145 (Nat.le_refl _))
  have F155 := Lib.hid (F138.out.below hb145 (Nat.le_refl _))
  have F156 := Lib.hid (F139.out.below hb145 (Nat.le_refl _))
  have B157 := Lib.hid (B140.out.trans (hb145.mono B140.out.size))
  clear hb145
  have E158 := Lib.hid (hd123)
  have F159 := Lib.hid (hk124)
  have Z160 := Lib.hid (hk124.len)
  clear hd123 hk124
  go_wp2_with (first | ((with_reducible refine wpList_store_newx (o := ⟨none, .store 28 (.tmp 16) (.tmp 62), _, _, _, _⟩) (w := w144) ?e1 (.tmp 16) (.tmp 62) ?e2 w144.heap.size ?e0 ?e3 y122 ?e4 Z160.out ?_); (case e1 => rfl); (case e2 => rfl); (case e0 => rfl); (case e3 => rfl); (case e4 => rfl); intro w161 hb162 hx163 hs164; have T165 := Lib.hid hx163; clear hx163 hs164; have T166 := Lib.hid (T146.out.below hb162 T146.out.lt); have T167 := Lib.hid (T147.out.below hb162 T147.out.lt); have T168 := Lib.hid (T148.out.below hb162 T148.out.lt); have T169 := Lib.hid (T149.out.below hb162 T149.out.lt); have T170 := Lib.hid (T150.out.below hb162 T150.out.lt); have T171 := Lib.hid (T151.out.below hb162 T151.out.lt); have F172 := Lib.hid (F152.out.below hb162 (Nat.le_refl _)); have F173 := Lib.hid (F153.out.below hb162 (Nat.le_refl _)); have F174 := Lib.hid (F154.out.below hb162 (Nat.le_refl _)); have F175 := Lib.hid (F155.out.below hb162 (Nat.le_refl _)); have F176 := Lib.hid (F156.out.below hb162 (Nat.le_refl _)); have F177 := Lib.hid (F159.out.below hb162 (Nat.le_refl _)); have B178 := Lib.hid (B157.out.trans (hb162.mono B157.out.size)); clear hb162; have M179 := Lib.hid (T165.out.load); have M180 := Lib.hid (T171.out.load); have C181 := Lib.hid (xsame_any y122 y87 w161 F177.out F176.out); try rw [E158.out] at C181; try rw [E119.out] at C181; rw [SV.out] at C181) | ((with_reducible refine wpList_load_by (o := ⟨some 102, .load 28 (.tmp 16), _, _, _, _⟩) ?e1 28 (.tmp 16) ?e2 ⟨w144.heap.size, 0, none⟩ ?e3 _ M179.out ?_); (case e1 => rfl); (case e2 => rfl); (case e3 => rfl)) | ((with_reducible refine wpList_load_by (o := ⟨some 103, .load 28 (.tmp 14), _, _, _, _⟩) ?e1 28 (.tmp 14) ?e2 ⟨w107.heap.size, 0, none⟩ ?e3 _ M180.out ?_); (case e1 => rfl); (case e2 => rfl); (case e3 => rfl)))
  refine C181.out.mono ?_
  rintro e w182 ⟨rfl, hb183⟩
  have T184 := Lib.hid (T166.out.below hb183 T166.out.lt)
  have T185 := Lib.hid (T167.out.below hb183 T167.out.lt)
  have T186 := Lib.hid (T168.out.below hb183 T168.out.lt)
  have T187 := Lib.hid (T169.out.below hb183 T169.out.lt)
  have T188 := Lib.hid (T170.out.below hb183 T170.out.lt)
  have T189 := Lib.hid (T171.out.below hb183 T171.out.lt)
  have T190 := Lib.hid (T165.out.below hb183 T165.out.lt)
  have F191 := Lib.hid (F172.out.below hb183 (Nat.le_refl _))
  have F192 := Lib.hid (F173.out.below hb183 (Nat.le_refl _))
  have F193 := Lib.hid (F174.out.below hb183 (Nat.le_refl _))
  have F194 := Lib.hid (F175.out.below hb183 (Nat.le_refl _))
  have F195 := Lib.hid (F176.out.below hb183 (Nat.le_refl _))
  have F196 := Lib.hid (F177.out.below hb183 (Nat.le_refl _))
  have B197 := Lib.hid (B178.out.trans (hb183.mono B178.out.size))
  clear hb183
  go_wp2
  go_ret
  exact ⟨rfl, B197.out⟩
set_option maxHeartbeats 16000000 in
theorem bfinds_10 (a b : Bk) (z : List Int) (w : World) (hlaid : Laid w) (wa : BkAt w a) (wb : BkAt w b) (wz : z.length = 16 ∧ AllBytes z) (p : (fewB a.rs && fewB b.rs) = true) (X : List Rc) (r1 r2 : Rc) (iJX : bjE a.rs b.rs = (0, X)) (iMX : bmay X = true) (iBA : bat a.rs z = some r1) (iBB : bat b.rs z = none) (iBJ : bat X z = some r1) (iSV : r1.same r1 = true) :
    Calls Tryd.prog 6 #[.agg #[.slice a.A a.xs.length a.c], .agg #[.slice b.A b.xs.length b.c], .agg (bvals z)] w fun e w' => e = .returned (.bool true) ∧ Below w.heap.size w w' := by
  have HLA := Lib.hid (fun (X : World) (hX : Below w.heap.size w X) => hlaid.below hX (Nat.le_refl _))
  have Fa := Lib.hid wa
  have Fb := Lib.hid wb
  have ZI := Lib.hid wz
  have hz := zeroX
  clear hlaid wa wb wz
  simp only [Bool.and_eq_true] at p
  have PA := Lib.hid p.1
  have PB := Lib.hid p.2
  have ZA := Lib.hid (fewB_fs p.1).2
  have ZB := Lib.hid (fewB_fs p.2).2
  have JX := Lib.hid iJX
  have MX := Lib.hid iMX
  have BA := Lib.hid iBA
  have BB := Lib.hid iBB
  have BJ := Lib.hid iBJ
  have SV := Lib.hid iSV
  clear p iJX iMX iBA iBB iBJ iSV
  have B1 := Lib.hid (Below.refl w.heap.size w)
  have T2n := BoAt.new w (.slice a.A a.xs.length a.c)
  have T2 := Lib.hid T2n
  clear T2n
  have B3 := Lib.hid (B1.out.alloc B1.out.size (.cells #[(.slice a.A a.xs.length a.c)] 41))
  have T4 := Lib.hid (T2.out.old (.cells #[(.slice b.A b.xs.length b.c)] 41))
  have T5n := BoAt.new (w.alloc (.cells #[(.slice a.A a.xs.length a.c)] 41)) (.slice b.A b.xs.length b.c)
  simp only [World.size_alloc] at T5n
  have T5 := Lib.hid T5n
  clear T5n
  have B6 := Lib.hid (B3.out.alloc B3.out.size (.cells #[(.slice b.A b.xs.length b.c)] 41))
  have T7 := Lib.hid (T4.out.old (.cells (bvals z) 23))
  have T8 := Lib.hid (T5.out.old (.cells (bvals z) 23))
  have T9n := IdAt.new ((w.alloc (.cells #[(.slice a.A a.xs.length a.c)] 41)).alloc (.cells #[(.slice b.A b.xs.length b.c)] 41)) ZI.out.1
  simp only [World.size_alloc] at T9n
  have T9 := Lib.hid T9n
  clear T9n
  have B10 := Lib.hid (B6.out.alloc B6.out.size (.cells (bvals z) 23))
  have F11 := Lib.hid (Fa.out.below B10.out (Nat.le_refl _))
  have F12 := Lib.hid (Fb.out.below B10.out (Nat.le_refl _))
  go_enter Tryd.func6, Tryd.ntmps6
  have C13 := Lib.hid (bkAwake (((w.alloc (.cells #[(.slice a.A a.xs.length a.c)] 41)).alloc (.cells #[(.slice b.A b.xs.length b.c)] 41)).alloc (.cells (bvals z) 23)) (HLA.out _ B10.out))
  go_wp2_with fail
  refine C13.out.mono ?_
  rintro e w14 ⟨rfl, hb15⟩
  have T16 := Lib.hid (T7.out.below hb15 T7.out.lt)
  have T17 := Lib.hid (T8.out.below hb15 T8.out.lt)
  have T18 := Lib.hid (T9.out.below hb15 T9.out.lt)
  have F19 := Lib.hid (F11.out.below hb15 (Nat.le_refl _))
  have F20 := Lib.hid (F12.out.below hb15 (Nat.le_refl _))
  have B21 := Lib.hid (B10.out.trans (hb15.mono B10.out.size))
  clear hb15
  have M22 := Lib.hid (T16.out.load)
  have C23 := Lib.hid (fewB_any a w14 F19.out)
  rw [PA.out] at C23
  go_wp2_with (first | ((with_reducible refine wpList_load_by (o := ⟨some 21, .load 41 (.tmp 3), _, _, _, _⟩) ?e1 41 (.tmp 3) ?e2 ⟨w.heap.size, 0, none⟩ ?e3 _ M22.out ?_); (case e1 => rfl); (case e2 => rfl); (case e3 => rfl)))
  refine C23.out.mono ?_
  rintro e w24 ⟨rfl, hb25⟩
  have T26 := Lib.hid (T16.out.below hb25 T16.out.lt)
  have T27 := Lib.hid (T17.out.below hb25 T17.out.lt)
  have T28 := Lib.hid (T18.out.below hb25 T18.out.lt)
  have F29 := Lib.hid (F19.out.below hb25 (Nat.le_refl _))
  have F30 := Lib.hid (F20.out.below hb25 (Nat.le_refl _))
  have B31 := Lib.hid (B21.out.trans (hb25.mono B21.out.size))
  clear hb25
  have M32 := Lib.hid (T27.out.load)
  have C33 := Lib.hid (fewB_any b w24 F30.out)
  rw [PB.out] at C33
  go_wp2_with (first | ((with_reducible refine wpList_load_by (o := ⟨some 23, .load 41 (.tmp 4), _, _, _, _⟩) ?e1 41 (.tmp 4) ?e2 ⟨(w.heap.size + 1), 0, none⟩ ?e3 _ M32.out ?_); (case e1 => rfl); (case e2 => rfl); (case e3 => rfl)))
  refine C33.out.mono ?_
  rintro e w34 ⟨rfl, hb35⟩
  have T36 := Lib.hid (T26.out.below hb35 T26.out.lt)
  have T37 := Lib.hid (T27.out.below hb35 T27.out.lt)
  have T38 := Lib.hid (T28.out.below hb35 T28.out.lt)
  have F39 := Lib.hid (F29.out.below hb35 (Nat.le_refl _))
  have F40 := Lib.hid (F30.out.below hb35 (Nat.le_refl _))
  have B41 := Lib.hid (B31.out.trans (hb35.mono B31.out.size))
  clear hb35
  have M45 := Lib.hid (T36.out.load)
  have M46 := Lib.hid (T37.out.load)
  have C47 := Lib.hid (bjoin_any a b w34 (HLA.out _ B41.out) F39.out F40.out)
  unfold BJoinPost at C47
  rw [JX.out] at C47
  dsimp only at C47
  go_wp2_with (first | ((with_reducible refine wpList_load_by (o := ⟨some 26, .load 41 (.tmp 3), _, _, _, _⟩) ?e1 41 (.tmp 3) ?e2 ⟨w.heap.size, 0, none⟩ ?e3 _ M45.out ?_); (case e1 => rfl); (case e2 => rfl); (case e3 => rfl)) | ((with_reducible refine wpList_load_by (o := ⟨some 27, .load 41 (.tmp 4), _, _, _, _⟩) ?e1 41 (.tmp 4) ?e2 ⟨(w.heap.size + 1), 0, none⟩ ?e3 _ M46.out ?_); (case e1 => rfl); (case e2 => rfl); (case e3 => rfl)))
  refine C47.out.mono ?_
  rintro e w48 ⟨d42, rfl, hd43, hk44, hb49⟩
  have T50 := Lib.hid (T36.out.below hb49 T36.out.lt)
  have T51 := Lib.hid (T37.out.below hb49 T37.out.lt)
  have T52 := Lib.hid (T38.out.below hb49 T38.out.lt)
  have F53 := Lib.hid (F39.out.below hb49 (Nat.le_refl _))
  have F54 := Lib.hid (F40.out.below hb49 (Nat.le_refl _))
  have B55 := Lib.hid (B41.out.trans (hb49.mono B41.out.size))
  clear hb49
  have E56 := Lib.hid (hd43)
  have F57 := Lib.hid (hk44)
  clear hd43 hk44
  have hb58 := (Below.refl w48.heap.size w48).alloc (Nat.le_refl _) (.cells #[(.slice d42.A d42.xs.length d42.c)] 41)
  have T59 := Lib.hid (BoAt.new w48 (.slice d42.A d42.xs.length d42.c))
  have T60 := Lib.hid (T50.out.below hb58 T50.out.lt)
  have T61 := Lib.hid (T51.out.below hb58 T51.out.lt)
  have T62 := Lib.hid (T52.out.below hb58 T52.out.lt)
  have F63 := Lib.hid (F53.out.below hb58 (Nat.le_refl _))
  have F64 := Lib.hid (F54.out.below hb58 (Nat.le_refl _))
  have F65 := Lib.hid (F57.out.below hb58 (Nat.le_refl _))
  have B66 := Lib.hid (B55.out.trans (hb58.mono B55.out.size))
  clear hb58
  have Z67 := Lib.hid (bmay_fs E56.out MX.out)
  have M71 := Lib.hid (T60.out.load)
  have M72 := Lib.hid (load_arr16 T62.out)
  have C73 := Lib.hid (bfind_any a z (w48.alloc (.cells #[(.slice d42.A d42.xs.length d42.c)] 41)) F63.out ZI.out.1 ZI.out.2 ZA.out)
  unfold BFindPost at C73
  rw [BA.out] at C73
  try dsimp only [Option.isSome_some, Option.isSome_none, Option.getD_some, Option.getD_none] at C73
  go_wp2_with (first | ((with_reducible refine wpList_load_by (o := ⟨some 47, .load 41 (.tmp 3), _, _, _, _⟩) ?e1 41 (.tmp 3) ?e2 ⟨w.heap.size, 0, none⟩ ?e3 _ M71.out ?_); (case e1 => rfl); (case e2 => rfl); (case e3 => rfl)) | ((with_reducible refine wpList_load_by (o := ⟨some 48, .load 23 (.tmp 5), _, _, _, _⟩) ?e1 23 (.tmp 5) ?e2 ⟨(w.heap.size + 1 + 1), 0, none⟩ ?e3 _ M72.out ?_); (case e1 => rfl); (case e2 => rfl); (case e3 => rfl)))
  refine C73.out.mono ?_
  rintro e w74 ⟨y68, rfl, hd69, hk70, hb75⟩
  have T76 := Lib.hid (T60.out.below hb75 T60.out.lt)
  have T77 := Lib.hid (T61.out.below hb75 T61.out.lt)
  have T78 := Lib.hid (T62.out.below hb75 T62.out.lt)
  have T79 := Lib.hid (T59.out.below hb75 T59.out.lt)
  have F80 := Lib.hid (F63.out.below hb75 (Nat.le_refl _))
  have F81 := Lib.hid (F64.out.below hb75 (Nat.le_refl _))
  have F82 := Lib.hid (F65.out.below hb75 (Nat.le_refl _))
  have B83 := Lib.hid (B66.out.trans (hb75.mono B66.out.size))
  clear hb75
  have E84 := Lib.hid (hd69)
  have F85 := Lib.hid (hk70)
  have Z86 := Lib.hid (hk70.len)
  clear hd69 hk70
  go_wp2_with (first | ((with_reducible refine wpList_store_newx (o := ⟨none, .store 28 (.tmp 12) (.tmp 50), _, _, _, _⟩) (w := w74) ?e1 (.tmp 12) (.tmp 50) ?e2 w74.heap.size ?e0 ?e3 y68 ?e4 Z86.out ?_); (case e1 => rfl); (case e2 => rfl); (case e0 => rfl); (case e3 => rfl); (case e4 => rfl); intro w90 hb91 hx92 hs93; have T94 := Lib.hid hx92; clear hx92 hs93; have T95 := Lib.hid (T76.out.below hb91 T76.out.lt); have T96 := Lib.hid (T77.out.below hb91 T77.out.lt); have T97 := Lib.hid (T78.out.below hb91 T78.out.lt); have T98 := Lib.hid (T79.out.below hb91 T79.out.lt); have F99 := Lib.hid (F80.out.below hb91 (Nat.le_refl _)); have F100 := Lib.hid (F81.out.below hb91 (Nat.le_refl _)); have F101 := Lib.hid (F82.out.below hb91 (Nat.le_refl _)); have F102 := Lib.hid (F85.out.below hb91 (Nat.le_refl _)); have B103 := Lib.hid (B83.out.trans (hb91.mono B83.out.size)); clear hb91; have M104 := Lib.hid (T96.out.load); have M105 := Lib.hid (load_arr16 T97.out); have C106 := Lib.hid (bfind_any b z w90 F100.out ZI.out.1 ZI.out.2 ZB.out); unfold BFindPost at C106; rw [BB.out] at C106; try dsimp only [Option.isSome_some, Option.isSome_none, Option.getD_some, Option.getD_none] at C106) | ((with_reducible refine wpList_load_by (o := ⟨some 53, .load 41 (.tmp 4), _, _, _, _⟩) ?e1 41 (.tmp 4) ?e2 ⟨(w.heap.size + 1), 0, none⟩ ?e3 _ M104.out ?_); (case e1 => rfl); (case e2 => rfl); (case e3 => rfl)) | ((with_reducible refine wpList_load_by (o := ⟨some 54, .load 23 (.tmp 5), _, _, _, _⟩) ?e1 23 (.tmp 5) ?e2 ⟨(w.heap.size + 1 + 1), 0, none⟩ ?e3 _ M105.out ?_); (case e1 => rfl); (case e2 => rfl); (case e3 => rfl)))
  refine C106.out.mono ?_
  rintro e w107 ⟨y87, rfl, hd88, hk89, hb108⟩
  have T109 := Lib.hid (T95.out.below hb108 T95.out.lt)
  have T110 := Lib.hid (T96.out.below hb108 T96.out.lt)
  have T111 := Lib.hid (T97.out.below hb108 T97.out.lt)
  have T112 := Lib.hid (T98.out.below hb108 T98.out.lt)
  have T113 := Lib.hid (T94.out.below hb108 T94.out.lt)
  have F114 := Lib.hid (F99.out.below hb108 (Nat.le_refl _))
  have F115 := Lib.hid (F100.out.below hb108 (Nat.le_refl _))
  have F116 := Lib.hid (F101.out.below hb108 (Nat.le_refl _))
  have F117 := Lib.hid (F102.out.below hb108 (Nat.le_refl _))
  have B118 := Lib.hid (B103.out.trans (hb108.mono B103.out.size))
  clear hb108
  have E119 := Lib.hid (hd88)
  have F120 := Lib.hid (hk89)
  have Z121 := Lib.hid (hk89.len)
  clear hd88 hk89
  go_wp2_with (first | ((with_reducible refine wpList_store_newx (o := ⟨none, .store 28 (.tmp 14) (.tmp 56), _, _, _, _⟩) (w := w107) ?e1 (.tmp 14) (.tmp 56) ?e2 w107.heap.size ?e0 ?e3 y87 ?e4 Z121.out ?_); (case e1 => rfl); (case e2 => rfl); (case e0 => rfl); (case e3 => rfl); (case e4 => rfl); intro w125 hb126 hx127 hs128; have T129 := Lib.hid hx127; clear hx127 hs128; have T130 := Lib.hid (T109.out.below hb126 T109.out.lt); have T131 := Lib.hid (T110.out.below hb126 T110.out.lt); have T132 := Lib.hid (T111.out.below hb126 T111.out.lt); have T133 := Lib.hid (T112.out.below hb126 T112.out.lt); have T134 := Lib.hid (T113.out.below hb126 T113.out.lt); have F135 := Lib.hid (F114.out.below hb126 (Nat.le_refl _)); have F136 := Lib.hid (F115.out.below hb126 (Nat.le_refl _)); have F137 := Lib.hid (F116.out.below hb126 (Nat.le_refl _)); have F138 := Lib.hid (F117.out.below hb126 (Nat.le_refl _)); have F139 := Lib.hid (F120.out.below hb126 (Nat.le_refl _)); have B140 := Lib.hid (B118.out.trans (hb126.mono B118.out.size)); clear hb126; have M141 := Lib.hid (T133.out.load); have M142 := Lib.hid (load_arr16 T132.out); have C143 := Lib.hid (bfind_any d42 z w125 F137.out ZI.out.1 ZI.out.2 Z67.out); unfold BFindPost at C143; try rw [E56.out] at C143; rw [BJ.out] at C143; try dsimp only [Option.isSome_some, Option.isSome_none, Option.getD_some, Option.getD_none] at C143) | ((with_reducible refine wpList_load_by (o := ⟨some 59, .load 41 (.tmp 10), _, _, _, _⟩) ?e1 41 (.tmp 10) ?e2 ⟨w48.heap.size, 0, none⟩ ?e3 _ M141.out ?_); (case e1 => rfl); (case e2 => rfl); (case e3 => rfl)) | ((with_reducible refine wpList_load_by (o := ⟨some 60, .load 23 (.tmp 5), _, _, _, _⟩) ?e1 23 (.tmp 5) ?e2 ⟨(w.heap.size + 1 + 1), 0, none⟩ ?e3 _ M142.out ?_); (case e1 => rfl); (case e2 => rfl); (case e3 => rfl)))
  refine C143.out.mono ?_
  rintro e w144 ⟨y122, rfl, hd123, hk124, hb145⟩
  have T146 := Lib.hid (T130.out.below hb145 T130.out.lt)
  have T147 := Lib.hid (T131.out.below hb145 T131.out.lt)
  have T148 := Lib.hid (T132.out.below hb145 T132.out.lt)
  have T149 := Lib.hid (T133.out.below hb145 T133.out.lt)
  have T150 := Lib.hid (T134.out.below hb145 T134.out.lt)
  have T151 := Lib.hid (T129.out.below hb145 T129.out.lt)
  have F152 := Lib.hid (F135.out.below hb145 (Nat.le_refl _))
  have F153 := Lib.hid (F136.out.below hb145 (Nat.le_refl _))
  have F154 := Lib.hid (F137.out.below hb145 (Nat.le_refl _))
  have F155 := Lib.hid (F138.out.below hb145 (Nat.le_refl _))
  have F156 := Lib.hid (F139.out.below hb145 (Nat.le_refl _))
  have B157 := Lib.hid (B140.out.trans (hb145.mono B140.out.size))
  clear hb145
  have E158 := Lib.hid (hd123)
  have F159 := Lib.hid (hk124)
  have Z160 := Lib.hid (hk124.len)
  clear hd123 hk124
  go_wp2_with (first | ((with_reducible refine wpList_store_newx (o := ⟨none, .store 28 (.tmp 16) (.tmp 62), _, _, _, _⟩) (w := w144) ?e1 (.tmp 16) (.tmp 62) ?e2 w144.heap.size ?e0 ?e3 y122 ?e4 Z160.out ?_); (case e1 => rfl); (case e2 => rfl); (case e0 => rfl); (case e3 => rfl); (case e4 => rfl); intro w161 hb162 hx163 hs164; have T165 := Lib.hid hx163; clear hx163 hs164; have T166 := Lib.hid (T146.out.below hb162 T146.out.lt); have T167 := Lib.hid (T147.out.below hb162 T147.out.lt); have T168 := Lib.hid (T148.out.below hb162 T148.out.lt); have T169 := Lib.hid (T149.out.below hb162 T149.out.lt); have T170 := Lib.hid (T150.out.below hb162 T150.out.lt); have T171 := Lib.hid (T151.out.below hb162 T151.out.lt); have F172 := Lib.hid (F152.out.below hb162 (Nat.le_refl _)); have F173 := Lib.hid (F153.out.below hb162 (Nat.le_refl _)); have F174 := Lib.hid (F154.out.below hb162 (Nat.le_refl _)); have F175 := Lib.hid (F155.out.below hb162 (Nat.le_refl _)); have F176 := Lib.hid (F156.out.below hb162 (Nat.le_refl _)); have F177 := Lib.hid (F159.out.below hb162 (Nat.le_refl _)); have B178 := Lib.hid (B157.out.trans (hb162.mono B157.out.size)); clear hb162; have M179 := Lib.hid (T165.out.load); have M180 := Lib.hid (T170.out.load); have C181 := Lib.hid (xsame_any y122 y68 w161 F177.out F175.out); try rw [E158.out] at C181; try rw [E84.out] at C181; rw [SV.out] at C181) | ((with_reducible refine wpList_load_by (o := ⟨some 93, .load 28 (.tmp 16), _, _, _, _⟩) ?e1 28 (.tmp 16) ?e2 ⟨w144.heap.size, 0, none⟩ ?e3 _ M179.out ?_); (case e1 => rfl); (case e2 => rfl); (case e3 => rfl)) | ((with_reducible refine wpList_load_by (o := ⟨some 94, .load 28 (.tmp 12), _, _, _, _⟩) ?e1 28 (.tmp 12) ?e2 ⟨w74.heap.size, 0, none⟩ ?e3 _ M180.out ?_); (case e1 => rfl); (case e2 => rfl); (case e3 => rfl)))
  refine C181.out.mono ?_
  rintro e w182 ⟨rfl, hb183⟩
  have T184 := Lib.hid (T166.out.below hb183 T166.out.lt)
  have T185 := Lib.hid (T167.out.below hb183 T167.out.lt)
  have T186 := Lib.hid (T168.out.below hb183 T168.out.lt)
  have T187 := Lib.hid (T169.out.below hb183 T169.out.lt)
  have T188 := Lib.hid (T170.out.below hb183 T170.out.lt)
  have T189 := Lib.hid (T171.out.below hb183 T171.out.lt)
  have T190 := Lib.hid (T165.out.below hb183 T165.out.lt)
  have F191 := Lib.hid (F172.out.below hb183 (Nat.le_refl _))
  have F192 := Lib.hid (F173.out.below hb183 (Nat.le_refl _))
  have F193 := Lib.hid (F174.out.below hb183 (Nat.le_refl _))
  have F194 := Lib.hid (F175.out.below hb183 (Nat.le_refl _))
  have F195 := Lib.hid (F176.out.below hb183 (Nat.le_refl _))
  have F196 := Lib.hid (F177.out.below hb183 (Nat.le_refl _))
  have B197 := Lib.hid (B178.out.trans (hb183.mono B178.out.size))
  clear hb183
  go_wp2
  go_ret
  exact ⟨rfl, B197.out⟩
set_option maxHeartbeats 16000000 in
theorem bfinds_11 (a b : Bk) (z : List Int) (w : World) (hlaid : Laid w) (wa : BkAt w a) (wb : BkAt w b) (wz : z.length = 16 ∧ AllBytes z) (p : (fewB a.rs && fewB b.rs) = true) (X : List Rc) (r1 r2 : Rc) (iJX : bjE a.rs b.rs = (0, X)) (iMX : bmay X = true) (iBA : bat a.rs z = some r1) (iBB : bat b.rs z = some r2) (iBJ : bat X z = some (jn r1 r2)) (iJR : r1.join r2 = some (jn r1 r2)) (iSV : (jn r1 r2).same (jn r1 r2) = true) :
    Calls Tryd.prog 6 #[.agg #[.slice a.A a.xs.length a.c], .agg #[.slice b.A b.xs.length b.c], .agg (bvals z)] w fun e w' => e = .returned (.bool true) ∧ Below w.heap.size w w' := by
  have HLA := Lib.hid (fun (X : World) (hX : Below w.heap.size w X) => hlaid.below hX (Nat.le_refl _))
  have Fa := Lib.hid wa
  have Fb := Lib.hid wb
  have ZI := Lib.hid wz
  have hz := zeroX
  clear hlaid wa wb wz
  simp only [Bool.and_eq_true] at p
  have PA := Lib.hid p.1
  have PB := Lib.hid p.2
  have ZA := Lib.hid (fewB_fs p.1).2
  have ZB := Lib.hid (fewB_fs p.2).2
  have JX := Lib.hid iJX
  have MX := Lib.hid iMX
  have BA := Lib.hid iBA
  have BB := Lib.hid iBB
  have BJ := Lib.hid iBJ
  have JR := Lib.hid iJR
  have SV := Lib.hid iSV
  clear p iJX iMX iBA iBB iBJ iJR iSV
  have B1 := Lib.hid (Below.refl w.heap.size w)
  have T2n := BoAt.new w (.slice a.A a.xs.length a.c)
  have T2 := Lib.hid T2n
  clear T2n
  have B3 := Lib.hid (B1.out.alloc B1.out.size (.cells #[(.slice a.A a.xs.length a.c)] 41))
  have T4 := Lib.hid (T2.out.old (.cells #[(.slice b.A b.xs.length b.c)] 41))
  have T5n := BoAt.new (w.alloc (.cells #[(.slice a.A a.xs.length a.c)] 41)) (.slice b.A b.xs.length b.c)
  simp only [World.size_alloc] at T5n
  have T5 := Lib.hid T5n
  clear T5n
  have B6 := Lib.hid (B3.out.alloc B3.out.size (.cells #[(.slice b.A b.xs.length b.c)] 41))
  have T7 := Lib.hid (T4.out.old (.cells (bvals z) 23))
  have T8 := Lib.hid (T5.out.old (.cells (bvals z) 23))
  have T9n := IdAt.new ((w.alloc (.cells #[(.slice a.A a.xs.length a.c)] 41)).alloc (.cells #[(.slice b.A b.xs.length b.c)] 41)) ZI.out.1
  simp only [World.size_alloc] at T9n
  have T9 := Lib.hid T9n
  clear T9n
  have B10 := Lib.hid (B6.out.alloc B6.out.size (.cells (bvals z) 23))
  have F11 := Lib.hid (Fa.out.below B10.out (Nat.le_refl _))
  have F12 := Lib.hid (Fb.out.below B10.out (Nat.le_refl _))
  go_enter Tryd.func6, Tryd.ntmps6
  have C13 := Lib.hid (bkAwake (((w.alloc (.cells #[(.slice a.A a.xs.length a.c)] 41)).alloc (.cells #[(.slice b.A b.xs.length b.c)] 41)).alloc (.cells (bvals z) 23)) (HLA.out _ B10.out))
  go_wp2_with fail
  refine C13.out.mono ?_
  rintro e w14 ⟨rfl, hb15⟩
  have T16 := Lib.hid (T7.out.below hb15 T7.out.lt)
  have T17 := Lib.hid (T8.out.below hb15 T8.out.lt)
  have T18 := Lib.hid (T9.out.below hb15 T9.out.lt)
  have F19 := Lib.hid (F11.out.below hb15 (Nat.le_refl _))
  have F20 := Lib.hid (F12.out.below hb15 (Nat.le_refl _))
  have B21 := Lib.hid (B10.out.trans (hb15.mono B10.out.size))
  clear hb15
  have M22 := Lib.hid (T16.out.load)
  have C23 := Lib.hid (fewB_any a w14 F19.out)
  rw [PA.out] at C23
  go_wp2_with (first | ((with_reducible refine wpList_load_by (o := ⟨some 21, .load 41 (.tmp 3), _, _, _, _⟩) ?e1 41 (.tmp 3) ?e2 ⟨w.heap.size, 0, none⟩ ?e3 _ M22.out ?_); (case e1 => rfl); (case e2 => rfl); (case e3 => rfl)))
  refine C23.out.mono ?_
  rintro e w24 ⟨rfl, hb25⟩
  have T26 := Lib.hid (T16.out.below hb25 T16.out.lt)
  have T27 := Lib.hid (T17.out.below hb25 T17.out.lt)
  have T28 := Lib.hid (T18.out.below hb25 T18.out.lt)
  have F29 := Lib.hid (F19.out.below hb25 (Nat.le_refl _))
  have F30 := Lib.hid (F20.out.below hb25 (Nat.le_refl _))
  have B31 := Lib.hid (B21.out.trans (hb25.mono B21.out.size))
  clear hb25
  have M32 := Lib.hid (T27.out.load)
  have C33 := Lib.hid (fewB_any b w24 F30.out)
  rw [PB.out] at C33
  go_wp2_with (first | ((with_reducible refine wpList_load_by (o := ⟨some 23, .load 41 (.tmp 4), _, _, _, _⟩) ?e1 41 (.tmp 4) ?e2 ⟨(w.heap.size + 1), 0, none⟩ ?e3 _ M32.out ?_); (case e1 => rfl); (case e2 => rfl); (case e3 => rfl)))
  refine C33.out.mono ?_
  rintro e w34 ⟨rfl, hb35⟩
  have T36 := Lib.hid (T26.out.below hb35 T26.out.lt)
  have T37 := Lib.hid (T27.out.below hb35 T27.out.lt)
  have T38 := Lib.hid (T28.out.below hb35 T28.out.lt)
  have F39 := Lib.hid (F29.out.below hb35 (Nat.le_refl _))
  have F40 := Lib.hid (F30.out.below hb35 (Nat.le_refl _))
  have B41 := Lib.hid (B31.out.trans (hb35.mono B31.out.size))
  clear hb35
  have M45 := Lib.hid (T36.out.load)
  have M46 := Lib.hid (T37.out.load)
  have C47 := Lib.hid (bjoin_any a b w34 (HLA.out _ B41.out) F39.out F40.out)
  unfold BJoinPost at C47
  rw [JX.out] at C47
  dsimp only at C47
  go_wp2_with (first | ((with_reducible refine wpList_load_by (o := ⟨some 26, .load 41 (.tmp 3), _, _, _, _⟩) ?e1 41 (.tmp 3) ?e2 ⟨w.heap.size, 0, none⟩ ?e3 _ M45.out ?_); (case e1 => rfl); (case e2 => rfl); (case e3 => rfl)) | ((with_reducible refine wpList_load_by (o := ⟨some 27, .load 41 (.tmp 4), _, _, _, _⟩) ?e1 41 (.tmp 4) ?e2 ⟨(w.heap.size + 1), 0, none⟩ ?e3 _ M46.out ?_); (case e1 => rfl); (case e2 => rfl); (case e3 => rfl)))
  refine C47.out.mono ?_
  rintro e w48 ⟨d42, rfl, hd43, hk44, hb49⟩
  have T50 := Lib.hid (T36.out.below hb49 T36.out.lt)
  have T51 := Lib.hid (T37.out.below hb49 T37.out.lt)
  have T52 := Lib.hid (T38.out.below hb49 T38.out.lt)
  have F53 := Lib.hid (F39.out.below hb49 (Nat.le_refl _))
  have F54 := Lib.hid (F40.out.below hb49 (Nat.le_refl _))
  have B55 := Lib.hid (B41.out.trans (hb49.mono B41.out.size))
  clear hb49
  have E56 := Lib.hid (hd43)
  have F57 := Lib.hid (hk44)
  clear hd43 hk44
  have hb58 := (Below.refl w48.heap.size w48).alloc (Nat.le_refl _) (.cells #[(.slice d42.A d42.xs.length d42.c)] 41)
  have T59 := Lib.hid (BoAt.new w48 (.slice d42.A d42.xs.length d42.c))
  have T60 := Lib.hid (T50.out.below hb58 T50.out.lt)
  have T61 := Lib.hid (T51.out.below hb58 T51.out.lt)
  have T62 := Lib.hid (T52.out.below hb58 T52.out.lt)
  have F63 := Lib.hid (F53.out.below hb58 (Nat.le_refl _))
  have F64 := Lib.hid (F54.out.below hb58 (Nat.le_refl _))
  have F65 := Lib.hid (F57.out.below hb58 (Nat.le_refl _))
  have B66 := Lib.hid (B55.out.trans (hb58.mono B55.out.size))
  clear hb58
  have Z67 := Lib.hid (bmay_fs E56.out MX.out)
  have M71 := Lib.hid (T60.out.load)
  have M72 := Lib.hid (load_arr16 T62.out)
  have C73 := Lib.hid (bfind_any a z (w48.alloc (.cells #[(.slice d42.A d42.xs.length d42.c)] 41)) F63.out ZI.out.1 ZI.out.2 ZA.out)
  unfold BFindPost at C73
  rw [BA.out] at C73
  try dsimp only [Option.isSome_some, Option.isSome_none, Option.getD_some, Option.getD_none] at C73
  go_wp2_with (first | ((with_reducible refine wpList_load_by (o := ⟨some 47, .load 41 (.tmp 3), _, _, _, _⟩) ?e1 41 (.tmp 3) ?e2 ⟨w.heap.size, 0, none⟩ ?e3 _ M71.out ?_); (case e1 => rfl); (case e2 => rfl); (case e3 => rfl)) | ((with_reducible refine wpList_load_by (o := ⟨some 48, .load 23 (.tmp 5), _, _, _, _⟩) ?e1 23 (.tmp 5) ?e2 ⟨(w.heap.size + 1 + 1), 0, none⟩ ?e3 _ M72.out ?_); (case e1 => rfl); (case e2 => rfl); (case e3 => rfl)))
  refine C73.out.mono ?_
  rintro e w74 ⟨y68, rfl, hd69, hk70, hb75⟩
  have T76 := Lib.hid (T60.out.below hb75 T60.out.lt)
  have T77 := Lib.hid (T61.out.below hb75 T61.out.lt)
  have T78 := Lib.hid (T62.out.below hb75 T62.out.lt)
  have T79 := Lib.hid (T59.out.below hb75 T59.out.lt)
  have F80 := Lib.hid (F63.out.below hb75 (Nat.le_refl _))
  have F81 := Lib.hid (F64.out.below hb75 (Nat.le_refl _))
  have F82 := Lib.hid (F65.out.below hb75 (Nat.le_refl _))
  have B83 := Lib.hid (B66.out.trans (hb75.mono B66.out.size))
  clear hb75
  have E84 := Lib.hid (hd69)
  have F85 := Lib.hid (hk70)
  have Z86 := Lib.hid (hk70.len)
  clear hd69 hk70
  go_wp2_with (first | ((with_reducible refine wpList_store_newx (o := ⟨none, .store 28 (.tmp 12) (.tmp 50), _, _, _, _⟩) (w := w74) ?e1 (.tmp 12) (.tmp 50) ?e2 w74.heap.size ?e0 ?e3 y68 ?e4 Z86.out ?_); (case e1 => rfl); (case e2 => rfl); (case e0 => rfl); (case e3 => rfl); (case e4 => rfl); intro w90 hb91 hx92 hs93; have T94 := Lib.hid hx92; clear hx92 hs93; have T95 := Lib.hid (T76.out.below hb91 T76.out.lt); have T96 := Lib.hid (T77.out.below hb91 T77.out.lt); have T97 := Lib.hid (T78.out.below hb91 T78.out.lt); have T98 := Lib.hid (T79.out.below hb91 T79.out.lt); have F99 := Lib.hid (F80.out.below hb91 (Nat.le_refl _)); have F100 := Lib.hid (F81.out.below hb91 (Nat.le_refl _)); have F101 := Lib.hid (F82.out.below hb91 (Nat.le_refl _)); have F102 := Lib.hid (F85.out.below hb91 (Nat.le_refl _)); have B103 := Lib.hid (B83.out.trans (hb91.mono B83.out.size)); clear hb91; have M104 := Lib.hid (T96.out.load); have M105 := Lib.hid (load_arr16 T97.out); have C106 := Lib.hid (bfind_any b z w90 F100.out ZI.out.1 ZI.out.2 ZB.out); unfold BFindPost at C106; rw [BB.out] at C106; try dsimp only [Option.isSome_some, Option.isSome_none, Option.getD_some, Option.getD_none] at C106) | ((with_reducible refine wpList_load_by (o := ⟨some 53, .load 41 (.tmp 4), _, _, _, _⟩) ?e1 41 (.tmp 4) ?e2 ⟨(w.heap.size + 1), 0, none⟩ ?e3 _ M104.out ?_); (case e1 => rfl); (case e2 => rfl); (case e3 => rfl)) | ((with_reducible refine wpList_load_by (o := ⟨some 54, .load 23 (.tmp 5), _, _, _, _⟩) ?e1 23 (.tmp 5) ?e2 ⟨(w.heap.size + 1 + 1), 0, none⟩ ?e3 _ M105.out ?_); (case e1 => rfl); (case e2 => rfl); (case e3 => rfl)))
  refine C106.out.mono ?_
  rintro e w107 ⟨y87, rfl, hd88, hk89, hb108⟩
  have T109 := Lib.hid (T95.out.below hb108 T95.out.lt)
  have T110 := Lib.hid (T96.out.below hb108 T96.out.lt)
  have T111 := Lib.hid (T97.out.below hb108 T97.out.lt)
  have T112 := Lib.hid (T98.out.below hb108 T98.out.lt)
  have T113 := Lib.hid (T94.out.below hb108 T94.out.lt)
  have F114 := Lib.hid (F99.out.below hb108 (Nat.le_refl _))
  have F115 := Lib.hid (F100.out.below hb108 (Nat.le_refl _))
  have F116 := Lib.hid (F101.out.below hb108 (Nat.le_refl _))
  have F117 := Lib.hid (F102.out.below hb108 (Nat.le_refl _))
  have B118 := Lib.hid (B103.out.trans (hb108.mono B103.out.size))
  clear hb108
  have E119 := Lib.hid (hd88)
  have F120 := Lib.hid (hk89)
  have Z121 := Lib.hid (hk89.len)
  clear hd88 hk89
  go_wp2_with (first | ((with_reducible refine wpList_store_newx (o := ⟨none, .store 28 (.tmp 14) (.tmp 56), _, _, _, _⟩) (w := w107) ?e1 (.tmp 14) (.tmp 56) ?e2 w107.heap.size ?e0 ?e3 y87 ?e4 Z121.out ?_); (case e1 => rfl); (case e2 => rfl); (case e0 => rfl); (case e3 => rfl); (case e4 => rfl); intro w125 hb126 hx127 hs128; have T129 := Lib.hid hx127; clear hx127 hs128; have T130 := Lib.hid (T109.out.below hb126 T109.out.lt); have T131 := Lib.hid (T110.out.below hb126 T110.out.lt); have T132 := Lib.hid (T111.out.below hb126 T111.out.lt); have T133 := Lib.hid (T112.out.below hb126 T112.out.lt); have T134 := Lib.hid (T113.out.below hb126 T113.out.lt); have F135 := Lib.hid (F114.out.below hb126 (Nat.le_refl _)); have F136 := Lib.hid (F115.out.below hb126 (Nat.le_refl _)); have F137 := Lib.hid (F116.out.below hb126 (Nat.le_refl _)); have F138 := Lib.hid (F117.out.below hb126 (Nat.le_refl _)); have F139 := Lib.hid (F120.out.below hb126 (Nat.le_refl _)); have B140 := Lib.hid (B118.out.trans (hb126.mono B118.out.size)); clear hb126; have M141 := Lib.hid (T133.out.load); have M142 := Lib.hid (load_arr16 T132.out); have C143 := Lib.hid (bfind_any d42 z w125 F137.out ZI.out.1 ZI.out.2 Z67.out); unfold BFindPost at C143; try rw [E56.out] at C143; rw [BJ.out] at C143; try dsimp only [Option.isSome_some, Option.isSome_none, Option.getD_some, Option.getD_none] at C143) | ((with_reducible refine wpList_load_by (o := ⟨some 59, .load 41 (.tmp 10), _, _, _, _⟩) ?e1 41 (.tmp 10) ?e2 ⟨w48.heap.size, 0, none⟩ ?e3 _ M141.out ?_); (case e1 => rfl); (case e2 => rfl); (case e3 => rfl)) | ((with_reducible refine wpList_load_by (o := ⟨some 60, .load 23 (.tmp 5), _, _, _, _⟩) ?e1 23 (.tmp 5) ?e2 ⟨(w.heap.size + 1 + 1), 0, none⟩ ?e3 _ M142.out ?_); (case e1 => rfl); (case e2 => rfl); (case e3 => rfl)))
  refine C143.out.mono ?_
  rintro e w144 ⟨y122, rfl, hd123, hk124, hb145⟩
  have T146 := Lib.hid (T130.out.below hb145 T130.out.lt)
  have T147 := Lib.hid (T131.out.below hb145 T131.out.lt)
  have T148 := Lib.hid (T132.out.below hb145 T132.out.lt)
  have T149 := Lib.hid (T133.out.below hb145 T133.out.lt)
  have T150 := Lib.hid (T134.out.below hb145 T134.out.lt)
  have T151 := Lib.hid (T129.out.below hb145 T129.out.lt)
  have F152 := Lib.hid (F135.out.below hb145 (Nat.le_refl _))
  have F153 := Lib.hid (F136.out.below hb145 (Nat.le_refl _))
  have F154 := Lib.hid (F137.out.below hb145 (Nat.le_refl _))
  have F155 := Lib.hid (F138.out.below hb145 (Nat.le_refl _))
  have F156 := Lib.hid (F139.out.below hb145 (Nat.le_refl _))
  have B157 := Lib.hid (B140.out.trans (hb145.mono B140.out.size))
  clear hb145
  have E158 := Lib.hid (hd123)
  have F159 := Lib.hid (hk124)
  have Z160 := Lib.hid (hk124.len)
  clear hd123 hk124
  go_wp2_with (first | ((with_reducible refine wpList_store_newx (o := ⟨none, .store 28 (.tmp 16) (.tmp 62), _, _, _, _⟩) (w := w144) ?e1 (.tmp 16) (.tmp 62) ?e2 w144.heap.size ?e0 ?e3 y122 ?e4 Z160.out ?_); (case e1 => rfl); (case e2 => rfl); (case e0 => rfl); (case e3 => rfl); (case e4 => rfl); intro w164 hb165 hx166 hs167; have T168 := Lib.hid hx166; clear hx166 hs167; have T169 := Lib.hid (T146.out.below hb165 T146.out.lt); have T170 := Lib.hid (T147.out.below hb165 T147.out.lt); have T171 := Lib.hid (T148.out.below hb165 T148.out.lt); have T172 := Lib.hid (T149.out.below hb165 T149.out.lt); have T173 := Lib.hid (T150.out.below hb165 T150.out.lt); have T174 := Lib.hid (T151.out.below hb165 T151.out.lt); have F175 := Lib.hid (F152.out.below hb165 (Nat.le_refl _)); have F176 := Lib.hid (F153.out.below hb165 (Nat.le_refl _)); have F177 := Lib.hid (F154.out.below hb165 (Nat.le_refl _)); have F178 := Lib.hid (F155.out.below hb165 (Nat.le_refl _)); have F179 := Lib.hid (F156.out.below hb165 (Nat.le_refl _)); have F180 := Lib.hid (F159.out.below hb165 (Nat.le_refl _)); have B181 := Lib.hid (B157.out.trans (hb165.mono B157.out.size)); clear hb165; have M182 := Lib.hid (T173.out.load); have M183 := Lib.hid (T174.out.load); have C184 := Lib.hid (xjoin_any y68 y87 w164 (HLA.out _ B181.out) F178.out F179.out); try rw [E84.out] at C184; try rw [E119.out] at C184; rw [JR.out] at C184; try dsimp only [Option.isSome_some, Option.getD_some, Option.isSome_none, Option.getD_none] at C184) | ((with_reducible refine wpList_load_by (o := ⟨some 69, .load 28 (.tmp 12), _, _, _, _⟩) ?e1 28 (.tmp 12) ?e2 ⟨w74.heap.size, 0, none⟩ ?e3 _ M182.out ?_); (case e1 => rfl); (case e2 => rfl); (case e3 => rfl)) | ((with_reducible refine wpList_load_by (o := ⟨some 70, .load 28 (.tmp 14), _, _, _, _⟩) ?e1 28 (.tmp 14) ?e2 ⟨w107.heap.size, 0, none⟩ ?e3 _ M183.out ?_); (case e1 => rfl); (case e2 => rfl); (case e3 => rfl)))
  refine C184.out.mono ?_
  rintro e w185 ⟨y161, rfl, hd162, hk163, hb186⟩
  have T187 := Lib.hid (T169.out.below hb186 T169.out.lt)
  have T188 := Lib.hid (T170.out.below hb186 T170.out.lt)
  have T189 := Lib.hid (T171.out.below hb186 T171.out.lt)
  have T190 := Lib.hid (T172.out.below hb186 T172.out.lt)
  have T191 := Lib.hid (T173.out.below hb186 T173.out.lt)
  have T192 := Lib.hid (T174.out.below hb186 T174.out.lt)
  have T193 := Lib.hid (T168.out.below hb186 T168.out.lt)
  have F194 := Lib.hid (F175.out.below hb186 (Nat.le_refl _))
  have F195 := Lib.hid (F176.out.below hb186 (Nat.le_refl _))
  have F196 := Lib.hid (F177.out.below hb186 (Nat.le_refl _))
  have F197 := Lib.hid (F178.out.below hb186 (Nat.le_refl _))
  have F198 := Lib.hid (F179.out.below hb186 (Nat.le_refl _))
  have F199 := Lib.hid (F180.out.below hb186 (Nat.le_refl _))
  have B200 := Lib.hid (B181.out.trans (hb186.mono B181.out.size))
  clear hb186
  have E201 := Lib.hid (hd162)
  have F202 := Lib.hid (hk163)
  have Z203 := Lib.hid (hk163.len)
  clear hd162 hk163
  go_wp2_with (first | ((with_reducible refine wpList_store_newx (o := ⟨none, .store 28 (.tmp 18) (.tmp 72), _, _, _, _⟩) (w := w185) ?e1 (.tmp 18) (.tmp 72) ?e2 w185.heap.size ?e0 ?e3 y161 ?e4 Z203.out ?_); (case e1 => rfl); (case e2 => rfl); (case e0 => rfl); (case e3 => rfl); (case e4 => rfl); intro w204 hb205 hx206 hs207; have T208 := Lib.hid hx206; clear hx206 hs207; have T209 := Lib.hid (T187.out.below hb205 T187.out.lt); have T210 := Lib.hid (T188.out.below hb205 T188.out.lt); have T211 := Lib.hid (T189.out.below hb205 T189.out.lt); have T212 := Lib.hid (T190.out.below hb205 T190.out.lt); have T213 := Lib.hid (T191.out.below hb205 T191.out.lt); have T214 := Lib.hid (T192.out.below hb205 T192.out.lt); have T215 := Lib.hid (T193.out.below hb205 T193.out.lt); have F216 := Lib.hid (F194.out.below hb205 (Nat.le_refl _)); have F217 := Lib.hid (F195.out.below hb205 (Nat.le_refl _)); have F218 := Lib.hid (F196.out.below hb205 (Nat.le_refl _)); have F219 := Lib.hid (F197.out.below hb205 (Nat.le_refl _)); have F220 := Lib.hid (F198.out.below hb205 (Nat.le_refl _)); have F221 := Lib.hid (F199.out.below hb205 (Nat.le_refl _)); have F222 := Lib.hid (F202.out.below hb205 (Nat.le_refl _)); have B223 := Lib.hid (B200.out.trans (hb205.mono B200.out.size)); clear hb205; have M224 := Lib.hid (T215.out.load); have M225 := Lib.hid (T208.out.load); have C226 := Lib.hid (xsame_any y122 y161 w204 F221.out F222.out); try rw [E158.out] at C226; try rw [E201.out] at C226; rw [SV.out] at C226) | ((with_reducible refine wpList_load_by (o := ⟨some 79, .load 28 (.tmp 16), _, _, _, _⟩) ?e1 28 (.tmp 16) ?e2 ⟨w144.heap.size, 0, none⟩ ?e3 _ M224.out ?_); (case e1 => rfl); (case e2 => rfl); (case e3 => rfl)) | ((with_reducible refine wpList_load_by (o := ⟨some 80, .load 28 (.tmp 18), _, _, _, _⟩) ?e1 28 (.tmp 18) ?e2 ⟨w185.heap.size, 0, none⟩ ?e3 _ M225.out ?_); (case e1 => rfl); (case e2 => rfl); (case e3 => rfl)))
  refine C226.out.mono ?_
  rintro e w227 ⟨rfl, hb228⟩
  have T229 := Lib.hid (T209.out.below hb228 T209.out.lt)
  have T230 := Lib.hid (T210.out.below hb228 T210.out.lt)
  have T231 := Lib.hid (T211.out.below hb228 T211.out.lt)
  have T232 := Lib.hid (T212.out.below hb228 T212.out.lt)
  have T233 := Lib.hid (T213.out.below hb228 T213.out.lt)
  have T234 := Lib.hid (T214.out.below hb228 T214.out.lt)
  have T235 := Lib.hid (T215.out.below hb228 T215.out.lt)
  have T236 := Lib.hid (T208.out.below hb228 T208.out.lt)
  have F237 := Lib.hid (F216.out.below hb228 (Nat.le_refl _))
  have F238 := Lib.hid (F217.out.below hb228 (Nat.le_refl _))
  have F239 := Lib.hid (F218.out.below hb228 (Nat.le_refl _))
  have F240 := Lib.hid (F219.out.below hb228 (Nat.le_refl _))
  have F241 := Lib.hid (F220.out.below hb228 (Nat.le_refl _))
  have F242 := Lib.hid (F221.out.below hb228 (Nat.le_refl _))
  have F243 := Lib.hid (F222.out.below hb228 (Nat.le_refl _))
  have B244 := Lib.hid (B223.out.trans (hb228.mono B223.out.size))
  clear hb228
  go_wp2
  go_ret
  exact ⟨rfl, B244.out⟩
theorem walk_bookFinds (a b : Bk) (z : List Int) (w : World) (hlaid : Laid w) (wa : BkAt w a) (wb : BkAt w b) (wz : z.length = 16 ∧ AllBytes z) :
    Calls Tryd.prog 6 #[.agg #[.slice a.A a.xs.length a.c], .agg #[.slice b.A b.xs.length b.c], .agg (bvals z)] w fun e w' => e = .returned (.bool true) ∧ Below w.heap.size w w' := by
  cases p : (fewB a.rs && fewB b.rs)
  · exact bfinds_few a b z w hlaid wa wb wz p
  · cases m : (bmay a.rs && bmay b.rs)
    · exact bfinds_err1 a b z w hlaid wa wb wz p (bjE_no m)
    · simp only [Bool.and_eq_true] at m
      by_cases hx : 10 < (bjoin a.rs b.rs).length
      · exact bfinds_err4 a b z w hlaid wa wb wz p (bjE_large m.1 m.2 hx)
      · have hx' : (bjoin a.rs b.rs).length ≤ 10 := by omega
        have JX := bjE_yes m.1 m.2 hx'
        have MX := bjoin_bmay m.1 m.2 hx'
        obtain ⟨-, may1, ri1⟩ := bmay_iff.1 m.1
        obtain ⟨-, may2, ri2⟩ := bmay_iff.1 m.2
        have BJ := bat_bjoin ri1 ri2 z
        cases h1 : bat a.rs z with
        | none => cases h2 : bat b.rs z with
          | none => exact bfinds_00 a b z w hlaid wa wb wz p _ rc0 rc0 JX MX h1 h2 (by rw [BJ, h1, h2]; rfl)
          | some r2 => exact bfinds_01 a b z w hlaid wa wb wz p _ rc0 r2 JX MX h1 h2 (by rw [BJ, h1, h2]; rfl) (Rc.same_iff.2 rfl)
        | some r1 => cases h2 : bat b.rs z with
          | none => exact bfinds_10 a b z w hlaid wa wb wz p _ r1 rc0 JX MX h1 h2 (by rw [BJ, h1, h2]; rfl) (Rc.same_iff.2 rfl)
          | some r2 =>
            have q1 := bat_may may1 h1
            have q2 := bat_may may2 h2
            exact bfinds_11 a b z w hlaid wa wb wz p _ r1 r2 JX MX h1 h2 (by rw [BJ, h1, h2]; rfl) (join_eq q1.1 q2.1 (q1.2.trans q2.2.symm)) (Rc.same_iff.2 rfl)
end Go.Proofs.YtepapdnchpolmaaDoor

