import Derived.Test.YtepapdnchpolmaaDoorBkAwake
import Derived.Test.YtepapdnchpolmaaDoorGArgs
import Derived.Test.YtepapdnchpolmaaDoorBkFew
/-
  The law BookNames: for every three names and every book it answers true, and nothing that was there is written.
-/
namespace Go.Proofs.YtepapdnchpolmaaDoor
open Go.RowKit WM
set_option linter.unusedVariables false
set_option maxRecDepth 100000
theorem rise_at {b : Bk} (h : Rise b.rs) (n : Nat) (h1 : 1 ≤ n) (h2 : n < b.xs.length) : lessL (b.xs.getD (n - 1) rcA0).R.z (b.xs.getD n rcA0).R.z = true := by
  unfold Rise Bk.rs at h
  rw [List.pairwise_map, List.pairwise_iff_getElem] at h
  have := h (n - 1) n (by omega) h2 (by omega)
  simp only [List.getD, List.getElem?_eq_getElem (show n - 1 < b.xs.length by omega), List.getElem?_eq_getElem h2, Option.getD_some]
  exact this
set_option maxHeartbeats 16000000 in
theorem bnames_few (x y z : List Int) (b : Bk) (w : World) (hlaid : Laid w) (wx : x.length = 16 ∧ AllBytes x) (wy : y.length = 16 ∧ AllBytes y) (wz : z.length = 16 ∧ AllBytes z) (wb : BkAt w b) (p : fewB b.rs = false) :
    Calls Tryd.prog 10 #[.agg (bvals x), .agg (bvals y), .agg (bvals z), .agg #[.slice b.A b.xs.length b.c]] w fun e w' => e = .returned (.bool true) ∧ Below w.heap.size w w' := by
  have HLA := Lib.hid (fun (X : World) (hX : Below w.heap.size w X) => hlaid.below hX (Nat.le_refl _))
  have Fb := Lib.hid wb
  have ZX := Lib.hid wx
  have ZY := Lib.hid wy
  have ZZ := Lib.hid wz
  have PB := Lib.hid p
  clear hlaid wx wy wz wb p
  have B1 := Lib.hid (Below.refl w.heap.size w)
  have T2n := IdAt.new w ZX.out.1
  have T2 := Lib.hid T2n
  clear T2n
  have B3 := Lib.hid (B1.out.alloc B1.out.size (.cells (bvals x) 23))
  have T4 := Lib.hid (T2.out.old (.cells (bvals y) 23))
  have T5n := IdAt.new (w.alloc (.cells (bvals x) 23)) ZY.out.1
  simp only [World.size_alloc] at T5n
  have T5 := Lib.hid T5n
  clear T5n
  have B6 := Lib.hid (B3.out.alloc B3.out.size (.cells (bvals y) 23))
  have T7 := Lib.hid (T4.out.old (.cells (bvals z) 23))
  have T8 := Lib.hid (T5.out.old (.cells (bvals z) 23))
  have T9n := IdAt.new ((w.alloc (.cells (bvals x) 23)).alloc (.cells (bvals y) 23)) ZZ.out.1
  simp only [World.size_alloc] at T9n
  have T9 := Lib.hid T9n
  clear T9n
  have B10 := Lib.hid (B6.out.alloc B6.out.size (.cells (bvals z) 23))
  have T11 := Lib.hid (T7.out.old (.cells #[(.slice b.A b.xs.length b.c)] 41))
  have T12 := Lib.hid (T8.out.old (.cells #[(.slice b.A b.xs.length b.c)] 41))
  have T13 := Lib.hid (T9.out.old (.cells #[(.slice b.A b.xs.length b.c)] 41))
  have T14n := BoAt.new (((w.alloc (.cells (bvals x) 23)).alloc (.cells (bvals y) 23)).alloc (.cells (bvals z) 23)) (.slice b.A b.xs.length b.c)
  simp only [World.size_alloc] at T14n
  have T14 := Lib.hid T14n
  clear T14n
  have B15 := Lib.hid (B10.out.alloc B10.out.size (.cells #[(.slice b.A b.xs.length b.c)] 41))
  have F16 := Lib.hid (Fb.out.below B15.out (Nat.le_refl _))
  go_enter Tryd.func10, Tryd.ntmps10
  have C17 := Lib.hid (bkAwake ((((w.alloc (.cells (bvals x) 23)).alloc (.cells (bvals y) 23)).alloc (.cells (bvals z) 23)).alloc (.cells #[(.slice b.A b.xs.length b.c)] 41)) (HLA.out _ B15.out))
  go_wp2_with fail
  refine C17.out.mono ?_
  rintro e w18 ⟨rfl, hb19⟩
  have T20 := Lib.hid (T11.out.below hb19 T11.out.lt)
  have T21 := Lib.hid (T12.out.below hb19 T12.out.lt)
  have T22 := Lib.hid (T13.out.below hb19 T13.out.lt)
  have T23 := Lib.hid (T14.out.below hb19 T14.out.lt)
  have F24 := Lib.hid (F16.out.below hb19 (Nat.le_refl _))
  have B25 := Lib.hid (B15.out.trans (hb19.mono B15.out.size))
  clear hb19
  have M26 := Lib.hid (T23.out.load)
  have C27 := Lib.hid (fewB_any b w18 F24.out)
  rw [PB.out] at C27
  go_wp2_with (first | ((with_reducible refine wpList_load_by (o := ⟨some 16, .load 41 (.tmp 7), _, _, _, _⟩) ?e1 41 (.tmp 7) ?e2 ⟨(w.heap.size + 1 + 1 + 1), 0, none⟩ ?e3 _ M26.out ?_); (case e1 => rfl); (case e2 => rfl); (case e3 => rfl)))
  refine C27.out.mono ?_
  rintro e w28 ⟨rfl, hb29⟩
  have T30 := Lib.hid (T20.out.below hb29 T20.out.lt)
  have T31 := Lib.hid (T21.out.below hb29 T21.out.lt)
  have T32 := Lib.hid (T22.out.below hb29 T22.out.lt)
  have T33 := Lib.hid (T23.out.below hb29 T23.out.lt)
  have F34 := Lib.hid (F24.out.below hb29 (Nat.le_refl _))
  have B35 := Lib.hid (B25.out.trans (hb29.mono B25.out.size))
  clear hb29
  have M36 := Lib.hid (load_arr16 T30.out)
  have M37 := Lib.hid (load_arr16 T31.out)
  have C38 := Lib.hid (bless_any x y w28 ZX.out.2 ZY.out.2 ZX.out.1 ZY.out.1)
  go_wp2_with (first | ((with_reducible refine wpList_load_by (o := ⟨some 18, .load 23 (.tmp 4), _, _, _, _⟩) ?e1 23 (.tmp 4) ?e2 ⟨w.heap.size, 0, none⟩ ?e3 _ M36.out ?_); (case e1 => rfl); (case e2 => rfl); (case e3 => rfl)) | ((with_reducible refine wpList_load_by (o := ⟨some 19, .load 23 (.tmp 5), _, _, _, _⟩) ?e1 23 (.tmp 5) ?e2 ⟨(w.heap.size + 1), 0, none⟩ ?e3 _ M37.out ?_); (case e1 => rfl); (case e2 => rfl); (case e3 => rfl)))
  refine C38.out.mono ?_
  rintro e w39 ⟨rfl, hb40⟩
  have T41 := Lib.hid (T30.out.below hb40 T30.out.lt)
  have T42 := Lib.hid (T31.out.below hb40 T31.out.lt)
  have T43 := Lib.hid (T32.out.below hb40 T32.out.lt)
  have T44 := Lib.hid (T33.out.below hb40 T33.out.lt)
  have F45 := Lib.hid (F34.out.below hb40 (Nat.le_refl _))
  have B46 := Lib.hid (B35.out.trans (hb40.mono B35.out.size))
  clear hb40
  have M47 := Lib.hid (load_arr16 T42.out)
  have M48 := Lib.hid (load_arr16 T41.out)
  have C49 := Lib.hid (bless_any y x w39 ZY.out.2 ZX.out.2 ZY.out.1 ZX.out.1)
  go_wp2_with (first | ((with_reducible refine wpList_load_by (o := ⟨some 21, .load 23 (.tmp 5), _, _, _, _⟩) ?e1 23 (.tmp 5) ?e2 ⟨(w.heap.size + 1), 0, none⟩ ?e3 _ M47.out ?_); (case e1 => rfl); (case e2 => rfl); (case e3 => rfl)) | ((with_reducible refine wpList_load_by (o := ⟨some 22, .load 23 (.tmp 4), _, _, _, _⟩) ?e1 23 (.tmp 4) ?e2 ⟨w.heap.size, 0, none⟩ ?e3 _ M48.out ?_); (case e1 => rfl); (case e2 => rfl); (case e3 => rfl)))
  refine C49.out.mono ?_
  rintro e w50 ⟨rfl, hb51⟩
  have T52 := Lib.hid (T41.out.below hb51 T41.out.lt)
  have T53 := Lib.hid (T42.out.below hb51 T42.out.lt)
  have T54 := Lib.hid (T43.out.below hb51 T43.out.lt)
  have T55 := Lib.hid (T44.out.below hb51 T44.out.lt)
  have F56 := Lib.hid (F45.out.below hb51 (Nat.le_refl _))
  have B57 := Lib.hid (B46.out.trans (hb51.mono B46.out.size))
  clear hb51
  have M58 := Lib.hid (load_arr16 T53.out)
  have M59 := Lib.hid (load_arr16 T54.out)
  have C60 := Lib.hid (bless_any y z w50 ZY.out.2 ZZ.out.2 ZY.out.1 ZZ.out.1)
  go_wp2_with (first | ((with_reducible refine wpList_load_by (o := ⟨some 24, .load 23 (.tmp 5), _, _, _, _⟩) ?e1 23 (.tmp 5) ?e2 ⟨(w.heap.size + 1), 0, none⟩ ?e3 _ M58.out ?_); (case e1 => rfl); (case e2 => rfl); (case e3 => rfl)) | ((with_reducible refine wpList_load_by (o := ⟨some 25, .load 23 (.tmp 6), _, _, _, _⟩) ?e1 23 (.tmp 6) ?e2 ⟨(w.heap.size + 1 + 1), 0, none⟩ ?e3 _ M59.out ?_); (case e1 => rfl); (case e2 => rfl); (case e3 => rfl)))
  refine C60.out.mono ?_
  rintro e w61 ⟨rfl, hb62⟩
  have T63 := Lib.hid (T52.out.below hb62 T52.out.lt)
  have T64 := Lib.hid (T53.out.below hb62 T53.out.lt)
  have T65 := Lib.hid (T54.out.below hb62 T54.out.lt)
  have T66 := Lib.hid (T55.out.below hb62 T55.out.lt)
  have F67 := Lib.hid (F56.out.below hb62 (Nat.le_refl _))
  have B68 := Lib.hid (B57.out.trans (hb62.mono B57.out.size))
  clear hb62
  go_wp2
  go_ret
  exact ⟨rfl, B68.out⟩
set_option maxHeartbeats 16000000 in
theorem bnames_E0 (x y z : List Int) (b : Bk) (w : World) (hlaid : Laid w) (wx : x.length = 16 ∧ AllBytes x) (wy : y.length = 16 ∧ AllBytes y) (wz : z.length = 16 ∧ AllBytes z) (wb : BkAt w b) (q : Bool) (iPB : fewB b.rs = true) (iLXY : lessL x y = false) (iLYX : lessL y x = false) (iLYZ : lessL y z = q) (iMB : bmay b.rs = false) (ie : (x == y) = true) :
    Calls Tryd.prog 10 #[.agg (bvals x), .agg (bvals y), .agg (bvals z), .agg #[.slice b.A b.xs.length b.c]] w fun e w' => e = .returned (.bool true) ∧ Below w.heap.size w w' := by
  have HLA := Lib.hid (fun (X : World) (hX : Below w.heap.size w X) => hlaid.below hX (Nat.le_refl _))
  have Fb := Lib.hid wb
  have ZX := Lib.hid wx
  have ZY := Lib.hid wy
  have ZZ := Lib.hid wz
  have PB := Lib.hid iPB
  have LXY := Lib.hid iLXY
  have LYX := Lib.hid iLYX
  have LYZ := Lib.hid iLYZ
  have MB := Lib.hid iMB
  have he := eq_id wx.2 wy.2 wx.1 wy.1
  rw [ie] at he
  have HE := Lib.hid he
  have HLEN := Lib.hid (fewB_fs iPB).1
  clear wb
  clear hlaid wx wy wz he ie iPB iLXY iLYX iLYZ iMB
  have B1 := Lib.hid (Below.refl w.heap.size w)
  have T2n := IdAt.new w ZX.out.1
  have T2 := Lib.hid T2n
  clear T2n
  have B3 := Lib.hid (B1.out.alloc B1.out.size (.cells (bvals x) 23))
  have T4 := Lib.hid (T2.out.old (.cells (bvals y) 23))
  have T5n := IdAt.new (w.alloc (.cells (bvals x) 23)) ZY.out.1
  simp only [World.size_alloc] at T5n
  have T5 := Lib.hid T5n
  clear T5n
  have B6 := Lib.hid (B3.out.alloc B3.out.size (.cells (bvals y) 23))
  have T7 := Lib.hid (T4.out.old (.cells (bvals z) 23))
  have T8 := Lib.hid (T5.out.old (.cells (bvals z) 23))
  have T9n := IdAt.new ((w.alloc (.cells (bvals x) 23)).alloc (.cells (bvals y) 23)) ZZ.out.1
  simp only [World.size_alloc] at T9n
  have T9 := Lib.hid T9n
  clear T9n
  have B10 := Lib.hid (B6.out.alloc B6.out.size (.cells (bvals z) 23))
  have T11 := Lib.hid (T7.out.old (.cells #[(.slice b.A b.xs.length b.c)] 41))
  have T12 := Lib.hid (T8.out.old (.cells #[(.slice b.A b.xs.length b.c)] 41))
  have T13 := Lib.hid (T9.out.old (.cells #[(.slice b.A b.xs.length b.c)] 41))
  have T14n := BoAt.new (((w.alloc (.cells (bvals x) 23)).alloc (.cells (bvals y) 23)).alloc (.cells (bvals z) 23)) (.slice b.A b.xs.length b.c)
  simp only [World.size_alloc] at T14n
  have T14 := Lib.hid T14n
  clear T14n
  have B15 := Lib.hid (B10.out.alloc B10.out.size (.cells #[(.slice b.A b.xs.length b.c)] 41))
  have F16 := Lib.hid (Fb.out.below B15.out (Nat.le_refl _))
  go_enter Tryd.func10, Tryd.ntmps10
  have C17 := Lib.hid (bkAwake ((((w.alloc (.cells (bvals x) 23)).alloc (.cells (bvals y) 23)).alloc (.cells (bvals z) 23)).alloc (.cells #[(.slice b.A b.xs.length b.c)] 41)) (HLA.out _ B15.out))
  go_wp2_with fail
  refine C17.out.mono ?_
  rintro e w18 ⟨rfl, hb19⟩
  have T20 := Lib.hid (T11.out.below hb19 T11.out.lt)
  have T21 := Lib.hid (T12.out.below hb19 T12.out.lt)
  have T22 := Lib.hid (T13.out.below hb19 T13.out.lt)
  have T23 := Lib.hid (T14.out.below hb19 T14.out.lt)
  have F24 := Lib.hid (F16.out.below hb19 (Nat.le_refl _))
  have B25 := Lib.hid (B15.out.trans (hb19.mono B15.out.size))
  clear hb19
  have M26 := Lib.hid (T23.out.load)
  have C27 := Lib.hid (fewB_any b w18 F24.out)
  rw [PB.out] at C27
  go_wp2_with (first | ((with_reducible refine wpList_load_by (o := ⟨some 16, .load 41 (.tmp 7), _, _, _, _⟩) ?e1 41 (.tmp 7) ?e2 ⟨(w.heap.size + 1 + 1 + 1), 0, none⟩ ?e3 _ M26.out ?_); (case e1 => rfl); (case e2 => rfl); (case e3 => rfl)))
  refine C27.out.mono ?_
  rintro e w28 ⟨rfl, hb29⟩
  have T30 := Lib.hid (T20.out.below hb29 T20.out.lt)
  have T31 := Lib.hid (T21.out.below hb29 T21.out.lt)
  have T32 := Lib.hid (T22.out.below hb29 T22.out.lt)
  have T33 := Lib.hid (T23.out.below hb29 T23.out.lt)
  have F34 := Lib.hid (F24.out.below hb29 (Nat.le_refl _))
  have B35 := Lib.hid (B25.out.trans (hb29.mono B25.out.size))
  clear hb29
  have M36 := Lib.hid (load_arr16 T30.out)
  have M37 := Lib.hid (load_arr16 T31.out)
  have C38 := Lib.hid (bless_any x y w28 ZX.out.2 ZY.out.2 ZX.out.1 ZY.out.1)
  rw [LXY.out] at C38
  go_wp2_with (first | ((with_reducible refine wpList_load_by (o := ⟨some 18, .load 23 (.tmp 4), _, _, _, _⟩) ?e1 23 (.tmp 4) ?e2 ⟨w.heap.size, 0, none⟩ ?e3 _ M36.out ?_); (case e1 => rfl); (case e2 => rfl); (case e3 => rfl)) | ((with_reducible refine wpList_load_by (o := ⟨some 19, .load 23 (.tmp 5), _, _, _, _⟩) ?e1 23 (.tmp 5) ?e2 ⟨(w.heap.size + 1), 0, none⟩ ?e3 _ M37.out ?_); (case e1 => rfl); (case e2 => rfl); (case e3 => rfl)))
  refine C38.out.mono ?_
  rintro e w39 ⟨rfl, hb40⟩
  have T41 := Lib.hid (T30.out.below hb40 T30.out.lt)
  have T42 := Lib.hid (T31.out.below hb40 T31.out.lt)
  have T43 := Lib.hid (T32.out.below hb40 T32.out.lt)
  have T44 := Lib.hid (T33.out.below hb40 T33.out.lt)
  have F45 := Lib.hid (F34.out.below hb40 (Nat.le_refl _))
  have B46 := Lib.hid (B35.out.trans (hb40.mono B35.out.size))
  clear hb40
  have M47 := Lib.hid (load_arr16 T42.out)
  have M48 := Lib.hid (load_arr16 T41.out)
  have C49 := Lib.hid (bless_any y x w39 ZY.out.2 ZX.out.2 ZY.out.1 ZX.out.1)
  rw [LYX.out] at C49
  go_wp2_with (first | ((with_reducible refine wpList_load_by (o := ⟨some 21, .load 23 (.tmp 5), _, _, _, _⟩) ?e1 23 (.tmp 5) ?e2 ⟨(w.heap.size + 1), 0, none⟩ ?e3 _ M47.out ?_); (case e1 => rfl); (case e2 => rfl); (case e3 => rfl)) | ((with_reducible refine wpList_load_by (o := ⟨some 22, .load 23 (.tmp 4), _, _, _, _⟩) ?e1 23 (.tmp 4) ?e2 ⟨w.heap.size, 0, none⟩ ?e3 _ M48.out ?_); (case e1 => rfl); (case e2 => rfl); (case e3 => rfl)))
  refine C49.out.mono ?_
  rintro e w50 ⟨rfl, hb51⟩
  have T52 := Lib.hid (T41.out.below hb51 T41.out.lt)
  have T53 := Lib.hid (T42.out.below hb51 T42.out.lt)
  have T54 := Lib.hid (T43.out.below hb51 T43.out.lt)
  have T55 := Lib.hid (T44.out.below hb51 T44.out.lt)
  have F56 := Lib.hid (F45.out.below hb51 (Nat.le_refl _))
  have B57 := Lib.hid (B46.out.trans (hb51.mono B46.out.size))
  clear hb51
  have M58 := Lib.hid (load_arr16 T53.out)
  have M59 := Lib.hid (load_arr16 T54.out)
  have C60 := Lib.hid (bless_any y z w50 ZY.out.2 ZZ.out.2 ZY.out.1 ZZ.out.1)
  rw [LYZ.out] at C60
  go_wp2_with (first | ((with_reducible refine wpList_load_by (o := ⟨some 24, .load 23 (.tmp 5), _, _, _, _⟩) ?e1 23 (.tmp 5) ?e2 ⟨(w.heap.size + 1), 0, none⟩ ?e3 _ M58.out ?_); (case e1 => rfl); (case e2 => rfl); (case e3 => rfl)) | ((with_reducible refine wpList_load_by (o := ⟨some 25, .load 23 (.tmp 6), _, _, _, _⟩) ?e1 23 (.tmp 6) ?e2 ⟨(w.heap.size + 1 + 1), 0, none⟩ ?e3 _ M59.out ?_); (case e1 => rfl); (case e2 => rfl); (case e3 => rfl)))
  refine C60.out.mono ?_
  rintro e w61 ⟨rfl, hb62⟩
  have T63 := Lib.hid (T52.out.below hb62 T52.out.lt)
  have T64 := Lib.hid (T53.out.below hb62 T53.out.lt)
  have T65 := Lib.hid (T54.out.below hb62 T54.out.lt)
  have T66 := Lib.hid (T55.out.below hb62 T55.out.lt)
  have F67 := Lib.hid (F56.out.below hb62 (Nat.le_refl _))
  have B68 := Lib.hid (B57.out.trans (hb62.mono B57.out.size))
  clear hb62
  have eq := HE.out
  have M69 := Lib.hid (load_arr16 T63.out)
  have M70 := Lib.hid (load_arr16 T64.out)
  go_wp2_with (first | ((with_reducible refine wpList_load_by (o := ⟨some 43, .load 23 (.tmp 4), _, _, _, _⟩) ?e1 23 (.tmp 4) ?e2 ⟨w.heap.size, 0, none⟩ ?e3 _ M69.out ?_); (case e1 => rfl); (case e2 => rfl); (case e3 => rfl)) | ((with_reducible refine wpList_load_by (o := ⟨some 44, .load 23 (.tmp 5), _, _, _, _⟩) ?e1 23 (.tmp 5) ?e2 ⟨(w.heap.size + 1), 0, none⟩ ?e3 _ M70.out ?_); (case e1 => rfl); (case e2 => rfl); (case e3 => rfl)))
  go_loopw [14] (fun i wr => ∃ n : Nat, 1 ≤ n ∧ n ≤ 20 ∧ i = .int .i64 n ∧ BoAt wr (w.heap.size + 1 + 1 + 1) (.slice b.A b.xs.length b.c) ∧ Below w.heap.size w wr) (fun i _ => 20 - (intOf i).toNat)
  case atStart => exact ⟨1, by omega, by omega, rfl, T66.out, B68.out⟩
  case round =>
    obtain ⟨n, hn1, hn2, rfl, hs, hb⟩ := hrel
    have hs0 := hs.c0
    by_cases hlt : n < b.xs.length
    · have t1 : (n : Int) < (b.xs.length : Int) := by omega
      have hn20 : n < 20 := by have := HLEN.out; omega
      have LB := Lib.hid hs.load
      have CM := Lib.hid (bmay_any b wr (Fb.out.below hb (Nat.le_refl _)))
      rw [MB.out] at CM
      have HS := Lib.hid hs
      have HB := Lib.hid hb
      clear hs hb
      go_wp2_with (first | ((with_reducible refine wpList_load_by (o := ⟨some 66, .load 41 (.tmp 7), _, _, _, _⟩) ?e1 41 (.tmp 7) ?e2 ⟨(w.heap.size + 1 + 1 + 1), 0, none⟩ ?e3 _ LB.out ?_); (case e1 => rfl); (case e2 => rfl); (case e3 => rfl)))
      refine CM.out.mono ?_
      rintro e w3 ⟨rfl, hb3⟩
      have B3 := Lib.hid (HS.out.below hb3 HS.out.lt)
      have HB3 := Lib.hid (HB.out.trans (hb3.mono HB.out.size))
      clear hb3
      go_wp2
      go_ret
      exact ⟨rfl, HB3.out⟩
    · have t1 : ¬ (n : Int) < (b.xs.length : Int) := by omega
      go_wp2
      go_ret
      exact ⟨rfl, hb⟩
set_option maxHeartbeats 16000000 in
theorem bnames_E1 (x y z : List Int) (b : Bk) (w : World) (hlaid : Laid w) (wx : x.length = 16 ∧ AllBytes x) (wy : y.length = 16 ∧ AllBytes y) (wz : z.length = 16 ∧ AllBytes z) (wb : BkAt w b) (q : Bool) (iPB : fewB b.rs = true) (iLXY : lessL x y = false) (iLYX : lessL y x = false) (iLYZ : lessL y z = q) (iMB : bmay b.rs = true) (ie : (x == y) = true) :
    Calls Tryd.prog 10 #[.agg (bvals x), .agg (bvals y), .agg (bvals z), .agg #[.slice b.A b.xs.length b.c]] w fun e w' => e = .returned (.bool true) ∧ Below w.heap.size w w' := by
  have HLA := Lib.hid (fun (X : World) (hX : Below w.heap.size w X) => hlaid.below hX (Nat.le_refl _))
  have Fb := Lib.hid wb
  have ZX := Lib.hid wx
  have ZY := Lib.hid wy
  have ZZ := Lib.hid wz
  have PB := Lib.hid iPB
  have LXY := Lib.hid iLXY
  have LYX := Lib.hid iLYX
  have LYZ := Lib.hid iLYZ
  have MB := Lib.hid iMB
  have he := eq_id wx.2 wy.2 wx.1 wy.1
  rw [ie] at he
  have HE := Lib.hid he
  have HLEN := Lib.hid (fewB_fs iPB).1
  have HRV := Lib.hid (fun i (hi : i < b.xs.length) => RsAt.rv wb hi)
  have HR := Lib.hid (fun n (h1 : 1 ≤ n) (h2 : n < b.xs.length) => rise_at (bmay_iff.1 iMB).2.2 n h1 h2)
  obtain ⟨-, -, -, hcell, -⟩ := wb
  have HC := Lib.hid hcell
  clear hcell
  clear hlaid wx wy wz he ie iPB iLXY iLYX iLYZ iMB
  have B1 := Lib.hid (Below.refl w.heap.size w)
  have T2n := IdAt.new w ZX.out.1
  have T2 := Lib.hid T2n
  clear T2n
  have B3 := Lib.hid (B1.out.alloc B1.out.size (.cells (bvals x) 23))
  have T4 := Lib.hid (T2.out.old (.cells (bvals y) 23))
  have T5n := IdAt.new (w.alloc (.cells (bvals x) 23)) ZY.out.1
  simp only [World.size_alloc] at T5n
  have T5 := Lib.hid T5n
  clear T5n
  have B6 := Lib.hid (B3.out.alloc B3.out.size (.cells (bvals y) 23))
  have T7 := Lib.hid (T4.out.old (.cells (bvals z) 23))
  have T8 := Lib.hid (T5.out.old (.cells (bvals z) 23))
  have T9n := IdAt.new ((w.alloc (.cells (bvals x) 23)).alloc (.cells (bvals y) 23)) ZZ.out.1
  simp only [World.size_alloc] at T9n
  have T9 := Lib.hid T9n
  clear T9n
  have B10 := Lib.hid (B6.out.alloc B6.out.size (.cells (bvals z) 23))
  have T11 := Lib.hid (T7.out.old (.cells #[(.slice b.A b.xs.length b.c)] 41))
  have T12 := Lib.hid (T8.out.old (.cells #[(.slice b.A b.xs.length b.c)] 41))
  have T13 := Lib.hid (T9.out.old (.cells #[(.slice b.A b.xs.length b.c)] 41))
  have T14n := BoAt.new (((w.alloc (.cells (bvals x) 23)).alloc (.cells (bvals y) 23)).alloc (.cells (bvals z) 23)) (.slice b.A b.xs.length b.c)
  simp only [World.size_alloc] at T14n
  have T14 := Lib.hid T14n
  clear T14n
  have B15 := Lib.hid (B10.out.alloc B10.out.size (.cells #[(.slice b.A b.xs.length b.c)] 41))
  have F16 := Lib.hid (Fb.out.below B15.out (Nat.le_refl _))
  go_enter Tryd.func10, Tryd.ntmps10
  have C17 := Lib.hid (bkAwake ((((w.alloc (.cells (bvals x) 23)).alloc (.cells (bvals y) 23)).alloc (.cells (bvals z) 23)).alloc (.cells #[(.slice b.A b.xs.length b.c)] 41)) (HLA.out _ B15.out))
  go_wp2_with fail
  refine C17.out.mono ?_
  rintro e w18 ⟨rfl, hb19⟩
  have T20 := Lib.hid (T11.out.below hb19 T11.out.lt)
  have T21 := Lib.hid (T12.out.below hb19 T12.out.lt)
  have T22 := Lib.hid (T13.out.below hb19 T13.out.lt)
  have T23 := Lib.hid (T14.out.below hb19 T14.out.lt)
  have F24 := Lib.hid (F16.out.below hb19 (Nat.le_refl _))
  have B25 := Lib.hid (B15.out.trans (hb19.mono B15.out.size))
  clear hb19
  have M26 := Lib.hid (T23.out.load)
  have C27 := Lib.hid (fewB_any b w18 F24.out)
  rw [PB.out] at C27
  go_wp2_with (first | ((with_reducible refine wpList_load_by (o := ⟨some 16, .load 41 (.tmp 7), _, _, _, _⟩) ?e1 41 (.tmp 7) ?e2 ⟨(w.heap.size + 1 + 1 + 1), 0, none⟩ ?e3 _ M26.out ?_); (case e1 => rfl); (case e2 => rfl); (case e3 => rfl)))
  refine C27.out.mono ?_
  rintro e w28 ⟨rfl, hb29⟩
  have T30 := Lib.hid (T20.out.below hb29 T20.out.lt)
  have T31 := Lib.hid (T21.out.below hb29 T21.out.lt)
  have T32 := Lib.hid (T22.out.below hb29 T22.out.lt)
  have T33 := Lib.hid (T23.out.below hb29 T23.out.lt)
  have F34 := Lib.hid (F24.out.below hb29 (Nat.le_refl _))
  have B35 := Lib.hid (B25.out.trans (hb29.mono B25.out.size))
  clear hb29
  have M36 := Lib.hid (load_arr16 T30.out)
  have M37 := Lib.hid (load_arr16 T31.out)
  have C38 := Lib.hid (bless_any x y w28 ZX.out.2 ZY.out.2 ZX.out.1 ZY.out.1)
  rw [LXY.out] at C38
  go_wp2_with (first | ((with_reducible refine wpList_load_by (o := ⟨some 18, .load 23 (.tmp 4), _, _, _, _⟩) ?e1 23 (.tmp 4) ?e2 ⟨w.heap.size, 0, none⟩ ?e3 _ M36.out ?_); (case e1 => rfl); (case e2 => rfl); (case e3 => rfl)) | ((with_reducible refine wpList_load_by (o := ⟨some 19, .load 23 (.tmp 5), _, _, _, _⟩) ?e1 23 (.tmp 5) ?e2 ⟨(w.heap.size + 1), 0, none⟩ ?e3 _ M37.out ?_); (case e1 => rfl); (case e2 => rfl); (case e3 => rfl)))
  refine C38.out.mono ?_
  rintro e w39 ⟨rfl, hb40⟩
  have T41 := Lib.hid (T30.out.below hb40 T30.out.lt)
  have T42 := Lib.hid (T31.out.below hb40 T31.out.lt)
  have T43 := Lib.hid (T32.out.below hb40 T32.out.lt)
  have T44 := Lib.hid (T33.out.below hb40 T33.out.lt)
  have F45 := Lib.hid (F34.out.below hb40 (Nat.le_refl _))
  have B46 := Lib.hid (B35.out.trans (hb40.mono B35.out.size))
  clear hb40
  have M47 := Lib.hid (load_arr16 T42.out)
  have M48 := Lib.hid (load_arr16 T41.out)
  have C49 := Lib.hid (bless_any y x w39 ZY.out.2 ZX.out.2 ZY.out.1 ZX.out.1)
  rw [LYX.out] at C49
  go_wp2_with (first | ((with_reducible refine wpList_load_by (o := ⟨some 21, .load 23 (.tmp 5), _, _, _, _⟩) ?e1 23 (.tmp 5) ?e2 ⟨(w.heap.size + 1), 0, none⟩ ?e3 _ M47.out ?_); (case e1 => rfl); (case e2 => rfl); (case e3 => rfl)) | ((with_reducible refine wpList_load_by (o := ⟨some 22, .load 23 (.tmp 4), _, _, _, _⟩) ?e1 23 (.tmp 4) ?e2 ⟨w.heap.size, 0, none⟩ ?e3 _ M48.out ?_); (case e1 => rfl); (case e2 => rfl); (case e3 => rfl)))
  refine C49.out.mono ?_
  rintro e w50 ⟨rfl, hb51⟩
  have T52 := Lib.hid (T41.out.below hb51 T41.out.lt)
  have T53 := Lib.hid (T42.out.below hb51 T42.out.lt)
  have T54 := Lib.hid (T43.out.below hb51 T43.out.lt)
  have T55 := Lib.hid (T44.out.below hb51 T44.out.lt)
  have F56 := Lib.hid (F45.out.below hb51 (Nat.le_refl _))
  have B57 := Lib.hid (B46.out.trans (hb51.mono B46.out.size))
  clear hb51
  have M58 := Lib.hid (load_arr16 T53.out)
  have M59 := Lib.hid (load_arr16 T54.out)
  have C60 := Lib.hid (bless_any y z w50 ZY.out.2 ZZ.out.2 ZY.out.1 ZZ.out.1)
  rw [LYZ.out] at C60
  go_wp2_with (first | ((with_reducible refine wpList_load_by (o := ⟨some 24, .load 23 (.tmp 5), _, _, _, _⟩) ?e1 23 (.tmp 5) ?e2 ⟨(w.heap.size + 1), 0, none⟩ ?e3 _ M58.out ?_); (case e1 => rfl); (case e2 => rfl); (case e3 => rfl)) | ((with_reducible refine wpList_load_by (o := ⟨some 25, .load 23 (.tmp 6), _, _, _, _⟩) ?e1 23 (.tmp 6) ?e2 ⟨(w.heap.size + 1 + 1), 0, none⟩ ?e3 _ M59.out ?_); (case e1 => rfl); (case e2 => rfl); (case e3 => rfl)))
  refine C60.out.mono ?_
  rintro e w61 ⟨rfl, hb62⟩
  have T63 := Lib.hid (T52.out.below hb62 T52.out.lt)
  have T64 := Lib.hid (T53.out.below hb62 T53.out.lt)
  have T65 := Lib.hid (T54.out.below hb62 T54.out.lt)
  have T66 := Lib.hid (T55.out.below hb62 T55.out.lt)
  have F67 := Lib.hid (F56.out.below hb62 (Nat.le_refl _))
  have B68 := Lib.hid (B57.out.trans (hb62.mono B57.out.size))
  clear hb62
  have eq := HE.out
  have M69 := Lib.hid (load_arr16 T63.out)
  have M70 := Lib.hid (load_arr16 T64.out)
  go_wp2_with (first | ((with_reducible refine wpList_load_by (o := ⟨some 43, .load 23 (.tmp 4), _, _, _, _⟩) ?e1 23 (.tmp 4) ?e2 ⟨w.heap.size, 0, none⟩ ?e3 _ M69.out ?_); (case e1 => rfl); (case e2 => rfl); (case e3 => rfl)) | ((with_reducible refine wpList_load_by (o := ⟨some 44, .load 23 (.tmp 5), _, _, _, _⟩) ?e1 23 (.tmp 5) ?e2 ⟨(w.heap.size + 1), 0, none⟩ ?e3 _ M70.out ?_); (case e1 => rfl); (case e2 => rfl); (case e3 => rfl)))
  go_loopw [14] (fun i wr => ∃ n : Nat, 1 ≤ n ∧ n ≤ 20 ∧ i = .int .i64 n ∧ BoAt wr (w.heap.size + 1 + 1 + 1) (.slice b.A b.xs.length b.c) ∧ Below w.heap.size w wr) (fun i _ => 20 - (intOf i).toNat)
  case atStart => exact ⟨1, by omega, by omega, rfl, T66.out, B68.out⟩
  case round =>
    obtain ⟨n, hn1, hn2, rfl, hs, hb⟩ := hrel
    have hs0 := hs.c0
    by_cases hlt : n < b.xs.length
    · have t1 : (n : Int) < (b.xs.length : Int) := by omega
      have hn20 : n < 20 := by have := HLEN.out; omega
      have LB := Lib.hid hs.load
      have CM := Lib.hid (bmay_any b wr (Fb.out.below hb (Nat.le_refl _)))
      rw [MB.out] at CM
      have HS := Lib.hid hs
      have HB := Lib.hid hb
      clear hs hb
      go_wp2_with (first | ((with_reducible refine wpList_load_by (o := ⟨some 66, .load 41 (.tmp 7), _, _, _, _⟩) ?e1 41 (.tmp 7) ?e2 ⟨(w.heap.size + 1 + 1 + 1), 0, none⟩ ?e3 _ LB.out ?_); (case e1 => rfl); (case e2 => rfl); (case e3 => rfl)))
      refine CM.out.mono ?_
      rintro e w3 ⟨rfl, hb3⟩
      have B3 := Lib.hid (HS.out.below hb3 HS.out.lt)
      have HB3 := Lib.hid (HB.out.trans (hb3.mono HB.out.size))
      obtain ⟨b0, off, hA, hb0, hcc⟩ := HC.out (by omega)
      have X3 := Lib.hid ((hcc n hlt).same (HB3.out.block b0 hb0))
      have Y3 := Lib.hid ((hcc (n - 1) (by omega)).same (HB3.out.block b0 hb0))
      have RL := HR.out n hn1 hlt
      have HXV := HRV.out n hlt
      have HYV := HRV.out (n - 1) (by omega)
      have HL := Lib.hid (fun (w9 : World) (hS : Below w3.heap.size w3 w9) => bless_any (b.xs.getD (n - 1) rcA0).R.z (b.xs.getD n rcA0).R.z w9 HYV.1.2 HXV.1.2 HYV.len HXV.len)
      rw [RL] at HL
      have IXX := Lib.hid (fun w9 => ix_rec b0 off b.xs.length b.c n hlt n rfl w9)
      have IXY := Lib.hid (fun w9 => ix_rec b0 off b.xs.length b.c (n - 1) (by omega) ((n : Int) - 1) (by omega) w9)
      rw [← hA] at IXX IXY
      have hb03 := Nat.lt_of_lt_of_le hb0 HB3.out.size
      clear hb3 hcc hA RL HXV HYV
      generalize b.xs.getD n rcA0 = u at *
      generalize b.xs.getD (n - 1) rcA0 = v at *
      generalize off + n * 19 = ox at *
      generalize off + (n - 1) * 19 = oy at *
      go_wp2_with fail
      refine wp_region_G w3 (by kernel_rfl) ?_
      refine wpG_take (i := 0) (oi := ⟨some 71, _, _, _, _, _⟩) (v := ?_) rfl (by kernel_rfl) (by kernel_rfl) (by kernel_rfl) (Or.inl ⟨by rfl, unib_val ?_⟩) ?_; rotate_left; (focus (intro w9 hSw; go_simp; try with_reducible rfl)); simp only [Act.put, List.setIfInBounds_toArray, List.set_cons_zero, List.set_cons_succ]
      refine wpG_take (i := 1) (oi := ⟨some 72, _, _, _, _, _⟩) (v := ?_) rfl (by kernel_rfl) (by kernel_rfl) (by kernel_rfl) (Or.inl ⟨by rfl, unib_val ?_⟩) ?_; rotate_left; (focus (intro w9 hSw; have q0 := (B3.out.below hSw B3.out.lt).c0; go_simp; try with_reducible rfl)); simp only [Act.put, List.setIfInBounds_toArray, List.set_cons_zero, List.set_cons_succ]
      refine wpG_take (i := 2) (oi := ⟨some 73, _, _, _, _, _⟩) (v := ?_) rfl (by kernel_rfl) (by kernel_rfl) (by kernel_rfl) (Or.inl ⟨by rfl, unib_val ?_⟩) ?_; rotate_left; (focus (intro w9 hSw; go_simp; try with_reducible rfl)); simp only [Act.put, List.setIfInBounds_toArray, List.set_cons_zero, List.set_cons_succ]
      refine wpG_take (i := 3) (oi := ⟨some 74, _, _, _, _, _⟩) (v := ?_) rfl (by kernel_rfl) (by kernel_rfl) (by kernel_rfl) (Or.inl ⟨by rfl, unib_val ?_⟩) ?_; rotate_left; (focus (intro w9 hSw; have x1 : IntKind.i64.wrap ((n : Int) - 1) = (n : Int) - 1 := IntWalk.i64_in _ (by omega); go_simp; try with_reducible rfl)); simp only [Act.put, List.setIfInBounds_toArray, List.set_cons_zero, List.set_cons_succ]
      refine wpG_take (i := 4) (oi := ⟨some 75, _, _, _, _, _⟩) (v := ?_) rfl (by kernel_rfl) (by kernel_rfl) (by kernel_rfl) (Or.inl ⟨by rfl, unib_val ?_⟩) ?_; rotate_left; (focus (intro w9 hSw; have q0 := IXY.out w9; go_simp; try with_reducible rfl)); simp only [Act.put, List.setIfInBounds_toArray, List.set_cons_zero, List.set_cons_succ]
      refine wpG_take (i := 5) (oi := ⟨some 76, _, _, _, _, _⟩) (v := ?_) rfl (by kernel_rfl) (by kernel_rfl) (by kernel_rfl) (Or.inl ⟨by rfl, unib_val ?_⟩) ?_; rotate_left; (focus (intro w9 hSw; go_simp; try with_reducible rfl)); simp only [Act.put, List.setIfInBounds_toArray, List.set_cons_zero, List.set_cons_succ]
      refine wpG_take (i := 6) (oi := ⟨some 77, _, _, _, _, _⟩) (v := (.agg (bvals v.R.z))) rfl (by kernel_rfl) (by kernel_rfl) (by kernel_rfl) (Or.inl ⟨by rfl, unib_val ?_⟩) ?_; (focus (intro w9 hSw; exact exec_load_by 23 _ rfl ⟨b0, oy, none⟩ rfl (Y3.out.same (hSw.block b0 hb03)).load_id)); simp only [Act.put, List.setIfInBounds_toArray, List.set_cons_zero, List.set_cons_succ]
      refine wpG_take (i := 7) (oi := ⟨some 78, _, _, _, _, _⟩) (v := ?_) rfl (by kernel_rfl) (by kernel_rfl) (by kernel_rfl) (Or.inl ⟨by rfl, unib_val ?_⟩) ?_; rotate_left; (focus (intro w9 hSw; go_simp; try with_reducible rfl)); simp only [Act.put, List.setIfInBounds_toArray, List.set_cons_zero, List.set_cons_succ]
      refine wpG_take (i := 8) (oi := ⟨some 79, _, _, _, _, _⟩) (v := ?_) rfl (by kernel_rfl) (by kernel_rfl) (by kernel_rfl) (Or.inl ⟨by rfl, unib_val ?_⟩) ?_; rotate_left; (focus (intro w9 hSw; have q0 := (B3.out.below hSw B3.out.lt).c0; go_simp; try with_reducible rfl)); simp only [Act.put, List.setIfInBounds_toArray, List.set_cons_zero, List.set_cons_succ]
      refine wpG_take (i := 9) (oi := ⟨some 80, _, _, _, _, _⟩) (v := ?_) rfl (by kernel_rfl) (by kernel_rfl) (by kernel_rfl) (Or.inl ⟨by rfl, unib_val ?_⟩) ?_; rotate_left; (focus (intro w9 hSw; go_simp; try with_reducible rfl)); simp only [Act.put, List.setIfInBounds_toArray, List.set_cons_zero, List.set_cons_succ]
      refine wpG_take (i := 10) (oi := ⟨some 81, _, _, _, _, _⟩) (v := ?_) rfl (by kernel_rfl) (by kernel_rfl) (by kernel_rfl) (Or.inl ⟨by rfl, unib_val ?_⟩) ?_; rotate_left; (focus (intro w9 hSw; have q0 := IXX.out w9; go_simp; try with_reducible rfl)); simp only [Act.put, List.setIfInBounds_toArray, List.set_cons_zero, List.set_cons_succ]
      refine wpG_take (i := 11) (oi := ⟨some 82, _, _, _, _, _⟩) (v := ?_) rfl (by kernel_rfl) (by kernel_rfl) (by kernel_rfl) (Or.inl ⟨by rfl, unib_val ?_⟩) ?_; rotate_left; (focus (intro w9 hSw; go_simp; try with_reducible rfl)); simp only [Act.put, List.setIfInBounds_toArray, List.set_cons_zero, List.set_cons_succ]
      refine wpG_take (i := 12) (oi := ⟨some 83, _, _, _, _, _⟩) (v := (.agg (bvals u.R.z))) rfl (by kernel_rfl) (by kernel_rfl) (by kernel_rfl) (Or.inl ⟨by rfl, unib_val ?_⟩) ?_; (focus (intro w9 hSw; exact exec_load_by 23 _ rfl ⟨b0, ox, none⟩ rfl (X3.out.same (hSw.block b0 hb03)).load_id)); simp only [Act.put, List.setIfInBounds_toArray, List.set_cons_zero, List.set_cons_succ]
      refine wpG_take (i := 13) (oi := ⟨some 84, _, _, _, _, _⟩) rfl (by kernel_rfl) (by kernel_rfl) (by kernel_rfl) (Or.inl ⟨by rfl, unib_call_if ?_ HL.out⟩) ?_; (focus (intro w9 hSw; go_simp; try with_reducible rfl)); simp only [Act.put, List.setIfInBounds_toArray, List.set_cons_zero, List.set_cons_succ]
      refine wpG_take (i := 14) (oi := ⟨some 85, _, _, _, _, _⟩) (v := ?_) rfl (by kernel_rfl) (by kernel_rfl) (by kernel_rfl) (Or.inl ⟨by rfl, unib_val ?_⟩) ?_; rotate_left; (focus (intro w9 hSw; go_simp; try with_reducible rfl)); simp only [Act.put, List.setIfInBounds_toArray, List.set_cons_zero, List.set_cons_succ]
      refine wpG_done (by kernel_rfl) ?_ _
      intro w9 hSw _
      have BO9 := Lib.hid (B3.out.below hSw B3.out.lt)
      have B9 := Lib.hid (HB3.out.trans (hSw.mono HB3.out.size))
      clear hSw
      go_wp2
      go_roundw
      case rel => exact ⟨n + 1, by omega, by omega, by go_num, BO9.out, B9.out⟩
      case measure => simp [intOf]; omega
    · have t1 : ¬ (n : Int) < (b.xs.length : Int) := by omega
      go_wp2
      go_ret
      exact ⟨rfl, hb⟩
set_option maxHeartbeats 16000000 in
theorem bnames_A10 (x y z : List Int) (b : Bk) (w : World) (hlaid : Laid w) (wx : x.length = 16 ∧ AllBytes x) (wy : y.length = 16 ∧ AllBytes y) (wz : z.length = 16 ∧ AllBytes z) (wb : BkAt w b) (iPB : fewB b.rs = true) (iLXY : lessL x y = true) (iLYX : lessL y x = false) (iLYZ : lessL y z = true) (iMB : bmay b.rs = false) (iLXZ : lessL x z = true) (ie : (x == y) = false) :
    Calls Tryd.prog 10 #[.agg (bvals x), .agg (bvals y), .agg (bvals z), .agg #[.slice b.A b.xs.length b.c]] w fun e w' => e = .returned (.bool true) ∧ Below w.heap.size w w' := by
  have HLA := Lib.hid (fun (X : World) (hX : Below w.heap.size w X) => hlaid.below hX (Nat.le_refl _))
  have Fb := Lib.hid wb
  have ZX := Lib.hid wx
  have ZY := Lib.hid wy
  have ZZ := Lib.hid wz
  have PB := Lib.hid iPB
  have LXY := Lib.hid iLXY
  have LYX := Lib.hid iLYX
  have LYZ := Lib.hid iLYZ
  have MB := Lib.hid iMB
  have LXZ := Lib.hid iLXZ
  have he := eq_id wx.2 wy.2 wx.1 wy.1
  rw [ie] at he
  have HE := Lib.hid he
  have HLEN := Lib.hid (fewB_fs iPB).1
  clear wb
  clear hlaid wx wy wz he ie iPB iLXY iLYX iLYZ iMB iLXZ
  have B1 := Lib.hid (Below.refl w.heap.size w)
  have T2n := IdAt.new w ZX.out.1
  have T2 := Lib.hid T2n
  clear T2n
  have B3 := Lib.hid (B1.out.alloc B1.out.size (.cells (bvals x) 23))
  have T4 := Lib.hid (T2.out.old (.cells (bvals y) 23))
  have T5n := IdAt.new (w.alloc (.cells (bvals x) 23)) ZY.out.1
  simp only [World.size_alloc] at T5n
  have T5 := Lib.hid T5n
  clear T5n
  have B6 := Lib.hid (B3.out.alloc B3.out.size (.cells (bvals y) 23))
  have T7 := Lib.hid (T4.out.old (.cells (bvals z) 23))
  have T8 := Lib.hid (T5.out.old (.cells (bvals z) 23))
  have T9n := IdAt.new ((w.alloc (.cells (bvals x) 23)).alloc (.cells (bvals y) 23)) ZZ.out.1
  simp only [World.size_alloc] at T9n
  have T9 := Lib.hid T9n
  clear T9n
  have B10 := Lib.hid (B6.out.alloc B6.out.size (.cells (bvals z) 23))
  have T11 := Lib.hid (T7.out.old (.cells #[(.slice b.A b.xs.length b.c)] 41))
  have T12 := Lib.hid (T8.out.old (.cells #[(.slice b.A b.xs.length b.c)] 41))
  have T13 := Lib.hid (T9.out.old (.cells #[(.slice b.A b.xs.length b.c)] 41))
  have T14n := BoAt.new (((w.alloc (.cells (bvals x) 23)).alloc (.cells (bvals y) 23)).alloc (.cells (bvals z) 23)) (.slice b.A b.xs.length b.c)
  simp only [World.size_alloc] at T14n
  have T14 := Lib.hid T14n
  clear T14n
  have B15 := Lib.hid (B10.out.alloc B10.out.size (.cells #[(.slice b.A b.xs.length b.c)] 41))
  have F16 := Lib.hid (Fb.out.below B15.out (Nat.le_refl _))
  go_enter Tryd.func10, Tryd.ntmps10
  have C17 := Lib.hid (bkAwake ((((w.alloc (.cells (bvals x) 23)).alloc (.cells (bvals y) 23)).alloc (.cells (bvals z) 23)).alloc (.cells #[(.slice b.A b.xs.length b.c)] 41)) (HLA.out _ B15.out))
  go_wp2_with fail
  refine C17.out.mono ?_
  rintro e w18 ⟨rfl, hb19⟩
  have T20 := Lib.hid (T11.out.below hb19 T11.out.lt)
  have T21 := Lib.hid (T12.out.below hb19 T12.out.lt)
  have T22 := Lib.hid (T13.out.below hb19 T13.out.lt)
  have T23 := Lib.hid (T14.out.below hb19 T14.out.lt)
  have F24 := Lib.hid (F16.out.below hb19 (Nat.le_refl _))
  have B25 := Lib.hid (B15.out.trans (hb19.mono B15.out.size))
  clear hb19
  have M26 := Lib.hid (T23.out.load)
  have C27 := Lib.hid (fewB_any b w18 F24.out)
  rw [PB.out] at C27
  go_wp2_with (first | ((with_reducible refine wpList_load_by (o := ⟨some 16, .load 41 (.tmp 7), _, _, _, _⟩) ?e1 41 (.tmp 7) ?e2 ⟨(w.heap.size + 1 + 1 + 1), 0, none⟩ ?e3 _ M26.out ?_); (case e1 => rfl); (case e2 => rfl); (case e3 => rfl)))
  refine C27.out.mono ?_
  rintro e w28 ⟨rfl, hb29⟩
  have T30 := Lib.hid (T20.out.below hb29 T20.out.lt)
  have T31 := Lib.hid (T21.out.below hb29 T21.out.lt)
  have T32 := Lib.hid (T22.out.below hb29 T22.out.lt)
  have T33 := Lib.hid (T23.out.below hb29 T23.out.lt)
  have F34 := Lib.hid (F24.out.below hb29 (Nat.le_refl _))
  have B35 := Lib.hid (B25.out.trans (hb29.mono B25.out.size))
  clear hb29
  have M36 := Lib.hid (load_arr16 T30.out)
  have M37 := Lib.hid (load_arr16 T31.out)
  have C38 := Lib.hid (bless_any x y w28 ZX.out.2 ZY.out.2 ZX.out.1 ZY.out.1)
  rw [LXY.out] at C38
  go_wp2_with (first | ((with_reducible refine wpList_load_by (o := ⟨some 18, .load 23 (.tmp 4), _, _, _, _⟩) ?e1 23 (.tmp 4) ?e2 ⟨w.heap.size, 0, none⟩ ?e3 _ M36.out ?_); (case e1 => rfl); (case e2 => rfl); (case e3 => rfl)) | ((with_reducible refine wpList_load_by (o := ⟨some 19, .load 23 (.tmp 5), _, _, _, _⟩) ?e1 23 (.tmp 5) ?e2 ⟨(w.heap.size + 1), 0, none⟩ ?e3 _ M37.out ?_); (case e1 => rfl); (case e2 => rfl); (case e3 => rfl)))
  refine C38.out.mono ?_
  rintro e w39 ⟨rfl, hb40⟩
  have T41 := Lib.hid (T30.out.below hb40 T30.out.lt)
  have T42 := Lib.hid (T31.out.below hb40 T31.out.lt)
  have T43 := Lib.hid (T32.out.below hb40 T32.out.lt)
  have T44 := Lib.hid (T33.out.below hb40 T33.out.lt)
  have F45 := Lib.hid (F34.out.below hb40 (Nat.le_refl _))
  have B46 := Lib.hid (B35.out.trans (hb40.mono B35.out.size))
  clear hb40
  have M47 := Lib.hid (load_arr16 T42.out)
  have M48 := Lib.hid (load_arr16 T41.out)
  have C49 := Lib.hid (bless_any y x w39 ZY.out.2 ZX.out.2 ZY.out.1 ZX.out.1)
  rw [LYX.out] at C49
  go_wp2_with (first | ((with_reducible refine wpList_load_by (o := ⟨some 21, .load 23 (.tmp 5), _, _, _, _⟩) ?e1 23 (.tmp 5) ?e2 ⟨(w.heap.size + 1), 0, none⟩ ?e3 _ M47.out ?_); (case e1 => rfl); (case e2 => rfl); (case e3 => rfl)) | ((with_reducible refine wpList_load_by (o := ⟨some 22, .load 23 (.tmp 4), _, _, _, _⟩) ?e1 23 (.tmp 4) ?e2 ⟨w.heap.size, 0, none⟩ ?e3 _ M48.out ?_); (case e1 => rfl); (case e2 => rfl); (case e3 => rfl)))
  refine C49.out.mono ?_
  rintro e w50 ⟨rfl, hb51⟩
  have T52 := Lib.hid (T41.out.below hb51 T41.out.lt)
  have T53 := Lib.hid (T42.out.below hb51 T42.out.lt)
  have T54 := Lib.hid (T43.out.below hb51 T43.out.lt)
  have T55 := Lib.hid (T44.out.below hb51 T44.out.lt)
  have F56 := Lib.hid (F45.out.below hb51 (Nat.le_refl _))
  have B57 := Lib.hid (B46.out.trans (hb51.mono B46.out.size))
  clear hb51
  have M58 := Lib.hid (load_arr16 T53.out)
  have M59 := Lib.hid (load_arr16 T54.out)
  have C60 := Lib.hid (bless_any y z w50 ZY.out.2 ZZ.out.2 ZY.out.1 ZZ.out.1)
  rw [LYZ.out] at C60
  go_wp2_with (first | ((with_reducible refine wpList_load_by (o := ⟨some 24, .load 23 (.tmp 5), _, _, _, _⟩) ?e1 23 (.tmp 5) ?e2 ⟨(w.heap.size + 1), 0, none⟩ ?e3 _ M58.out ?_); (case e1 => rfl); (case e2 => rfl); (case e3 => rfl)) | ((with_reducible refine wpList_load_by (o := ⟨some 25, .load 23 (.tmp 6), _, _, _, _⟩) ?e1 23 (.tmp 6) ?e2 ⟨(w.heap.size + 1 + 1), 0, none⟩ ?e3 _ M59.out ?_); (case e1 => rfl); (case e2 => rfl); (case e3 => rfl)))
  refine C60.out.mono ?_
  rintro e w61 ⟨rfl, hb62⟩
  have T63 := Lib.hid (T52.out.below hb62 T52.out.lt)
  have T64 := Lib.hid (T53.out.below hb62 T53.out.lt)
  have T65 := Lib.hid (T54.out.below hb62 T54.out.lt)
  have T66 := Lib.hid (T55.out.below hb62 T55.out.lt)
  have F67 := Lib.hid (F56.out.below hb62 (Nat.le_refl _))
  have B68 := Lib.hid (B57.out.trans (hb62.mono B57.out.size))
  clear hb62
  have eq := HE.out
  have M69 := Lib.hid (load_arr16 T63.out)
  have M70 := Lib.hid (load_arr16 T65.out)
  have C71 := Lib.hid (bless_any x z w61 ZX.out.2 ZZ.out.2 ZX.out.1 ZZ.out.1)
  rw [LXZ.out] at C71
  have M72 := Lib.hid (load_arr16 T63.out)
  have M73 := Lib.hid (load_arr16 T64.out)
  go_wp2_with (first | ((with_reducible refine wpList_load_by (o := ⟨some 54, .load 23 (.tmp 4), _, _, _, _⟩) ?e1 23 (.tmp 4) ?e2 ⟨w.heap.size, 0, none⟩ ?e3 _ M69.out ?_); (case e1 => rfl); (case e2 => rfl); (case e3 => rfl)) | ((with_reducible refine wpList_load_by (o := ⟨some 55, .load 23 (.tmp 6), _, _, _, _⟩) ?e1 23 (.tmp 6) ?e2 ⟨(w.heap.size + 1 + 1), 0, none⟩ ?e3 _ M70.out ?_); (case e1 => rfl); (case e2 => rfl); (case e3 => rfl)) | ((with_reducible refine wpList_load_by (o := ⟨some 43, .load 23 (.tmp 4), _, _, _, _⟩) ?e1 23 (.tmp 4) ?e2 ⟨w.heap.size, 0, none⟩ ?e3 _ M72.out ?_); (case e1 => rfl); (case e2 => rfl); (case e3 => rfl)) | ((with_reducible refine wpList_load_by (o := ⟨some 44, .load 23 (.tmp 5), _, _, _, _⟩) ?e1 23 (.tmp 5) ?e2 ⟨(w.heap.size + 1), 0, none⟩ ?e3 _ M73.out ?_); (case e1 => rfl); (case e2 => rfl); (case e3 => rfl)))
  refine C71.out.mono ?_
  rintro e w74 ⟨rfl, hb75⟩
  have T76 := Lib.hid (T63.out.below hb75 T63.out.lt)
  have T77 := Lib.hid (T64.out.below hb75 T64.out.lt)
  have T78 := Lib.hid (T65.out.below hb75 T65.out.lt)
  have T79 := Lib.hid (T66.out.below hb75 T66.out.lt)
  have F80 := Lib.hid (F67.out.below hb75 (Nat.le_refl _))
  have B81 := Lib.hid (B68.out.trans (hb75.mono B68.out.size))
  clear hb75
  go_wp2
  go_loopw [14] (fun i wr => ∃ n : Nat, 1 ≤ n ∧ n ≤ 20 ∧ i = .int .i64 n ∧ BoAt wr (w.heap.size + 1 + 1 + 1) (.slice b.A b.xs.length b.c) ∧ Below w.heap.size w wr) (fun i _ => 20 - (intOf i).toNat)
  case atStart => exact ⟨1, by omega, by omega, rfl, T79.out, B81.out⟩
  case round =>
    obtain ⟨n, hn1, hn2, rfl, hs, hb⟩ := hrel
    have hs0 := hs.c0
    by_cases hlt : n < b.xs.length
    · have t1 : (n : Int) < (b.xs.length : Int) := by omega
      have hn20 : n < 20 := by have := HLEN.out; omega
      have LB := Lib.hid hs.load
      have CM := Lib.hid (bmay_any b wr (Fb.out.below hb (Nat.le_refl _)))
      rw [MB.out] at CM
      have HS := Lib.hid hs
      have HB := Lib.hid hb
      clear hs hb
      go_wp2_with (first | ((with_reducible refine wpList_load_by (o := ⟨some 66, .load 41 (.tmp 7), _, _, _, _⟩) ?e1 41 (.tmp 7) ?e2 ⟨(w.heap.size + 1 + 1 + 1), 0, none⟩ ?e3 _ LB.out ?_); (case e1 => rfl); (case e2 => rfl); (case e3 => rfl)))
      refine CM.out.mono ?_
      rintro e w3 ⟨rfl, hb3⟩
      have B3 := Lib.hid (HS.out.below hb3 HS.out.lt)
      have HB3 := Lib.hid (HB.out.trans (hb3.mono HB.out.size))
      clear hb3
      go_wp2
      go_ret
      exact ⟨rfl, HB3.out⟩
    · have t1 : ¬ (n : Int) < (b.xs.length : Int) := by omega
      go_wp2
      go_ret
      exact ⟨rfl, hb⟩
set_option maxHeartbeats 16000000 in
theorem bnames_A11 (x y z : List Int) (b : Bk) (w : World) (hlaid : Laid w) (wx : x.length = 16 ∧ AllBytes x) (wy : y.length = 16 ∧ AllBytes y) (wz : z.length = 16 ∧ AllBytes z) (wb : BkAt w b) (iPB : fewB b.rs = true) (iLXY : lessL x y = true) (iLYX : lessL y x = false) (iLYZ : lessL y z = true) (iMB : bmay b.rs = true) (iLXZ : lessL x z = true) (ie : (x == y) = false) :
    Calls Tryd.prog 10 #[.agg (bvals x), .agg (bvals y), .agg (bvals z), .agg #[.slice b.A b.xs.length b.c]] w fun e w' => e = .returned (.bool true) ∧ Below w.heap.size w w' := by
  have HLA := Lib.hid (fun (X : World) (hX : Below w.heap.size w X) => hlaid.below hX (Nat.le_refl _))
  have Fb := Lib.hid wb
  have ZX := Lib.hid wx
  have ZY := Lib.hid wy
  have ZZ := Lib.hid wz
  have PB := Lib.hid iPB
  have LXY := Lib.hid iLXY
  have LYX := Lib.hid iLYX
  have LYZ := Lib.hid iLYZ
  have MB := Lib.hid iMB
  have LXZ := Lib.hid iLXZ
  have he := eq_id wx.2 wy.2 wx.1 wy.1
  rw [ie] at he
  have HE := Lib.hid he
  have HLEN := Lib.hid (fewB_fs iPB).1
  have HRV := Lib.hid (fun i (hi : i < b.xs.length) => RsAt.rv wb hi)
  have HR := Lib.hid (fun n (h1 : 1 ≤ n) (h2 : n < b.xs.length) => rise_at (bmay_iff.1 iMB).2.2 n h1 h2)
  obtain ⟨-, -, -, hcell, -⟩ := wb
  have HC := Lib.hid hcell
  clear hcell
  clear hlaid wx wy wz he ie iPB iLXY iLYX iLYZ iMB iLXZ
  have B1 := Lib.hid (Below.refl w.heap.size w)
  have T2n := IdAt.new w ZX.out.1
  have T2 := Lib.hid T2n
  clear T2n
  have B3 := Lib.hid (B1.out.alloc B1.out.size (.cells (bvals x) 23))
  have T4 := Lib.hid (T2.out.old (.cells (bvals y) 23))
  have T5n := IdAt.new (w.alloc (.cells (bvals x) 23)) ZY.out.1
  simp only [World.size_alloc] at T5n
  have T5 := Lib.hid T5n
  clear T5n
  have B6 := Lib.hid (B3.out.alloc B3.out.size (.cells (bvals y) 23))
  have T7 := Lib.hid (T4.out.old (.cells (bvals z) 23))
  have T8 := Lib.hid (T5.out.old (.cells (bvals z) 23))
  have T9n := IdAt.new ((w.alloc (.cells (bvals x) 23)).alloc (.cells (bvals y) 23)) ZZ.out.1
  simp only [World.size_alloc] at T9n
  have T9 := Lib.hid T9n
  clear T9n
  have B10 := Lib.hid (B6.out.alloc B6.out.size (.cells (bvals z) 23))
  have T11 := Lib.hid (T7.out.old (.cells #[(.slice b.A b.xs.length b.c)] 41))
  have T12 := Lib.hid (T8.out.old (.cells #[(.slice b.A b.xs.length b.c)] 41))
  have T13 := Lib.hid (T9.out.old (.cells #[(.slice b.A b.xs.length b.c)] 41))
  have T14n := BoAt.new (((w.alloc (.cells (bvals x) 23)).alloc (.cells (bvals y) 23)).alloc (.cells (bvals z) 23)) (.slice b.A b.xs.length b.c)
  simp only [World.size_alloc] at T14n
  have T14 := Lib.hid T14n
  clear T14n
  have B15 := Lib.hid (B10.out.alloc B10.out.size (.cells #[(.slice b.A b.xs.length b.c)] 41))
  have F16 := Lib.hid (Fb.out.below B15.out (Nat.le_refl _))
  go_enter Tryd.func10, Tryd.ntmps10
  have C17 := Lib.hid (bkAwake ((((w.alloc (.cells (bvals x) 23)).alloc (.cells (bvals y) 23)).alloc (.cells (bvals z) 23)).alloc (.cells #[(.slice b.A b.xs.length b.c)] 41)) (HLA.out _ B15.out))
  go_wp2_with fail
  refine C17.out.mono ?_
  rintro e w18 ⟨rfl, hb19⟩
  have T20 := Lib.hid (T11.out.below hb19 T11.out.lt)
  have T21 := Lib.hid (T12.out.below hb19 T12.out.lt)
  have T22 := Lib.hid (T13.out.below hb19 T13.out.lt)
  have T23 := Lib.hid (T14.out.below hb19 T14.out.lt)
  have F24 := Lib.hid (F16.out.below hb19 (Nat.le_refl _))
  have B25 := Lib.hid (B15.out.trans (hb19.mono B15.out.size))
  clear hb19
  have M26 := Lib.hid (T23.out.load)
  have C27 := Lib.hid (fewB_any b w18 F24.out)
  rw [PB.out] at C27
  go_wp2_with (first | ((with_reducible refine wpList_load_by (o := ⟨some 16, .load 41 (.tmp 7), _, _, _, _⟩) ?e1 41 (.tmp 7) ?e2 ⟨(w.heap.size + 1 + 1 + 1), 0, none⟩ ?e3 _ M26.out ?_); (case e1 => rfl); (case e2 => rfl); (case e3 => rfl)))
  refine C27.out.mono ?_
  rintro e w28 ⟨rfl, hb29⟩
  have T30 := Lib.hid (T20.out.below hb29 T20.out.lt)
  have T31 := Lib.hid (T21.out.below hb29 T21.out.lt)
  have T32 := Lib.hid (T22.out.below hb29 T22.out.lt)
  have T33 := Lib.hid (T23.out.below hb29 T23.out.lt)
  have F34 := Lib.hid (F24.out.below hb29 (Nat.le_refl _))
  have B35 := Lib.hid (B25.out.trans (hb29.mono B25.out.size))
  clear hb29
  have M36 := Lib.hid (load_arr16 T30.out)
  have M37 := Lib.hid (load_arr16 T31.out)
  have C38 := Lib.hid (bless_any x y w28 ZX.out.2 ZY.out.2 ZX.out.1 ZY.out.1)
  rw [LXY.out] at C38
  go_wp2_with (first | ((with_reducible refine wpList_load_by (o := ⟨some 18, .load 23 (.tmp 4), _, _, _, _⟩) ?e1 23 (.tmp 4) ?e2 ⟨w.heap.size, 0, none⟩ ?e3 _ M36.out ?_); (case e1 => rfl); (case e2 => rfl); (case e3 => rfl)) | ((with_reducible refine wpList_load_by (o := ⟨some 19, .load 23 (.tmp 5), _, _, _, _⟩) ?e1 23 (.tmp 5) ?e2 ⟨(w.heap.size + 1), 0, none⟩ ?e3 _ M37.out ?_); (case e1 => rfl); (case e2 => rfl); (case e3 => rfl)))
  refine C38.out.mono ?_
  rintro e w39 ⟨rfl, hb40⟩
  have T41 := Lib.hid (T30.out.below hb40 T30.out.lt)
  have T42 := Lib.hid (T31.out.below hb40 T31.out.lt)
  have T43 := Lib.hid (T32.out.below hb40 T32.out.lt)
  have T44 := Lib.hid (T33.out.below hb40 T33.out.lt)
  have F45 := Lib.hid (F34.out.below hb40 (Nat.le_refl _))
  have B46 := Lib.hid (B35.out.trans (hb40.mono B35.out.size))
  clear hb40
  have M47 := Lib.hid (load_arr16 T42.out)
  have M48 := Lib.hid (load_arr16 T41.out)
  have C49 := Lib.hid (bless_any y x w39 ZY.out.2 ZX.out.2 ZY.out.1 ZX.out.1)
  rw [LYX.out] at C49
  go_wp2_with (first | ((with_reducible refine wpList_load_by (o := ⟨some 21, .load 23 (.tmp 5), _, _, _, _⟩) ?e1 23 (.tmp 5) ?e2 ⟨(w.heap.size + 1), 0, none⟩ ?e3 _ M47.out ?_); (case e1 => rfl); (case e2 => rfl); (case e3 => rfl)) | ((with_reducible refine wpList_load_by (o := ⟨some 22, .load 23 (.tmp 4), _, _, _, _⟩) ?e1 23 (.tmp 4) ?e2 ⟨w.heap.size, 0, none⟩ ?e3 _ M48.out ?_); (case e1 => rfl); (case e2 => rfl); (case e3 => rfl)))
  refine C49.out.mono ?_
  rintro e w50 ⟨rfl, hb51⟩
  have T52 := Lib.hid (T41.out.below hb51 T41.out.lt)
  have T53 := Lib.hid (T42.out.below hb51 T42.out.lt)
  have T54 := Lib.hid (T43.out.below hb51 T43.out.lt)
  have T55 := Lib.hid (T44.out.below hb51 T44.out.lt)
  have F56 := Lib.hid (F45.out.below hb51 (Nat.le_refl _))
  have B57 := Lib.hid (B46.out.trans (hb51.mono B46.out.size))
  clear hb51
  have M58 := Lib.hid (load_arr16 T53.out)
  have M59 := Lib.hid (load_arr16 T54.out)
  have C60 := Lib.hid (bless_any y z w50 ZY.out.2 ZZ.out.2 ZY.out.1 ZZ.out.1)
  rw [LYZ.out] at C60
  go_wp2_with (first | ((with_reducible refine wpList_load_by (o := ⟨some 24, .load 23 (.tmp 5), _, _, _, _⟩) ?e1 23 (.tmp 5) ?e2 ⟨(w.heap.size + 1), 0, none⟩ ?e3 _ M58.out ?_); (case e1 => rfl); (case e2 => rfl); (case e3 => rfl)) | ((with_reducible refine wpList_load_by (o := ⟨some 25, .load 23 (.tmp 6), _, _, _, _⟩) ?e1 23 (.tmp 6) ?e2 ⟨(w.heap.size + 1 + 1), 0, none⟩ ?e3 _ M59.out ?_); (case e1 => rfl); (case e2 => rfl); (case e3 => rfl)))
  refine C60.out.mono ?_
  rintro e w61 ⟨rfl, hb62⟩
  have T63 := Lib.hid (T52.out.below hb62 T52.out.lt)
  have T64 := Lib.hid (T53.out.below hb62 T53.out.lt)
  have T65 := Lib.hid (T54.out.below hb62 T54.out.lt)
  have T66 := Lib.hid (T55.out.below hb62 T55.out.lt)
  have F67 := Lib.hid (F56.out.below hb62 (Nat.le_refl _))
  have B68 := Lib.hid (B57.out.trans (hb62.mono B57.out.size))
  clear hb62
  have eq := HE.out
  have M69 := Lib.hid (load_arr16 T63.out)
  have M70 := Lib.hid (load_arr16 T65.out)
  have C71 := Lib.hid (bless_any x z w61 ZX.out.2 ZZ.out.2 ZX.out.1 ZZ.out.1)
  rw [LXZ.out] at C71
  have M72 := Lib.hid (load_arr16 T63.out)
  have M73 := Lib.hid (load_arr16 T64.out)
  go_wp2_with (first | ((with_reducible refine wpList_load_by (o := ⟨some 54, .load 23 (.tmp 4), _, _, _, _⟩) ?e1 23 (.tmp 4) ?e2 ⟨w.heap.size, 0, none⟩ ?e3 _ M69.out ?_); (case e1 => rfl); (case e2 => rfl); (case e3 => rfl)) | ((with_reducible refine wpList_load_by (o := ⟨some 55, .load 23 (.tmp 6), _, _, _, _⟩) ?e1 23 (.tmp 6) ?e2 ⟨(w.heap.size + 1 + 1), 0, none⟩ ?e3 _ M70.out ?_); (case e1 => rfl); (case e2 => rfl); (case e3 => rfl)) | ((with_reducible refine wpList_load_by (o := ⟨some 43, .load 23 (.tmp 4), _, _, _, _⟩) ?e1 23 (.tmp 4) ?e2 ⟨w.heap.size, 0, none⟩ ?e3 _ M72.out ?_); (case e1 => rfl); (case e2 => rfl); (case e3 => rfl)) | ((with_reducible refine wpList_load_by (o := ⟨some 44, .load 23 (.tmp 5), _, _, _, _⟩) ?e1 23 (.tmp 5) ?e2 ⟨(w.heap.size + 1), 0, none⟩ ?e3 _ M73.out ?_); (case e1 => rfl); (case e2 => rfl); (case e3 => rfl)))
  refine C71.out.mono ?_
  rintro e w74 ⟨rfl, hb75⟩
  have T76 := Lib.hid (T63.out.below hb75 T63.out.lt)
  have T77 := Lib.hid (T64.out.below hb75 T64.out.lt)
  have T78 := Lib.hid (T65.out.below hb75 T65.out.lt)
  have T79 := Lib.hid (T66.out.below hb75 T66.out.lt)
  have F80 := Lib.hid (F67.out.below hb75 (Nat.le_refl _))
  have B81 := Lib.hid (B68.out.trans (hb75.mono B68.out.size))
  clear hb75
  go_wp2
  go_loopw [14] (fun i wr => ∃ n : Nat, 1 ≤ n ∧ n ≤ 20 ∧ i = .int .i64 n ∧ BoAt wr (w.heap.size + 1 + 1 + 1) (.slice b.A b.xs.length b.c) ∧ Below w.heap.size w wr) (fun i _ => 20 - (intOf i).toNat)
  case atStart => exact ⟨1, by omega, by omega, rfl, T79.out, B81.out⟩
  case round =>
    obtain ⟨n, hn1, hn2, rfl, hs, hb⟩ := hrel
    have hs0 := hs.c0
    by_cases hlt : n < b.xs.length
    · have t1 : (n : Int) < (b.xs.length : Int) := by omega
      have hn20 : n < 20 := by have := HLEN.out; omega
      have LB := Lib.hid hs.load
      have CM := Lib.hid (bmay_any b wr (Fb.out.below hb (Nat.le_refl _)))
      rw [MB.out] at CM
      have HS := Lib.hid hs
      have HB := Lib.hid hb
      clear hs hb
      go_wp2_with (first | ((with_reducible refine wpList_load_by (o := ⟨some 66, .load 41 (.tmp 7), _, _, _, _⟩) ?e1 41 (.tmp 7) ?e2 ⟨(w.heap.size + 1 + 1 + 1), 0, none⟩ ?e3 _ LB.out ?_); (case e1 => rfl); (case e2 => rfl); (case e3 => rfl)))
      refine CM.out.mono ?_
      rintro e w3 ⟨rfl, hb3⟩
      have B3 := Lib.hid (HS.out.below hb3 HS.out.lt)
      have HB3 := Lib.hid (HB.out.trans (hb3.mono HB.out.size))
      obtain ⟨b0, off, hA, hb0, hcc⟩ := HC.out (by omega)
      have X3 := Lib.hid ((hcc n hlt).same (HB3.out.block b0 hb0))
      have Y3 := Lib.hid ((hcc (n - 1) (by omega)).same (HB3.out.block b0 hb0))
      have RL := HR.out n hn1 hlt
      have HXV := HRV.out n hlt
      have HYV := HRV.out (n - 1) (by omega)
      have HL := Lib.hid (fun (w9 : World) (hS : Below w3.heap.size w3 w9) => bless_any (b.xs.getD (n - 1) rcA0).R.z (b.xs.getD n rcA0).R.z w9 HYV.1.2 HXV.1.2 HYV.len HXV.len)
      rw [RL] at HL
      have IXX := Lib.hid (fun w9 => ix_rec b0 off b.xs.length b.c n hlt n rfl w9)
      have IXY := Lib.hid (fun w9 => ix_rec b0 off b.xs.length b.c (n - 1) (by omega) ((n : Int) - 1) (by omega) w9)
      rw [← hA] at IXX IXY
      have hb03 := Nat.lt_of_lt_of_le hb0 HB3.out.size
      clear hb3 hcc hA RL HXV HYV
      generalize b.xs.getD n rcA0 = u at *
      generalize b.xs.getD (n - 1) rcA0 = v at *
      generalize off + n * 19 = ox at *
      generalize off + (n - 1) * 19 = oy at *
      go_wp2_with fail
      refine wp_region_G w3 (by kernel_rfl) ?_
      refine wpG_take (i := 0) (oi := ⟨some 71, _, _, _, _, _⟩) (v := ?_) rfl (by kernel_rfl) (by kernel_rfl) (by kernel_rfl) (Or.inl ⟨by rfl, unib_val ?_⟩) ?_; rotate_left; (focus (intro w9 hSw; go_simp; try with_reducible rfl)); simp only [Act.put, List.setIfInBounds_toArray, List.set_cons_zero, List.set_cons_succ]
      refine wpG_take (i := 1) (oi := ⟨some 72, _, _, _, _, _⟩) (v := ?_) rfl (by kernel_rfl) (by kernel_rfl) (by kernel_rfl) (Or.inl ⟨by rfl, unib_val ?_⟩) ?_; rotate_left; (focus (intro w9 hSw; have q0 := (B3.out.below hSw B3.out.lt).c0; go_simp; try with_reducible rfl)); simp only [Act.put, List.setIfInBounds_toArray, List.set_cons_zero, List.set_cons_succ]
      refine wpG_take (i := 2) (oi := ⟨some 73, _, _, _, _, _⟩) (v := ?_) rfl (by kernel_rfl) (by kernel_rfl) (by kernel_rfl) (Or.inl ⟨by rfl, unib_val ?_⟩) ?_; rotate_left; (focus (intro w9 hSw; go_simp; try with_reducible rfl)); simp only [Act.put, List.setIfInBounds_toArray, List.set_cons_zero, List.set_cons_succ]
      refine wpG_take (i := 3) (oi := ⟨some 74, _, _, _, _, _⟩) (v := ?_) rfl (by kernel_rfl) (by kernel_rfl) (by kernel_rfl) (Or.inl ⟨by rfl, unib_val ?_⟩) ?_; rotate_left; (focus (intro w9 hSw; have x1 : IntKind.i64.wrap ((n : Int) - 1) = (n : Int) - 1 := IntWalk.i64_in _ (by omega); go_simp; try with_reducible rfl)); simp only [Act.put, List.setIfInBounds_toArray, List.set_cons_zero, List.set_cons_succ]
      refine wpG_take (i := 4) (oi := ⟨some 75, _, _, _, _, _⟩) (v := ?_) rfl (by kernel_rfl) (by kernel_rfl) (by kernel_rfl) (Or.inl ⟨by rfl, unib_val ?_⟩) ?_; rotate_left; (focus (intro w9 hSw; have q0 := IXY.out w9; go_simp; try with_reducible rfl)); simp only [Act.put, List.setIfInBounds_toArray, List.set_cons_zero, List.set_cons_succ]
      refine wpG_take (i := 5) (oi := ⟨some 76, _, _, _, _, _⟩) (v := ?_) rfl (by kernel_rfl) (by kernel_rfl) (by kernel_rfl) (Or.inl ⟨by rfl, unib_val ?_⟩) ?_; rotate_left; (focus (intro w9 hSw; go_simp; try with_reducible rfl)); simp only [Act.put, List.setIfInBounds_toArray, List.set_cons_zero, List.set_cons_succ]
      refine wpG_take (i := 6) (oi := ⟨some 77, _, _, _, _, _⟩) (v := (.agg (bvals v.R.z))) rfl (by kernel_rfl) (by kernel_rfl) (by kernel_rfl) (Or.inl ⟨by rfl, unib_val ?_⟩) ?_; (focus (intro w9 hSw; exact exec_load_by 23 _ rfl ⟨b0, oy, none⟩ rfl (Y3.out.same (hSw.block b0 hb03)).load_id)); simp only [Act.put, List.setIfInBounds_toArray, List.set_cons_zero, List.set_cons_succ]
      refine wpG_take (i := 7) (oi := ⟨some 78, _, _, _, _, _⟩) (v := ?_) rfl (by kernel_rfl) (by kernel_rfl) (by kernel_rfl) (Or.inl ⟨by rfl, unib_val ?_⟩) ?_; rotate_left; (focus (intro w9 hSw; go_simp; try with_reducible rfl)); simp only [Act.put, List.setIfInBounds_toArray, List.set_cons_zero, List.set_cons_succ]
      refine wpG_take (i := 8) (oi := ⟨some 79, _, _, _, _, _⟩) (v := ?_) rfl (by kernel_rfl) (by kernel_rfl) (by kernel_rfl) (Or.inl ⟨by rfl, unib_val ?_⟩) ?_; rotate_left; (focus (intro w9 hSw; have q0 := (B3.out.below hSw B3.out.lt).c0; go_simp; try with_reducible rfl)); simp only [Act.put, List.setIfInBounds_toArray, List.set_cons_zero, List.set_cons_succ]
      refine wpG_take (i := 9) (oi := ⟨some 80, _, _, _, _, _⟩) (v := ?_) rfl (by kernel_rfl) (by kernel_rfl) (by kernel_rfl) (Or.inl ⟨by rfl, unib_val ?_⟩) ?_; rotate_left; (focus (intro w9 hSw; go_simp; try with_reducible rfl)); simp only [Act.put, List.setIfInBounds_toArray, List.set_cons_zero, List.set_cons_succ]
      refine wpG_take (i := 10) (oi := ⟨some 81, _, _, _, _, _⟩) (v := ?_) rfl (by kernel_rfl) (by kernel_rfl) (by kernel_rfl) (Or.inl ⟨by rfl, unib_val ?_⟩) ?_; rotate_left; (focus (intro w9 hSw; have q0 := IXX.out w9; go_simp; try with_reducible rfl)); simp only [Act.put, List.setIfInBounds_toArray, List.set_cons_zero, List.set_cons_succ]
      refine wpG_take (i := 11) (oi := ⟨some 82, _, _, _, _, _⟩) (v := ?_) rfl (by kernel_rfl) (by kernel_rfl) (by kernel_rfl) (Or.inl ⟨by rfl, unib_val ?_⟩) ?_; rotate_left; (focus (intro w9 hSw; go_simp; try with_reducible rfl)); simp only [Act.put, List.setIfInBounds_toArray, List.set_cons_zero, List.set_cons_succ]
      refine wpG_take (i := 12) (oi := ⟨some 83, _, _, _, _, _⟩) (v := (.agg (bvals u.R.z))) rfl (by kernel_rfl) (by kernel_rfl) (by kernel_rfl) (Or.inl ⟨by rfl, unib_val ?_⟩) ?_; (focus (intro w9 hSw; exact exec_load_by 23 _ rfl ⟨b0, ox, none⟩ rfl (X3.out.same (hSw.block b0 hb03)).load_id)); simp only [Act.put, List.setIfInBounds_toArray, List.set_cons_zero, List.set_cons_succ]
      refine wpG_take (i := 13) (oi := ⟨some 84, _, _, _, _, _⟩) rfl (by kernel_rfl) (by kernel_rfl) (by kernel_rfl) (Or.inl ⟨by rfl, unib_call_if ?_ HL.out⟩) ?_; (focus (intro w9 hSw; go_simp; try with_reducible rfl)); simp only [Act.put, List.setIfInBounds_toArray, List.set_cons_zero, List.set_cons_succ]
      refine wpG_take (i := 14) (oi := ⟨some 85, _, _, _, _, _⟩) (v := ?_) rfl (by kernel_rfl) (by kernel_rfl) (by kernel_rfl) (Or.inl ⟨by rfl, unib_val ?_⟩) ?_; rotate_left; (focus (intro w9 hSw; go_simp; try with_reducible rfl)); simp only [Act.put, List.setIfInBounds_toArray, List.set_cons_zero, List.set_cons_succ]
      refine wpG_done (by kernel_rfl) ?_ _
      intro w9 hSw _
      have BO9 := Lib.hid (B3.out.below hSw B3.out.lt)
      have B9 := Lib.hid (HB3.out.trans (hSw.mono HB3.out.size))
      clear hSw
      go_wp2
      go_roundw
      case rel => exact ⟨n + 1, by omega, by omega, by go_num, BO9.out, B9.out⟩
      case measure => simp [intOf]; omega
    · have t1 : ¬ (n : Int) < (b.xs.length : Int) := by omega
      go_wp2
      go_ret
      exact ⟨rfl, hb⟩
set_option maxHeartbeats 16000000 in
theorem bnames_A00 (x y z : List Int) (b : Bk) (w : World) (hlaid : Laid w) (wx : x.length = 16 ∧ AllBytes x) (wy : y.length = 16 ∧ AllBytes y) (wz : z.length = 16 ∧ AllBytes z) (wb : BkAt w b) (iPB : fewB b.rs = true) (iLXY : lessL x y = true) (iLYX : lessL y x = false) (iLYZ : lessL y z = false) (iMB : bmay b.rs = false) (ie : (x == y) = false) :
    Calls Tryd.prog 10 #[.agg (bvals x), .agg (bvals y), .agg (bvals z), .agg #[.slice b.A b.xs.length b.c]] w fun e w' => e = .returned (.bool true) ∧ Below w.heap.size w w' := by
  have HLA := Lib.hid (fun (X : World) (hX : Below w.heap.size w X) => hlaid.below hX (Nat.le_refl _))
  have Fb := Lib.hid wb
  have ZX := Lib.hid wx
  have ZY := Lib.hid wy
  have ZZ := Lib.hid wz
  have PB := Lib.hid iPB
  have LXY := Lib.hid iLXY
  have LYX := Lib.hid iLYX
  have LYZ := Lib.hid iLYZ
  have MB := Lib.hid iMB
  have he := eq_id wx.2 wy.2 wx.1 wy.1
  rw [ie] at he
  have HE := Lib.hid he
  have HLEN := Lib.hid (fewB_fs iPB).1
  clear wb
  clear hlaid wx wy wz he ie iPB iLXY iLYX iLYZ iMB
  have B1 := Lib.hid (Below.refl w.heap.size w)
  have T2n := IdAt.new w ZX.out.1
  have T2 := Lib.hid T2n
  clear T2n
  have B3 := Lib.hid (B1.out.alloc B1.out.size (.cells (bvals x) 23))
  have T4 := Lib.hid (T2.out.old (.cells (bvals y) 23))
  have T5n := IdAt.new (w.alloc (.cells (bvals x) 23)) ZY.out.1
  simp only [World.size_alloc] at T5n
  have T5 := Lib.hid T5n
  clear T5n
  have B6 := Lib.hid (B3.out.alloc B3.out.size (.cells (bvals y) 23))
  have T7 := Lib.hid (T4.out.old (.cells (bvals z) 23))
  have T8 := Lib.hid (T5.out.old (.cells (bvals z) 23))
  have T9n := IdAt.new ((w.alloc (.cells (bvals x) 23)).alloc (.cells (bvals y) 23)) ZZ.out.1
  simp only [World.size_alloc] at T9n
  have T9 := Lib.hid T9n
  clear T9n
  have B10 := Lib.hid (B6.out.alloc B6.out.size (.cells (bvals z) 23))
  have T11 := Lib.hid (T7.out.old (.cells #[(.slice b.A b.xs.length b.c)] 41))
  have T12 := Lib.hid (T8.out.old (.cells #[(.slice b.A b.xs.length b.c)] 41))
  have T13 := Lib.hid (T9.out.old (.cells #[(.slice b.A b.xs.length b.c)] 41))
  have T14n := BoAt.new (((w.alloc (.cells (bvals x) 23)).alloc (.cells (bvals y) 23)).alloc (.cells (bvals z) 23)) (.slice b.A b.xs.length b.c)
  simp only [World.size_alloc] at T14n
  have T14 := Lib.hid T14n
  clear T14n
  have B15 := Lib.hid (B10.out.alloc B10.out.size (.cells #[(.slice b.A b.xs.length b.c)] 41))
  have F16 := Lib.hid (Fb.out.below B15.out (Nat.le_refl _))
  go_enter Tryd.func10, Tryd.ntmps10
  have C17 := Lib.hid (bkAwake ((((w.alloc (.cells (bvals x) 23)).alloc (.cells (bvals y) 23)).alloc (.cells (bvals z) 23)).alloc (.cells #[(.slice b.A b.xs.length b.c)] 41)) (HLA.out _ B15.out))
  go_wp2_with fail
  refine C17.out.mono ?_
  rintro e w18 ⟨rfl, hb19⟩
  have T20 := Lib.hid (T11.out.below hb19 T11.out.lt)
  have T21 := Lib.hid (T12.out.below hb19 T12.out.lt)
  have T22 := Lib.hid (T13.out.below hb19 T13.out.lt)
  have T23 := Lib.hid (T14.out.below hb19 T14.out.lt)
  have F24 := Lib.hid (F16.out.below hb19 (Nat.le_refl _))
  have B25 := Lib.hid (B15.out.trans (hb19.mono B15.out.size))
  clear hb19
  have M26 := Lib.hid (T23.out.load)
  have C27 := Lib.hid (fewB_any b w18 F24.out)
  rw [PB.out] at C27
  go_wp2_with (first | ((with_reducible refine wpList_load_by (o := ⟨some 16, .load 41 (.tmp 7), _, _, _, _⟩) ?e1 41 (.tmp 7) ?e2 ⟨(w.heap.size + 1 + 1 + 1), 0, none⟩ ?e3 _ M26.out ?_); (case e1 => rfl); (case e2 => rfl); (case e3 => rfl)))
  refine C27.out.mono ?_
  rintro e w28 ⟨rfl, hb29⟩
  have T30 := Lib.hid (T20.out.below hb29 T20.out.lt)
  have T31 := Lib.hid (T21.out.below hb29 T21.out.lt)
  have T32 := Lib.hid (T22.out.below hb29 T22.out.lt)
  have T33 := Lib.hid (T23.out.below hb29 T23.out.lt)
  have F34 := Lib.hid (F24.out.below hb29 (Nat.le_refl _))
  have B35 := Lib.hid (B25.out.trans (hb29.mono B25.out.size))
  clear hb29
  have M36 := Lib.hid (load_arr16 T30.out)
  have M37 := Lib.hid (load_arr16 T31.out)
  have C38 := Lib.hid (bless_any x y w28 ZX.out.2 ZY.out.2 ZX.out.1 ZY.out.1)
  rw [LXY.out] at C38
  go_wp2_with (first | ((with_reducible refine wpList_load_by (o := ⟨some 18, .load 23 (.tmp 4), _, _, _, _⟩) ?e1 23 (.tmp 4) ?e2 ⟨w.heap.size, 0, none⟩ ?e3 _ M36.out ?_); (case e1 => rfl); (case e2 => rfl); (case e3 => rfl)) | ((with_reducible refine wpList_load_by (o := ⟨some 19, .load 23 (.tmp 5), _, _, _, _⟩) ?e1 23 (.tmp 5) ?e2 ⟨(w.heap.size + 1), 0, none⟩ ?e3 _ M37.out ?_); (case e1 => rfl); (case e2 => rfl); (case e3 => rfl)))
  refine C38.out.mono ?_
  rintro e w39 ⟨rfl, hb40⟩
  have T41 := Lib.hid (T30.out.below hb40 T30.out.lt)
  have T42 := Lib.hid (T31.out.below hb40 T31.out.lt)
  have T43 := Lib.hid (T32.out.below hb40 T32.out.lt)
  have T44 := Lib.hid (T33.out.below hb40 T33.out.lt)
  have F45 := Lib.hid (F34.out.below hb40 (Nat.le_refl _))
  have B46 := Lib.hid (B35.out.trans (hb40.mono B35.out.size))
  clear hb40
  have M47 := Lib.hid (load_arr16 T42.out)
  have M48 := Lib.hid (load_arr16 T41.out)
  have C49 := Lib.hid (bless_any y x w39 ZY.out.2 ZX.out.2 ZY.out.1 ZX.out.1)
  rw [LYX.out] at C49
  go_wp2_with (first | ((with_reducible refine wpList_load_by (o := ⟨some 21, .load 23 (.tmp 5), _, _, _, _⟩) ?e1 23 (.tmp 5) ?e2 ⟨(w.heap.size + 1), 0, none⟩ ?e3 _ M47.out ?_); (case e1 => rfl); (case e2 => rfl); (case e3 => rfl)) | ((with_reducible refine wpList_load_by (o := ⟨some 22, .load 23 (.tmp 4), _, _, _, _⟩) ?e1 23 (.tmp 4) ?e2 ⟨w.heap.size, 0, none⟩ ?e3 _ M48.out ?_); (case e1 => rfl); (case e2 => rfl); (case e3 => rfl)))
  refine C49.out.mono ?_
  rintro e w50 ⟨rfl, hb51⟩
  have T52 := Lib.hid (T41.out.below hb51 T41.out.lt)
  have T53 := Lib.hid (T42.out.below hb51 T42.out.lt)
  have T54 := Lib.hid (T43.out.below hb51 T43.out.lt)
  have T55 := Lib.hid (T44.out.below hb51 T44.out.lt)
  have F56 := Lib.hid (F45.out.below hb51 (Nat.le_refl _))
  have B57 := Lib.hid (B46.out.trans (hb51.mono B46.out.size))
  clear hb51
  have M58 := Lib.hid (load_arr16 T53.out)
  have M59 := Lib.hid (load_arr16 T54.out)
  have C60 := Lib.hid (bless_any y z w50 ZY.out.2 ZZ.out.2 ZY.out.1 ZZ.out.1)
  rw [LYZ.out] at C60
  go_wp2_with (first | ((with_reducible refine wpList_load_by (o := ⟨some 24, .load 23 (.tmp 5), _, _, _, _⟩) ?e1 23 (.tmp 5) ?e2 ⟨(w.heap.size + 1), 0, none⟩ ?e3 _ M58.out ?_); (case e1 => rfl); (case e2 => rfl); (case e3 => rfl)) | ((with_reducible refine wpList_load_by (o := ⟨some 25, .load 23 (.tmp 6), _, _, _, _⟩) ?e1 23 (.tmp 6) ?e2 ⟨(w.heap.size + 1 + 1), 0, none⟩ ?e3 _ M59.out ?_); (case e1 => rfl); (case e2 => rfl); (case e3 => rfl)))
  refine C60.out.mono ?_
  rintro e w61 ⟨rfl, hb62⟩
  have T63 := Lib.hid (T52.out.below hb62 T52.out.lt)
  have T64 := Lib.hid (T53.out.below hb62 T53.out.lt)
  have T65 := Lib.hid (T54.out.below hb62 T54.out.lt)
  have T66 := Lib.hid (T55.out.below hb62 T55.out.lt)
  have F67 := Lib.hid (F56.out.below hb62 (Nat.le_refl _))
  have B68 := Lib.hid (B57.out.trans (hb62.mono B57.out.size))
  clear hb62
  have eq := HE.out
  have M69 := Lib.hid (load_arr16 T63.out)
  have M70 := Lib.hid (load_arr16 T64.out)
  go_wp2_with (first | ((with_reducible refine wpList_load_by (o := ⟨some 43, .load 23 (.tmp 4), _, _, _, _⟩) ?e1 23 (.tmp 4) ?e2 ⟨w.heap.size, 0, none⟩ ?e3 _ M69.out ?_); (case e1 => rfl); (case e2 => rfl); (case e3 => rfl)) | ((with_reducible refine wpList_load_by (o := ⟨some 44, .load 23 (.tmp 5), _, _, _, _⟩) ?e1 23 (.tmp 5) ?e2 ⟨(w.heap.size + 1), 0, none⟩ ?e3 _ M70.out ?_); (case e1 => rfl); (case e2 => rfl); (case e3 => rfl)))
  go_loopw [14] (fun i wr => ∃ n : Nat, 1 ≤ n ∧ n ≤ 20 ∧ i = .int .i64 n ∧ BoAt wr (w.heap.size + 1 + 1 + 1) (.slice b.A b.xs.length b.c) ∧ Below w.heap.size w wr) (fun i _ => 20 - (intOf i).toNat)
  case atStart => exact ⟨1, by omega, by omega, rfl, T66.out, B68.out⟩
  case round =>
    obtain ⟨n, hn1, hn2, rfl, hs, hb⟩ := hrel
    have hs0 := hs.c0
    by_cases hlt : n < b.xs.length
    · have t1 : (n : Int) < (b.xs.length : Int) := by omega
      have hn20 : n < 20 := by have := HLEN.out; omega
      have LB := Lib.hid hs.load
      have CM := Lib.hid (bmay_any b wr (Fb.out.below hb (Nat.le_refl _)))
      rw [MB.out] at CM
      have HS := Lib.hid hs
      have HB := Lib.hid hb
      clear hs hb
      go_wp2_with (first | ((with_reducible refine wpList_load_by (o := ⟨some 66, .load 41 (.tmp 7), _, _, _, _⟩) ?e1 41 (.tmp 7) ?e2 ⟨(w.heap.size + 1 + 1 + 1), 0, none⟩ ?e3 _ LB.out ?_); (case e1 => rfl); (case e2 => rfl); (case e3 => rfl)))
      refine CM.out.mono ?_
      rintro e w3 ⟨rfl, hb3⟩
      have B3 := Lib.hid (HS.out.below hb3 HS.out.lt)
      have HB3 := Lib.hid (HB.out.trans (hb3.mono HB.out.size))
      clear hb3
      go_wp2
      go_ret
      exact ⟨rfl, HB3.out⟩
    · have t1 : ¬ (n : Int) < (b.xs.length : Int) := by omega
      go_wp2
      go_ret
      exact ⟨rfl, hb⟩
set_option maxHeartbeats 16000000 in
theorem bnames_A01 (x y z : List Int) (b : Bk) (w : World) (hlaid : Laid w) (wx : x.length = 16 ∧ AllBytes x) (wy : y.length = 16 ∧ AllBytes y) (wz : z.length = 16 ∧ AllBytes z) (wb : BkAt w b) (iPB : fewB b.rs = true) (iLXY : lessL x y = true) (iLYX : lessL y x = false) (iLYZ : lessL y z = false) (iMB : bmay b.rs = true) (ie : (x == y) = false) :
    Calls Tryd.prog 10 #[.agg (bvals x), .agg (bvals y), .agg (bvals z), .agg #[.slice b.A b.xs.length b.c]] w fun e w' => e = .returned (.bool true) ∧ Below w.heap.size w w' := by
  have HLA := Lib.hid (fun (X : World) (hX : Below w.heap.size w X) => hlaid.below hX (Nat.le_refl _))
  have Fb := Lib.hid wb
  have ZX := Lib.hid wx
  have ZY := Lib.hid wy
  have ZZ := Lib.hid wz
  have PB := Lib.hid iPB
  have LXY := Lib.hid iLXY
  have LYX := Lib.hid iLYX
  have LYZ := Lib.hid iLYZ
  have MB := Lib.hid iMB
  have he := eq_id wx.2 wy.2 wx.1 wy.1
  rw [ie] at he
  have HE := Lib.hid he
  have HLEN := Lib.hid (fewB_fs iPB).1
  have HRV := Lib.hid (fun i (hi : i < b.xs.length) => RsAt.rv wb hi)
  have HR := Lib.hid (fun n (h1 : 1 ≤ n) (h2 : n < b.xs.length) => rise_at (bmay_iff.1 iMB).2.2 n h1 h2)
  obtain ⟨-, -, -, hcell, -⟩ := wb
  have HC := Lib.hid hcell
  clear hcell
  clear hlaid wx wy wz he ie iPB iLXY iLYX iLYZ iMB
  have B1 := Lib.hid (Below.refl w.heap.size w)
  have T2n := IdAt.new w ZX.out.1
  have T2 := Lib.hid T2n
  clear T2n
  have B3 := Lib.hid (B1.out.alloc B1.out.size (.cells (bvals x) 23))
  have T4 := Lib.hid (T2.out.old (.cells (bvals y) 23))
  have T5n := IdAt.new (w.alloc (.cells (bvals x) 23)) ZY.out.1
  simp only [World.size_alloc] at T5n
  have T5 := Lib.hid T5n
  clear T5n
  have B6 := Lib.hid (B3.out.alloc B3.out.size (.cells (bvals y) 23))
  have T7 := Lib.hid (T4.out.old (.cells (bvals z) 23))
  have T8 := Lib.hid (T5.out.old (.cells (bvals z) 23))
  have T9n := IdAt.new ((w.alloc (.cells (bvals x) 23)).alloc (.cells (bvals y) 23)) ZZ.out.1
  simp only [World.size_alloc] at T9n
  have T9 := Lib.hid T9n
  clear T9n
  have B10 := Lib.hid (B6.out.alloc B6.out.size (.cells (bvals z) 23))
  have T11 := Lib.hid (T7.out.old (.cells #[(.slice b.A b.xs.length b.c)] 41))
  have T12 := Lib.hid (T8.out.old (.cells #[(.slice b.A b.xs.length b.c)] 41))
  have T13 := Lib.hid (T9.out.old (.cells #[(.slice b.A b.xs.length b.c)] 41))
  have T14n := BoAt.new (((w.alloc (.cells (bvals x) 23)).alloc (.cells (bvals y) 23)).alloc (.cells (bvals z) 23)) (.slice b.A b.xs.length b.c)
  simp only [World.size_alloc] at T14n
  have T14 := Lib.hid T14n
  clear T14n
  have B15 := Lib.hid (B10.out.alloc B10.out.size (.cells #[(.slice b.A b.xs.length b.c)] 41))
  have F16 := Lib.hid (Fb.out.below B15.out (Nat.le_refl _))
  go_enter Tryd.func10, Tryd.ntmps10
  have C17 := Lib.hid (bkAwake ((((w.alloc (.cells (bvals x) 23)).alloc (.cells (bvals y) 23)).alloc (.cells (bvals z) 23)).alloc (.cells #[(.slice b.A b.xs.length b.c)] 41)) (HLA.out _ B15.out))
  go_wp2_with fail
  refine C17.out.mono ?_
  rintro e w18 ⟨rfl, hb19⟩
  have T20 := Lib.hid (T11.out.below hb19 T11.out.lt)
  have T21 := Lib.hid (T12.out.below hb19 T12.out.lt)
  have T22 := Lib.hid (T13.out.below hb19 T13.out.lt)
  have T23 := Lib.hid (T14.out.below hb19 T14.out.lt)
  have F24 := Lib.hid (F16.out.below hb19 (Nat.le_refl _))
  have B25 := Lib.hid (B15.out.trans (hb19.mono B15.out.size))
  clear hb19
  have M26 := Lib.hid (T23.out.load)
  have C27 := Lib.hid (fewB_any b w18 F24.out)
  rw [PB.out] at C27
  go_wp2_with (first | ((with_reducible refine wpList_load_by (o := ⟨some 16, .load 41 (.tmp 7), _, _, _, _⟩) ?e1 41 (.tmp 7) ?e2 ⟨(w.heap.size + 1 + 1 + 1), 0, none⟩ ?e3 _ M26.out ?_); (case e1 => rfl); (case e2 => rfl); (case e3 => rfl)))
  refine C27.out.mono ?_
  rintro e w28 ⟨rfl, hb29⟩
  have T30 := Lib.hid (T20.out.below hb29 T20.out.lt)
  have T31 := Lib.hid (T21.out.below hb29 T21.out.lt)
  have T32 := Lib.hid (T22.out.below hb29 T22.out.lt)
  have T33 := Lib.hid (T23.out.below hb29 T23.out.lt)
  have F34 := Lib.hid (F24.out.below hb29 (Nat.le_refl _))
  have B35 := Lib.hid (B25.out.trans (hb29.mono B25.out.size))
  clear hb29
  have M36 := Lib.hid (load_arr16 T30.out)
  have M37 := Lib.hid (load_arr16 T31.out)
  have C38 := Lib.hid (bless_any x y w28 ZX.out.2 ZY.out.2 ZX.out.1 ZY.out.1)
  rw [LXY.out] at C38
  go_wp2_with (first | ((with_reducible refine wpList_load_by (o := ⟨some 18, .load 23 (.tmp 4), _, _, _, _⟩) ?e1 23 (.tmp 4) ?e2 ⟨w.heap.size, 0, none⟩ ?e3 _ M36.out ?_); (case e1 => rfl); (case e2 => rfl); (case e3 => rfl)) | ((with_reducible refine wpList_load_by (o := ⟨some 19, .load 23 (.tmp 5), _, _, _, _⟩) ?e1 23 (.tmp 5) ?e2 ⟨(w.heap.size + 1), 0, none⟩ ?e3 _ M37.out ?_); (case e1 => rfl); (case e2 => rfl); (case e3 => rfl)))
  refine C38.out.mono ?_
  rintro e w39 ⟨rfl, hb40⟩
  have T41 := Lib.hid (T30.out.below hb40 T30.out.lt)
  have T42 := Lib.hid (T31.out.below hb40 T31.out.lt)
  have T43 := Lib.hid (T32.out.below hb40 T32.out.lt)
  have T44 := Lib.hid (T33.out.below hb40 T33.out.lt)
  have F45 := Lib.hid (F34.out.below hb40 (Nat.le_refl _))
  have B46 := Lib.hid (B35.out.trans (hb40.mono B35.out.size))
  clear hb40
  have M47 := Lib.hid (load_arr16 T42.out)
  have M48 := Lib.hid (load_arr16 T41.out)
  have C49 := Lib.hid (bless_any y x w39 ZY.out.2 ZX.out.2 ZY.out.1 ZX.out.1)
  rw [LYX.out] at C49
  go_wp2_with (first | ((with_reducible refine wpList_load_by (o := ⟨some 21, .load 23 (.tmp 5), _, _, _, _⟩) ?e1 23 (.tmp 5) ?e2 ⟨(w.heap.size + 1), 0, none⟩ ?e3 _ M47.out ?_); (case e1 => rfl); (case e2 => rfl); (case e3 => rfl)) | ((with_reducible refine wpList_load_by (o := ⟨some 22, .load 23 (.tmp 4), _, _, _, _⟩) ?e1 23 (.tmp 4) ?e2 ⟨w.heap.size, 0, none⟩ ?e3 _ M48.out ?_); (case e1 => rfl); (case e2 => rfl); (case e3 => rfl)))
  refine C49.out.mono ?_
  rintro e w50 ⟨rfl, hb51⟩
  have T52 := Lib.hid (T41.out.below hb51 T41.out.lt)
  have T53 := Lib.hid (T42.out.below hb51 T42.out.lt)
  have T54 := Lib.hid (T43.out.below hb51 T43.out.lt)
  have T55 := Lib.hid (T44.out.below hb51 T44.out.lt)
  have F56 := Lib.hid (F45.out.below hb51 (Nat.le_refl _))
  have B57 := Lib.hid (B46.out.trans (hb51.mono B46.out.size))
  clear hb51
  have M58 := Lib.hid (load_arr16 T53.out)
  have M59 := Lib.hid (load_arr16 T54.out)
  have C60 := Lib.hid (bless_any y z w50 ZY.out.2 ZZ.out.2 ZY.out.1 ZZ.out.1)
  rw [LYZ.out] at C60
  go_wp2_with (first | ((with_reducible refine wpList_load_by (o := ⟨some 24, .load 23 (.tmp 5), _, _, _, _⟩) ?e1 23 (.tmp 5) ?e2 ⟨(w.heap.size + 1), 0, none⟩ ?e3 _ M58.out ?_); (case e1 => rfl); (case e2 => rfl); (case e3 => rfl)) | ((with_reducible refine wpList_load_by (o := ⟨some 25, .load 23 (.tmp 6), _, _, _, _⟩) ?e1 23 (.tmp 6) ?e2 ⟨(w.heap.size + 1 + 1), 0, none⟩ ?e3 _ M59.out ?_); (case e1 => rfl); (case e2 => rfl); (case e3 => rfl)))
  refine C60.out.mono ?_
  rintro e w61 ⟨rfl, hb62⟩
  have T63 := Lib.hid (T52.out.below hb62 T52.out.lt)
  have T64 := Lib.hid (T53.out.below hb62 T53.out.lt)
  have T65 := Lib.hid (T54.out.below hb62 T54.out.lt)
  have T66 := Lib.hid (T55.out.below hb62 T55.out.lt)
  have F67 := Lib.hid (F56.out.below hb62 (Nat.le_refl _))
  have B68 := Lib.hid (B57.out.trans (hb62.mono B57.out.size))
  clear hb62
  have eq := HE.out
  have M69 := Lib.hid (load_arr16 T63.out)
  have M70 := Lib.hid (load_arr16 T64.out)
  go_wp2_with (first | ((with_reducible refine wpList_load_by (o := ⟨some 43, .load 23 (.tmp 4), _, _, _, _⟩) ?e1 23 (.tmp 4) ?e2 ⟨w.heap.size, 0, none⟩ ?e3 _ M69.out ?_); (case e1 => rfl); (case e2 => rfl); (case e3 => rfl)) | ((with_reducible refine wpList_load_by (o := ⟨some 44, .load 23 (.tmp 5), _, _, _, _⟩) ?e1 23 (.tmp 5) ?e2 ⟨(w.heap.size + 1), 0, none⟩ ?e3 _ M70.out ?_); (case e1 => rfl); (case e2 => rfl); (case e3 => rfl)))
  go_loopw [14] (fun i wr => ∃ n : Nat, 1 ≤ n ∧ n ≤ 20 ∧ i = .int .i64 n ∧ BoAt wr (w.heap.size + 1 + 1 + 1) (.slice b.A b.xs.length b.c) ∧ Below w.heap.size w wr) (fun i _ => 20 - (intOf i).toNat)
  case atStart => exact ⟨1, by omega, by omega, rfl, T66.out, B68.out⟩
  case round =>
    obtain ⟨n, hn1, hn2, rfl, hs, hb⟩ := hrel
    have hs0 := hs.c0
    by_cases hlt : n < b.xs.length
    · have t1 : (n : Int) < (b.xs.length : Int) := by omega
      have hn20 : n < 20 := by have := HLEN.out; omega
      have LB := Lib.hid hs.load
      have CM := Lib.hid (bmay_any b wr (Fb.out.below hb (Nat.le_refl _)))
      rw [MB.out] at CM
      have HS := Lib.hid hs
      have HB := Lib.hid hb
      clear hs hb
      go_wp2_with (first | ((with_reducible refine wpList_load_by (o := ⟨some 66, .load 41 (.tmp 7), _, _, _, _⟩) ?e1 41 (.tmp 7) ?e2 ⟨(w.heap.size + 1 + 1 + 1), 0, none⟩ ?e3 _ LB.out ?_); (case e1 => rfl); (case e2 => rfl); (case e3 => rfl)))
      refine CM.out.mono ?_
      rintro e w3 ⟨rfl, hb3⟩
      have B3 := Lib.hid (HS.out.below hb3 HS.out.lt)
      have HB3 := Lib.hid (HB.out.trans (hb3.mono HB.out.size))
      obtain ⟨b0, off, hA, hb0, hcc⟩ := HC.out (by omega)
      have X3 := Lib.hid ((hcc n hlt).same (HB3.out.block b0 hb0))
      have Y3 := Lib.hid ((hcc (n - 1) (by omega)).same (HB3.out.block b0 hb0))
      have RL := HR.out n hn1 hlt
      have HXV := HRV.out n hlt
      have HYV := HRV.out (n - 1) (by omega)
      have HL := Lib.hid (fun (w9 : World) (hS : Below w3.heap.size w3 w9) => bless_any (b.xs.getD (n - 1) rcA0).R.z (b.xs.getD n rcA0).R.z w9 HYV.1.2 HXV.1.2 HYV.len HXV.len)
      rw [RL] at HL
      have IXX := Lib.hid (fun w9 => ix_rec b0 off b.xs.length b.c n hlt n rfl w9)
      have IXY := Lib.hid (fun w9 => ix_rec b0 off b.xs.length b.c (n - 1) (by omega) ((n : Int) - 1) (by omega) w9)
      rw [← hA] at IXX IXY
      have hb03 := Nat.lt_of_lt_of_le hb0 HB3.out.size
      clear hb3 hcc hA RL HXV HYV
      generalize b.xs.getD n rcA0 = u at *
      generalize b.xs.getD (n - 1) rcA0 = v at *
      generalize off + n * 19 = ox at *
      generalize off + (n - 1) * 19 = oy at *
      go_wp2_with fail
      refine wp_region_G w3 (by kernel_rfl) ?_
      refine wpG_take (i := 0) (oi := ⟨some 71, _, _, _, _, _⟩) (v := ?_) rfl (by kernel_rfl) (by kernel_rfl) (by kernel_rfl) (Or.inl ⟨by rfl, unib_val ?_⟩) ?_; rotate_left; (focus (intro w9 hSw; go_simp; try with_reducible rfl)); simp only [Act.put, List.setIfInBounds_toArray, List.set_cons_zero, List.set_cons_succ]
      refine wpG_take (i := 1) (oi := ⟨some 72, _, _, _, _, _⟩) (v := ?_) rfl (by kernel_rfl) (by kernel_rfl) (by kernel_rfl) (Or.inl ⟨by rfl, unib_val ?_⟩) ?_; rotate_left; (focus (intro w9 hSw; have q0 := (B3.out.below hSw B3.out.lt).c0; go_simp; try with_reducible rfl)); simp only [Act.put, List.setIfInBounds_toArray, List.set_cons_zero, List.set_cons_succ]
      refine wpG_take (i := 2) (oi := ⟨some 73, _, _, _, _, _⟩) (v := ?_) rfl (by kernel_rfl) (by kernel_rfl) (by kernel_rfl) (Or.inl ⟨by rfl, unib_val ?_⟩) ?_; rotate_left; (focus (intro w9 hSw; go_simp; try with_reducible rfl)); simp only [Act.put, List.setIfInBounds_toArray, List.set_cons_zero, List.set_cons_succ]
      refine wpG_take (i := 3) (oi := ⟨some 74, _, _, _, _, _⟩) (v := ?_) rfl (by kernel_rfl) (by kernel_rfl) (by kernel_rfl) (Or.inl ⟨by rfl, unib_val ?_⟩) ?_; rotate_left; (focus (intro w9 hSw; have x1 : IntKind.i64.wrap ((n : Int) - 1) = (n : Int) - 1 := IntWalk.i64_in _ (by omega); go_simp; try with_reducible rfl)); simp only [Act.put, List.setIfInBounds_toArray, List.set_cons_zero, List.set_cons_succ]
      refine wpG_take (i := 4) (oi := ⟨some 75, _, _, _, _, _⟩) (v := ?_) rfl (by kernel_rfl) (by kernel_rfl) (by kernel_rfl) (Or.inl ⟨by rfl, unib_val ?_⟩) ?_; rotate_left; (focus (intro w9 hSw; have q0 := IXY.out w9; go_simp; try with_reducible rfl)); simp only [Act.put, List.setIfInBounds_toArray, List.set_cons_zero, List.set_cons_succ]
      refine wpG_take (i := 5) (oi := ⟨some 76, _, _, _, _, _⟩) (v := ?_) rfl (by kernel_rfl) (by kernel_rfl) (by kernel_rfl) (Or.inl ⟨by rfl, unib_val ?_⟩) ?_; rotate_left; (focus (intro w9 hSw; go_simp; try with_reducible rfl)); simp only [Act.put, List.setIfInBounds_toArray, List.set_cons_zero, List.set_cons_succ]
      refine wpG_take (i := 6) (oi := ⟨some 77, _, _, _, _, _⟩) (v := (.agg (bvals v.R.z))) rfl (by kernel_rfl) (by kernel_rfl) (by kernel_rfl) (Or.inl ⟨by rfl, unib_val ?_⟩) ?_; (focus (intro w9 hSw; exact exec_load_by 23 _ rfl ⟨b0, oy, none⟩ rfl (Y3.out.same (hSw.block b0 hb03)).load_id)); simp only [Act.put, List.setIfInBounds_toArray, List.set_cons_zero, List.set_cons_succ]
      refine wpG_take (i := 7) (oi := ⟨some 78, _, _, _, _, _⟩) (v := ?_) rfl (by kernel_rfl) (by kernel_rfl) (by kernel_rfl) (Or.inl ⟨by rfl, unib_val ?_⟩) ?_; rotate_left; (focus (intro w9 hSw; go_simp; try with_reducible rfl)); simp only [Act.put, List.setIfInBounds_toArray, List.set_cons_zero, List.set_cons_succ]
      refine wpG_take (i := 8) (oi := ⟨some 79, _, _, _, _, _⟩) (v := ?_) rfl (by kernel_rfl) (by kernel_rfl) (by kernel_rfl) (Or.inl ⟨by rfl, unib_val ?_⟩) ?_; rotate_left; (focus (intro w9 hSw; have q0 := (B3.out.below hSw B3.out.lt).c0; go_simp; try with_reducible rfl)); simp only [Act.put, List.setIfInBounds_toArray, List.set_cons_zero, List.set_cons_succ]
      refine wpG_take (i := 9) (oi := ⟨some 80, _, _, _, _, _⟩) (v := ?_) rfl (by kernel_rfl) (by kernel_rfl) (by kernel_rfl) (Or.inl ⟨by rfl, unib_val ?_⟩) ?_; rotate_left; (focus (intro w9 hSw; go_simp; try with_reducible rfl)); simp only [Act.put, List.setIfInBounds_toArray, List.set_cons_zero, List.set_cons_succ]
      refine wpG_take (i := 10) (oi := ⟨some 81, _, _, _, _, _⟩) (v := ?_) rfl (by kernel_rfl) (by kernel_rfl) (by kernel_rfl) (Or.inl ⟨by rfl, unib_val ?_⟩) ?_; rotate_left; (focus (intro w9 hSw; have q0 := IXX.out w9; go_simp; try with_reducible rfl)); simp only [Act.put, List.setIfInBounds_toArray, List.set_cons_zero, List.set_cons_succ]
      refine wpG_take (i := 11) (oi := ⟨some 82, _, _, _, _, _⟩) (v := ?_) rfl (by kernel_rfl) (by kernel_rfl) (by kernel_rfl) (Or.inl ⟨by rfl, unib_val ?_⟩) ?_; rotate_left; (focus (intro w9 hSw; go_simp; try with_reducible rfl)); simp only [Act.put, List.setIfInBounds_toArray, List.set_cons_zero, List.set_cons_succ]
      refine wpG_take (i := 12) (oi := ⟨some 83, _, _, _, _, _⟩) (v := (.agg (bvals u.R.z))) rfl (by kernel_rfl) (by kernel_rfl) (by kernel_rfl) (Or.inl ⟨by rfl, unib_val ?_⟩) ?_; (focus (intro w9 hSw; exact exec_load_by 23 _ rfl ⟨b0, ox, none⟩ rfl (X3.out.same (hSw.block b0 hb03)).load_id)); simp only [Act.put, List.setIfInBounds_toArray, List.set_cons_zero, List.set_cons_succ]
      refine wpG_take (i := 13) (oi := ⟨some 84, _, _, _, _, _⟩) rfl (by kernel_rfl) (by kernel_rfl) (by kernel_rfl) (Or.inl ⟨by rfl, unib_call_if ?_ HL.out⟩) ?_; (focus (intro w9 hSw; go_simp; try with_reducible rfl)); simp only [Act.put, List.setIfInBounds_toArray, List.set_cons_zero, List.set_cons_succ]
      refine wpG_take (i := 14) (oi := ⟨some 85, _, _, _, _, _⟩) (v := ?_) rfl (by kernel_rfl) (by kernel_rfl) (by kernel_rfl) (Or.inl ⟨by rfl, unib_val ?_⟩) ?_; rotate_left; (focus (intro w9 hSw; go_simp; try with_reducible rfl)); simp only [Act.put, List.setIfInBounds_toArray, List.set_cons_zero, List.set_cons_succ]
      refine wpG_done (by kernel_rfl) ?_ _
      intro w9 hSw _
      have BO9 := Lib.hid (B3.out.below hSw B3.out.lt)
      have B9 := Lib.hid (HB3.out.trans (hSw.mono HB3.out.size))
      clear hSw
      go_wp2
      go_roundw
      case rel => exact ⟨n + 1, by omega, by omega, by go_num, BO9.out, B9.out⟩
      case measure => simp [intOf]; omega
    · have t1 : ¬ (n : Int) < (b.xs.length : Int) := by omega
      go_wp2
      go_ret
      exact ⟨rfl, hb⟩
set_option maxHeartbeats 16000000 in
theorem bnames_B0 (x y z : List Int) (b : Bk) (w : World) (hlaid : Laid w) (wx : x.length = 16 ∧ AllBytes x) (wy : y.length = 16 ∧ AllBytes y) (wz : z.length = 16 ∧ AllBytes z) (wb : BkAt w b) (q : Bool) (iPB : fewB b.rs = true) (iLXY : lessL x y = false) (iLYX : lessL y x = true) (iLYZ : lessL y z = q) (iMB : bmay b.rs = false) (ie : (x == y) = false) :
    Calls Tryd.prog 10 #[.agg (bvals x), .agg (bvals y), .agg (bvals z), .agg #[.slice b.A b.xs.length b.c]] w fun e w' => e = .returned (.bool true) ∧ Below w.heap.size w w' := by
  have HLA := Lib.hid (fun (X : World) (hX : Below w.heap.size w X) => hlaid.below hX (Nat.le_refl _))
  have Fb := Lib.hid wb
  have ZX := Lib.hid wx
  have ZY := Lib.hid wy
  have ZZ := Lib.hid wz
  have PB := Lib.hid iPB
  have LXY := Lib.hid iLXY
  have LYX := Lib.hid iLYX
  have LYZ := Lib.hid iLYZ
  have MB := Lib.hid iMB
  have he := eq_id wx.2 wy.2 wx.1 wy.1
  rw [ie] at he
  have HE := Lib.hid he
  have HLEN := Lib.hid (fewB_fs iPB).1
  clear wb
  clear hlaid wx wy wz he ie iPB iLXY iLYX iLYZ iMB
  have B1 := Lib.hid (Below.refl w.heap.size w)
  have T2n := IdAt.new w ZX.out.1
  have T2 := Lib.hid T2n
  clear T2n
  have B3 := Lib.hid (B1.out.alloc B1.out.size (.cells (bvals x) 23))
  have T4 := Lib.hid (T2.out.old (.cells (bvals y) 23))
  have T5n := IdAt.new (w.alloc (.cells (bvals x) 23)) ZY.out.1
  simp only [World.size_alloc] at T5n
  have T5 := Lib.hid T5n
  clear T5n
  have B6 := Lib.hid (B3.out.alloc B3.out.size (.cells (bvals y) 23))
  have T7 := Lib.hid (T4.out.old (.cells (bvals z) 23))
  have T8 := Lib.hid (T5.out.old (.cells (bvals z) 23))
  have T9n := IdAt.new ((w.alloc (.cells (bvals x) 23)).alloc (.cells (bvals y) 23)) ZZ.out.1
  simp only [World.size_alloc] at T9n
  have T9 := Lib.hid T9n
  clear T9n
  have B10 := Lib.hid (B6.out.alloc B6.out.size (.cells (bvals z) 23))
  have T11 := Lib.hid (T7.out.old (.cells #[(.slice b.A b.xs.length b.c)] 41))
  have T12 := Lib.hid (T8.out.old (.cells #[(.slice b.A b.xs.length b.c)] 41))
  have T13 := Lib.hid (T9.out.old (.cells #[(.slice b.A b.xs.length b.c)] 41))
  have T14n := BoAt.new (((w.alloc (.cells (bvals x) 23)).alloc (.cells (bvals y) 23)).alloc (.cells (bvals z) 23)) (.slice b.A b.xs.length b.c)
  simp only [World.size_alloc] at T14n
  have T14 := Lib.hid T14n
  clear T14n
  have B15 := Lib.hid (B10.out.alloc B10.out.size (.cells #[(.slice b.A b.xs.length b.c)] 41))
  have F16 := Lib.hid (Fb.out.below B15.out (Nat.le_refl _))
  go_enter Tryd.func10, Tryd.ntmps10
  have C17 := Lib.hid (bkAwake ((((w.alloc (.cells (bvals x) 23)).alloc (.cells (bvals y) 23)).alloc (.cells (bvals z) 23)).alloc (.cells #[(.slice b.A b.xs.length b.c)] 41)) (HLA.out _ B15.out))
  go_wp2_with fail
  refine C17.out.mono ?_
  rintro e w18 ⟨rfl, hb19⟩
  have T20 := Lib.hid (T11.out.below hb19 T11.out.lt)
  have T21 := Lib.hid (T12.out.below hb19 T12.out.lt)
  have T22 := Lib.hid (T13.out.below hb19 T13.out.lt)
  have T23 := Lib.hid (T14.out.below hb19 T14.out.lt)
  have F24 := Lib.hid (F16.out.below hb19 (Nat.le_refl _))
  have B25 := Lib.hid (B15.out.trans (hb19.mono B15.out.size))
  clear hb19
  have M26 := Lib.hid (T23.out.load)
  have C27 := Lib.hid (fewB_any b w18 F24.out)
  rw [PB.out] at C27
  go_wp2_with (first | ((with_reducible refine wpList_load_by (o := ⟨some 16, .load 41 (.tmp 7), _, _, _, _⟩) ?e1 41 (.tmp 7) ?e2 ⟨(w.heap.size + 1 + 1 + 1), 0, none⟩ ?e3 _ M26.out ?_); (case e1 => rfl); (case e2 => rfl); (case e3 => rfl)))
  refine C27.out.mono ?_
  rintro e w28 ⟨rfl, hb29⟩
  have T30 := Lib.hid (T20.out.below hb29 T20.out.lt)
  have T31 := Lib.hid (T21.out.below hb29 T21.out.lt)
  have T32 := Lib.hid (T22.out.below hb29 T22.out.lt)
  have T33 := Lib.hid (T23.out.below hb29 T23.out.lt)
  have F34 := Lib.hid (F24.out.below hb29 (Nat.le_refl _))
  have B35 := Lib.hid (B25.out.trans (hb29.mono B25.out.size))
  clear hb29
  have M36 := Lib.hid (load_arr16 T30.out)
  have M37 := Lib.hid (load_arr16 T31.out)
  have C38 := Lib.hid (bless_any x y w28 ZX.out.2 ZY.out.2 ZX.out.1 ZY.out.1)
  rw [LXY.out] at C38
  go_wp2_with (first | ((with_reducible refine wpList_load_by (o := ⟨some 18, .load 23 (.tmp 4), _, _, _, _⟩) ?e1 23 (.tmp 4) ?e2 ⟨w.heap.size, 0, none⟩ ?e3 _ M36.out ?_); (case e1 => rfl); (case e2 => rfl); (case e3 => rfl)) | ((with_reducible refine wpList_load_by (o := ⟨some 19, .load 23 (.tmp 5), _, _, _, _⟩) ?e1 23 (.tmp 5) ?e2 ⟨(w.heap.size + 1), 0, none⟩ ?e3 _ M37.out ?_); (case e1 => rfl); (case e2 => rfl); (case e3 => rfl)))
  refine C38.out.mono ?_
  rintro e w39 ⟨rfl, hb40⟩
  have T41 := Lib.hid (T30.out.below hb40 T30.out.lt)
  have T42 := Lib.hid (T31.out.below hb40 T31.out.lt)
  have T43 := Lib.hid (T32.out.below hb40 T32.out.lt)
  have T44 := Lib.hid (T33.out.below hb40 T33.out.lt)
  have F45 := Lib.hid (F34.out.below hb40 (Nat.le_refl _))
  have B46 := Lib.hid (B35.out.trans (hb40.mono B35.out.size))
  clear hb40
  have M47 := Lib.hid (load_arr16 T42.out)
  have M48 := Lib.hid (load_arr16 T41.out)
  have C49 := Lib.hid (bless_any y x w39 ZY.out.2 ZX.out.2 ZY.out.1 ZX.out.1)
  rw [LYX.out] at C49
  go_wp2_with (first | ((with_reducible refine wpList_load_by (o := ⟨some 21, .load 23 (.tmp 5), _, _, _, _⟩) ?e1 23 (.tmp 5) ?e2 ⟨(w.heap.size + 1), 0, none⟩ ?e3 _ M47.out ?_); (case e1 => rfl); (case e2 => rfl); (case e3 => rfl)) | ((with_reducible refine wpList_load_by (o := ⟨some 22, .load 23 (.tmp 4), _, _, _, _⟩) ?e1 23 (.tmp 4) ?e2 ⟨w.heap.size, 0, none⟩ ?e3 _ M48.out ?_); (case e1 => rfl); (case e2 => rfl); (case e3 => rfl)))
  refine C49.out.mono ?_
  rintro e w50 ⟨rfl, hb51⟩
  have T52 := Lib.hid (T41.out.below hb51 T41.out.lt)
  have T53 := Lib.hid (T42.out.below hb51 T42.out.lt)
  have T54 := Lib.hid (T43.out.below hb51 T43.out.lt)
  have T55 := Lib.hid (T44.out.below hb51 T44.out.lt)
  have F56 := Lib.hid (F45.out.below hb51 (Nat.le_refl _))
  have B57 := Lib.hid (B46.out.trans (hb51.mono B46.out.size))
  clear hb51
  have M58 := Lib.hid (load_arr16 T53.out)
  have M59 := Lib.hid (load_arr16 T54.out)
  have C60 := Lib.hid (bless_any y z w50 ZY.out.2 ZZ.out.2 ZY.out.1 ZZ.out.1)
  rw [LYZ.out] at C60
  go_wp2_with (first | ((with_reducible refine wpList_load_by (o := ⟨some 24, .load 23 (.tmp 5), _, _, _, _⟩) ?e1 23 (.tmp 5) ?e2 ⟨(w.heap.size + 1), 0, none⟩ ?e3 _ M58.out ?_); (case e1 => rfl); (case e2 => rfl); (case e3 => rfl)) | ((with_reducible refine wpList_load_by (o := ⟨some 25, .load 23 (.tmp 6), _, _, _, _⟩) ?e1 23 (.tmp 6) ?e2 ⟨(w.heap.size + 1 + 1), 0, none⟩ ?e3 _ M59.out ?_); (case e1 => rfl); (case e2 => rfl); (case e3 => rfl)))
  refine C60.out.mono ?_
  rintro e w61 ⟨rfl, hb62⟩
  have T63 := Lib.hid (T52.out.below hb62 T52.out.lt)
  have T64 := Lib.hid (T53.out.below hb62 T53.out.lt)
  have T65 := Lib.hid (T54.out.below hb62 T54.out.lt)
  have T66 := Lib.hid (T55.out.below hb62 T55.out.lt)
  have F67 := Lib.hid (F56.out.below hb62 (Nat.le_refl _))
  have B68 := Lib.hid (B57.out.trans (hb62.mono B57.out.size))
  clear hb62
  have eq := HE.out
  have M69 := Lib.hid (load_arr16 T63.out)
  have M70 := Lib.hid (load_arr16 T64.out)
  go_wp2_with (first | ((with_reducible refine wpList_load_by (o := ⟨some 43, .load 23 (.tmp 4), _, _, _, _⟩) ?e1 23 (.tmp 4) ?e2 ⟨w.heap.size, 0, none⟩ ?e3 _ M69.out ?_); (case e1 => rfl); (case e2 => rfl); (case e3 => rfl)) | ((with_reducible refine wpList_load_by (o := ⟨some 44, .load 23 (.tmp 5), _, _, _, _⟩) ?e1 23 (.tmp 5) ?e2 ⟨(w.heap.size + 1), 0, none⟩ ?e3 _ M70.out ?_); (case e1 => rfl); (case e2 => rfl); (case e3 => rfl)))
  go_loopw [14] (fun i wr => ∃ n : Nat, 1 ≤ n ∧ n ≤ 20 ∧ i = .int .i64 n ∧ BoAt wr (w.heap.size + 1 + 1 + 1) (.slice b.A b.xs.length b.c) ∧ Below w.heap.size w wr) (fun i _ => 20 - (intOf i).toNat)
  case atStart => exact ⟨1, by omega, by omega, rfl, T66.out, B68.out⟩
  case round =>
    obtain ⟨n, hn1, hn2, rfl, hs, hb⟩ := hrel
    have hs0 := hs.c0
    by_cases hlt : n < b.xs.length
    · have t1 : (n : Int) < (b.xs.length : Int) := by omega
      have hn20 : n < 20 := by have := HLEN.out; omega
      have LB := Lib.hid hs.load
      have CM := Lib.hid (bmay_any b wr (Fb.out.below hb (Nat.le_refl _)))
      rw [MB.out] at CM
      have HS := Lib.hid hs
      have HB := Lib.hid hb
      clear hs hb
      go_wp2_with (first | ((with_reducible refine wpList_load_by (o := ⟨some 66, .load 41 (.tmp 7), _, _, _, _⟩) ?e1 41 (.tmp 7) ?e2 ⟨(w.heap.size + 1 + 1 + 1), 0, none⟩ ?e3 _ LB.out ?_); (case e1 => rfl); (case e2 => rfl); (case e3 => rfl)))
      refine CM.out.mono ?_
      rintro e w3 ⟨rfl, hb3⟩
      have B3 := Lib.hid (HS.out.below hb3 HS.out.lt)
      have HB3 := Lib.hid (HB.out.trans (hb3.mono HB.out.size))
      clear hb3
      go_wp2
      go_ret
      exact ⟨rfl, HB3.out⟩
    · have t1 : ¬ (n : Int) < (b.xs.length : Int) := by omega
      go_wp2
      go_ret
      exact ⟨rfl, hb⟩
set_option maxHeartbeats 16000000 in
theorem bnames_B1 (x y z : List Int) (b : Bk) (w : World) (hlaid : Laid w) (wx : x.length = 16 ∧ AllBytes x) (wy : y.length = 16 ∧ AllBytes y) (wz : z.length = 16 ∧ AllBytes z) (wb : BkAt w b) (q : Bool) (iPB : fewB b.rs = true) (iLXY : lessL x y = false) (iLYX : lessL y x = true) (iLYZ : lessL y z = q) (iMB : bmay b.rs = true) (ie : (x == y) = false) :
    Calls Tryd.prog 10 #[.agg (bvals x), .agg (bvals y), .agg (bvals z), .agg #[.slice b.A b.xs.length b.c]] w fun e w' => e = .returned (.bool true) ∧ Below w.heap.size w w' := by
  have HLA := Lib.hid (fun (X : World) (hX : Below w.heap.size w X) => hlaid.below hX (Nat.le_refl _))
  have Fb := Lib.hid wb
  have ZX := Lib.hid wx
  have ZY := Lib.hid wy
  have ZZ := Lib.hid wz
  have PB := Lib.hid iPB
  have LXY := Lib.hid iLXY
  have LYX := Lib.hid iLYX
  have LYZ := Lib.hid iLYZ
  have MB := Lib.hid iMB
  have he := eq_id wx.2 wy.2 wx.1 wy.1
  rw [ie] at he
  have HE := Lib.hid he
  have HLEN := Lib.hid (fewB_fs iPB).1
  have HRV := Lib.hid (fun i (hi : i < b.xs.length) => RsAt.rv wb hi)
  have HR := Lib.hid (fun n (h1 : 1 ≤ n) (h2 : n < b.xs.length) => rise_at (bmay_iff.1 iMB).2.2 n h1 h2)
  obtain ⟨-, -, -, hcell, -⟩ := wb
  have HC := Lib.hid hcell
  clear hcell
  clear hlaid wx wy wz he ie iPB iLXY iLYX iLYZ iMB
  have B1 := Lib.hid (Below.refl w.heap.size w)
  have T2n := IdAt.new w ZX.out.1
  have T2 := Lib.hid T2n
  clear T2n
  have B3 := Lib.hid (B1.out.alloc B1.out.size (.cells (bvals x) 23))
  have T4 := Lib.hid (T2.out.old (.cells (bvals y) 23))
  have T5n := IdAt.new (w.alloc (.cells (bvals x) 23)) ZY.out.1
  simp only [World.size_alloc] at T5n
  have T5 := Lib.hid T5n
  clear T5n
  have B6 := Lib.hid (B3.out.alloc B3.out.size (.cells (bvals y) 23))
  have T7 := Lib.hid (T4.out.old (.cells (bvals z) 23))
  have T8 := Lib.hid (T5.out.old (.cells (bvals z) 23))
  have T9n := IdAt.new ((w.alloc (.cells (bvals x) 23)).alloc (.cells (bvals y) 23)) ZZ.out.1
  simp only [World.size_alloc] at T9n
  have T9 := Lib.hid T9n
  clear T9n
  have B10 := Lib.hid (B6.out.alloc B6.out.size (.cells (bvals z) 23))
  have T11 := Lib.hid (T7.out.old (.cells #[(.slice b.A b.xs.length b.c)] 41))
  have T12 := Lib.hid (T8.out.old (.cells #[(.slice b.A b.xs.length b.c)] 41))
  have T13 := Lib.hid (T9.out.old (.cells #[(.slice b.A b.xs.length b.c)] 41))
  have T14n := BoAt.new (((w.alloc (.cells (bvals x) 23)).alloc (.cells (bvals y) 23)).alloc (.cells (bvals z) 23)) (.slice b.A b.xs.length b.c)
  simp only [World.size_alloc] at T14n
  have T14 := Lib.hid T14n
  clear T14n
  have B15 := Lib.hid (B10.out.alloc B10.out.size (.cells #[(.slice b.A b.xs.length b.c)] 41))
  have F16 := Lib.hid (Fb.out.below B15.out (Nat.le_refl _))
  go_enter Tryd.func10, Tryd.ntmps10
  have C17 := Lib.hid (bkAwake ((((w.alloc (.cells (bvals x) 23)).alloc (.cells (bvals y) 23)).alloc (.cells (bvals z) 23)).alloc (.cells #[(.slice b.A b.xs.length b.c)] 41)) (HLA.out _ B15.out))
  go_wp2_with fail
  refine C17.out.mono ?_
  rintro e w18 ⟨rfl, hb19⟩
  have T20 := Lib.hid (T11.out.below hb19 T11.out.lt)
  have T21 := Lib.hid (T12.out.below hb19 T12.out.lt)
  have T22 := Lib.hid (T13.out.below hb19 T13.out.lt)
  have T23 := Lib.hid (T14.out.below hb19 T14.out.lt)
  have F24 := Lib.hid (F16.out.below hb19 (Nat.le_refl _))
  have B25 := Lib.hid (B15.out.trans (hb19.mono B15.out.size))
  clear hb19
  have M26 := Lib.hid (T23.out.load)
  have C27 := Lib.hid (fewB_any b w18 F24.out)
  rw [PB.out] at C27
  go_wp2_with (first | ((with_reducible refine wpList_load_by (o := ⟨some 16, .load 41 (.tmp 7), _, _, _, _⟩) ?e1 41 (.tmp 7) ?e2 ⟨(w.heap.size + 1 + 1 + 1), 0, none⟩ ?e3 _ M26.out ?_); (case e1 => rfl); (case e2 => rfl); (case e3 => rfl)))
  refine C27.out.mono ?_
  rintro e w28 ⟨rfl, hb29⟩
  have T30 := Lib.hid (T20.out.below hb29 T20.out.lt)
  have T31 := Lib.hid (T21.out.below hb29 T21.out.lt)
  have T32 := Lib.hid (T22.out.below hb29 T22.out.lt)
  have T33 := Lib.hid (T23.out.below hb29 T23.out.lt)
  have F34 := Lib.hid (F24.out.below hb29 (Nat.le_refl _))
  have B35 := Lib.hid (B25.out.trans (hb29.mono B25.out.size))
  clear hb29
  have M36 := Lib.hid (load_arr16 T30.out)
  have M37 := Lib.hid (load_arr16 T31.out)
  have C38 := Lib.hid (bless_any x y w28 ZX.out.2 ZY.out.2 ZX.out.1 ZY.out.1)
  rw [LXY.out] at C38
  go_wp2_with (first | ((with_reducible refine wpList_load_by (o := ⟨some 18, .load 23 (.tmp 4), _, _, _, _⟩) ?e1 23 (.tmp 4) ?e2 ⟨w.heap.size, 0, none⟩ ?e3 _ M36.out ?_); (case e1 => rfl); (case e2 => rfl); (case e3 => rfl)) | ((with_reducible refine wpList_load_by (o := ⟨some 19, .load 23 (.tmp 5), _, _, _, _⟩) ?e1 23 (.tmp 5) ?e2 ⟨(w.heap.size + 1), 0, none⟩ ?e3 _ M37.out ?_); (case e1 => rfl); (case e2 => rfl); (case e3 => rfl)))
  refine C38.out.mono ?_
  rintro e w39 ⟨rfl, hb40⟩
  have T41 := Lib.hid (T30.out.below hb40 T30.out.lt)
  have T42 := Lib.hid (T31.out.below hb40 T31.out.lt)
  have T43 := Lib.hid (T32.out.below hb40 T32.out.lt)
  have T44 := Lib.hid (T33.out.below hb40 T33.out.lt)
  have F45 := Lib.hid (F34.out.below hb40 (Nat.le_refl _))
  have B46 := Lib.hid (B35.out.trans (hb40.mono B35.out.size))
  clear hb40
  have M47 := Lib.hid (load_arr16 T42.out)
  have M48 := Lib.hid (load_arr16 T41.out)
  have C49 := Lib.hid (bless_any y x w39 ZY.out.2 ZX.out.2 ZY.out.1 ZX.out.1)
  rw [LYX.out] at C49
  go_wp2_with (first | ((with_reducible refine wpList_load_by (o := ⟨some 21, .load 23 (.tmp 5), _, _, _, _⟩) ?e1 23 (.tmp 5) ?e2 ⟨(w.heap.size + 1), 0, none⟩ ?e3 _ M47.out ?_); (case e1 => rfl); (case e2 => rfl); (case e3 => rfl)) | ((with_reducible refine wpList_load_by (o := ⟨some 22, .load 23 (.tmp 4), _, _, _, _⟩) ?e1 23 (.tmp 4) ?e2 ⟨w.heap.size, 0, none⟩ ?e3 _ M48.out ?_); (case e1 => rfl); (case e2 => rfl); (case e3 => rfl)))
  refine C49.out.mono ?_
  rintro e w50 ⟨rfl, hb51⟩
  have T52 := Lib.hid (T41.out.below hb51 T41.out.lt)
  have T53 := Lib.hid (T42.out.below hb51 T42.out.lt)
  have T54 := Lib.hid (T43.out.below hb51 T43.out.lt)
  have T55 := Lib.hid (T44.out.below hb51 T44.out.lt)
  have F56 := Lib.hid (F45.out.below hb51 (Nat.le_refl _))
  have B57 := Lib.hid (B46.out.trans (hb51.mono B46.out.size))
  clear hb51
  have M58 := Lib.hid (load_arr16 T53.out)
  have M59 := Lib.hid (load_arr16 T54.out)
  have C60 := Lib.hid (bless_any y z w50 ZY.out.2 ZZ.out.2 ZY.out.1 ZZ.out.1)
  rw [LYZ.out] at C60
  go_wp2_with (first | ((with_reducible refine wpList_load_by (o := ⟨some 24, .load 23 (.tmp 5), _, _, _, _⟩) ?e1 23 (.tmp 5) ?e2 ⟨(w.heap.size + 1), 0, none⟩ ?e3 _ M58.out ?_); (case e1 => rfl); (case e2 => rfl); (case e3 => rfl)) | ((with_reducible refine wpList_load_by (o := ⟨some 25, .load 23 (.tmp 6), _, _, _, _⟩) ?e1 23 (.tmp 6) ?e2 ⟨(w.heap.size + 1 + 1), 0, none⟩ ?e3 _ M59.out ?_); (case e1 => rfl); (case e2 => rfl); (case e3 => rfl)))
  refine C60.out.mono ?_
  rintro e w61 ⟨rfl, hb62⟩
  have T63 := Lib.hid (T52.out.below hb62 T52.out.lt)
  have T64 := Lib.hid (T53.out.below hb62 T53.out.lt)
  have T65 := Lib.hid (T54.out.below hb62 T54.out.lt)
  have T66 := Lib.hid (T55.out.below hb62 T55.out.lt)
  have F67 := Lib.hid (F56.out.below hb62 (Nat.le_refl _))
  have B68 := Lib.hid (B57.out.trans (hb62.mono B57.out.size))
  clear hb62
  have eq := HE.out
  have M69 := Lib.hid (load_arr16 T63.out)
  have M70 := Lib.hid (load_arr16 T64.out)
  go_wp2_with (first | ((with_reducible refine wpList_load_by (o := ⟨some 43, .load 23 (.tmp 4), _, _, _, _⟩) ?e1 23 (.tmp 4) ?e2 ⟨w.heap.size, 0, none⟩ ?e3 _ M69.out ?_); (case e1 => rfl); (case e2 => rfl); (case e3 => rfl)) | ((with_reducible refine wpList_load_by (o := ⟨some 44, .load 23 (.tmp 5), _, _, _, _⟩) ?e1 23 (.tmp 5) ?e2 ⟨(w.heap.size + 1), 0, none⟩ ?e3 _ M70.out ?_); (case e1 => rfl); (case e2 => rfl); (case e3 => rfl)))
  go_loopw [14] (fun i wr => ∃ n : Nat, 1 ≤ n ∧ n ≤ 20 ∧ i = .int .i64 n ∧ BoAt wr (w.heap.size + 1 + 1 + 1) (.slice b.A b.xs.length b.c) ∧ Below w.heap.size w wr) (fun i _ => 20 - (intOf i).toNat)
  case atStart => exact ⟨1, by omega, by omega, rfl, T66.out, B68.out⟩
  case round =>
    obtain ⟨n, hn1, hn2, rfl, hs, hb⟩ := hrel
    have hs0 := hs.c0
    by_cases hlt : n < b.xs.length
    · have t1 : (n : Int) < (b.xs.length : Int) := by omega
      have hn20 : n < 20 := by have := HLEN.out; omega
      have LB := Lib.hid hs.load
      have CM := Lib.hid (bmay_any b wr (Fb.out.below hb (Nat.le_refl _)))
      rw [MB.out] at CM
      have HS := Lib.hid hs
      have HB := Lib.hid hb
      clear hs hb
      go_wp2_with (first | ((with_reducible refine wpList_load_by (o := ⟨some 66, .load 41 (.tmp 7), _, _, _, _⟩) ?e1 41 (.tmp 7) ?e2 ⟨(w.heap.size + 1 + 1 + 1), 0, none⟩ ?e3 _ LB.out ?_); (case e1 => rfl); (case e2 => rfl); (case e3 => rfl)))
      refine CM.out.mono ?_
      rintro e w3 ⟨rfl, hb3⟩
      have B3 := Lib.hid (HS.out.below hb3 HS.out.lt)
      have HB3 := Lib.hid (HB.out.trans (hb3.mono HB.out.size))
      obtain ⟨b0, off, hA, hb0, hcc⟩ := HC.out (by omega)
      have X3 := Lib.hid ((hcc n hlt).same (HB3.out.block b0 hb0))
      have Y3 := Lib.hid ((hcc (n - 1) (by omega)).same (HB3.out.block b0 hb0))
      have RL := HR.out n hn1 hlt
      have HXV := HRV.out n hlt
      have HYV := HRV.out (n - 1) (by omega)
      have HL := Lib.hid (fun (w9 : World) (hS : Below w3.heap.size w3 w9) => bless_any (b.xs.getD (n - 1) rcA0).R.z (b.xs.getD n rcA0).R.z w9 HYV.1.2 HXV.1.2 HYV.len HXV.len)
      rw [RL] at HL
      have IXX := Lib.hid (fun w9 => ix_rec b0 off b.xs.length b.c n hlt n rfl w9)
      have IXY := Lib.hid (fun w9 => ix_rec b0 off b.xs.length b.c (n - 1) (by omega) ((n : Int) - 1) (by omega) w9)
      rw [← hA] at IXX IXY
      have hb03 := Nat.lt_of_lt_of_le hb0 HB3.out.size
      clear hb3 hcc hA RL HXV HYV
      generalize b.xs.getD n rcA0 = u at *
      generalize b.xs.getD (n - 1) rcA0 = v at *
      generalize off + n * 19 = ox at *
      generalize off + (n - 1) * 19 = oy at *
      go_wp2_with fail
      refine wp_region_G w3 (by kernel_rfl) ?_
      refine wpG_take (i := 0) (oi := ⟨some 71, _, _, _, _, _⟩) (v := ?_) rfl (by kernel_rfl) (by kernel_rfl) (by kernel_rfl) (Or.inl ⟨by rfl, unib_val ?_⟩) ?_; rotate_left; (focus (intro w9 hSw; go_simp; try with_reducible rfl)); simp only [Act.put, List.setIfInBounds_toArray, List.set_cons_zero, List.set_cons_succ]
      refine wpG_take (i := 1) (oi := ⟨some 72, _, _, _, _, _⟩) (v := ?_) rfl (by kernel_rfl) (by kernel_rfl) (by kernel_rfl) (Or.inl ⟨by rfl, unib_val ?_⟩) ?_; rotate_left; (focus (intro w9 hSw; have q0 := (B3.out.below hSw B3.out.lt).c0; go_simp; try with_reducible rfl)); simp only [Act.put, List.setIfInBounds_toArray, List.set_cons_zero, List.set_cons_succ]
      refine wpG_take (i := 2) (oi := ⟨some 73, _, _, _, _, _⟩) (v := ?_) rfl (by kernel_rfl) (by kernel_rfl) (by kernel_rfl) (Or.inl ⟨by rfl, unib_val ?_⟩) ?_; rotate_left; (focus (intro w9 hSw; go_simp; try with_reducible rfl)); simp only [Act.put, List.setIfInBounds_toArray, List.set_cons_zero, List.set_cons_succ]
      refine wpG_take (i := 3) (oi := ⟨some 74, _, _, _, _, _⟩) (v := ?_) rfl (by kernel_rfl) (by kernel_rfl) (by kernel_rfl) (Or.inl ⟨by rfl, unib_val ?_⟩) ?_; rotate_left; (focus (intro w9 hSw; have x1 : IntKind.i64.wrap ((n : Int) - 1) = (n : Int) - 1 := IntWalk.i64_in _ (by omega); go_simp; try with_reducible rfl)); simp only [Act.put, List.setIfInBounds_toArray, List.set_cons_zero, List.set_cons_succ]
      refine wpG_take (i := 4) (oi := ⟨some 75, _, _, _, _, _⟩) (v := ?_) rfl (by kernel_rfl) (by kernel_rfl) (by kernel_rfl) (Or.inl ⟨by rfl, unib_val ?_⟩) ?_; rotate_left; (focus (intro w9 hSw; have q0 := IXY.out w9; go_simp; try with_reducible rfl)); simp only [Act.put, List.setIfInBounds_toArray, List.set_cons_zero, List.set_cons_succ]
      refine wpG_take (i := 5) (oi := ⟨some 76, _, _, _, _, _⟩) (v := ?_) rfl (by kernel_rfl) (by kernel_rfl) (by kernel_rfl) (Or.inl ⟨by rfl, unib_val ?_⟩) ?_; rotate_left; (focus (intro w9 hSw; go_simp; try with_reducible rfl)); simp only [Act.put, List.setIfInBounds_toArray, List.set_cons_zero, List.set_cons_succ]
      refine wpG_take (i := 6) (oi := ⟨some 77, _, _, _, _, _⟩) (v := (.agg (bvals v.R.z))) rfl (by kernel_rfl) (by kernel_rfl) (by kernel_rfl) (Or.inl ⟨by rfl, unib_val ?_⟩) ?_; (focus (intro w9 hSw; exact exec_load_by 23 _ rfl ⟨b0, oy, none⟩ rfl (Y3.out.same (hSw.block b0 hb03)).load_id)); simp only [Act.put, List.setIfInBounds_toArray, List.set_cons_zero, List.set_cons_succ]
      refine wpG_take (i := 7) (oi := ⟨some 78, _, _, _, _, _⟩) (v := ?_) rfl (by kernel_rfl) (by kernel_rfl) (by kernel_rfl) (Or.inl ⟨by rfl, unib_val ?_⟩) ?_; rotate_left; (focus (intro w9 hSw; go_simp; try with_reducible rfl)); simp only [Act.put, List.setIfInBounds_toArray, List.set_cons_zero, List.set_cons_succ]
      refine wpG_take (i := 8) (oi := ⟨some 79, _, _, _, _, _⟩) (v := ?_) rfl (by kernel_rfl) (by kernel_rfl) (by kernel_rfl) (Or.inl ⟨by rfl, unib_val ?_⟩) ?_; rotate_left; (focus (intro w9 hSw; have q0 := (B3.out.below hSw B3.out.lt).c0; go_simp; try with_reducible rfl)); simp only [Act.put, List.setIfInBounds_toArray, List.set_cons_zero, List.set_cons_succ]
      refine wpG_take (i := 9) (oi := ⟨some 80, _, _, _, _, _⟩) (v := ?_) rfl (by kernel_rfl) (by kernel_rfl) (by kernel_rfl) (Or.inl ⟨by rfl, unib_val ?_⟩) ?_; rotate_left; (focus (intro w9 hSw; go_simp; try with_reducible rfl)); simp only [Act.put, List.setIfInBounds_toArray, List.set_cons_zero, List.set_cons_succ]
      refine wpG_take (i := 10) (oi := ⟨some 81, _, _, _, _, _⟩) (v := ?_) rfl (by kernel_rfl) (by kernel_rfl) (by kernel_rfl) (Or.inl ⟨by rfl, unib_val ?_⟩) ?_; rotate_left; (focus (intro w9 hSw; have q0 := IXX.out w9; go_simp; try with_reducible rfl)); simp only [Act.put, List.setIfInBounds_toArray, List.set_cons_zero, List.set_cons_succ]
      refine wpG_take (i := 11) (oi := ⟨some 82, _, _, _, _, _⟩) (v := ?_) rfl (by kernel_rfl) (by kernel_rfl) (by kernel_rfl) (Or.inl ⟨by rfl, unib_val ?_⟩) ?_; rotate_left; (focus (intro w9 hSw; go_simp; try with_reducible rfl)); simp only [Act.put, List.setIfInBounds_toArray, List.set_cons_zero, List.set_cons_succ]
      refine wpG_take (i := 12) (oi := ⟨some 83, _, _, _, _, _⟩) (v := (.agg (bvals u.R.z))) rfl (by kernel_rfl) (by kernel_rfl) (by kernel_rfl) (Or.inl ⟨by rfl, unib_val ?_⟩) ?_; (focus (intro w9 hSw; exact exec_load_by 23 _ rfl ⟨b0, ox, none⟩ rfl (X3.out.same (hSw.block b0 hb03)).load_id)); simp only [Act.put, List.setIfInBounds_toArray, List.set_cons_zero, List.set_cons_succ]
      refine wpG_take (i := 13) (oi := ⟨some 84, _, _, _, _, _⟩) rfl (by kernel_rfl) (by kernel_rfl) (by kernel_rfl) (Or.inl ⟨by rfl, unib_call_if ?_ HL.out⟩) ?_; (focus (intro w9 hSw; go_simp; try with_reducible rfl)); simp only [Act.put, List.setIfInBounds_toArray, List.set_cons_zero, List.set_cons_succ]
      refine wpG_take (i := 14) (oi := ⟨some 85, _, _, _, _, _⟩) (v := ?_) rfl (by kernel_rfl) (by kernel_rfl) (by kernel_rfl) (Or.inl ⟨by rfl, unib_val ?_⟩) ?_; rotate_left; (focus (intro w9 hSw; go_simp; try with_reducible rfl)); simp only [Act.put, List.setIfInBounds_toArray, List.set_cons_zero, List.set_cons_succ]
      refine wpG_done (by kernel_rfl) ?_ _
      intro w9 hSw _
      have BO9 := Lib.hid (B3.out.below hSw B3.out.lt)
      have B9 := Lib.hid (HB3.out.trans (hSw.mono HB3.out.size))
      clear hSw
      go_wp2
      go_roundw
      case rel => exact ⟨n + 1, by omega, by omega, by go_num, BO9.out, B9.out⟩
      case measure => simp [intOf]; omega
    · have t1 : ¬ (n : Int) < (b.xs.length : Int) := by omega
      go_wp2
      go_ret
      exact ⟨rfl, hb⟩
theorem walk_bookNames (x y z : List Int) (b : Bk) (w : World) (hlaid : Laid w) (wx : x.length = 16 ∧ AllBytes x) (wy : y.length = 16 ∧ AllBytes y) (wz : z.length = 16 ∧ AllBytes z) (wb : BkAt w b) :
    Calls Tryd.prog 10 #[.agg (bvals x), .agg (bvals y), .agg (bvals z), .agg #[.slice b.A b.xs.length b.c]] w fun e w' => e = .returned (.bool true) ∧ Below w.heap.size w w' := by
  cases p : fewB b.rs
  · exact bnames_few x y z b w hlaid wx wy wz wb p
  · rcases il_tri x y with h | h | h
    · have h' := il_asym h
      have he : (x == y) = false := by simpa using il_ne h
      cases h2 : lessL y z
      · cases m : bmay b.rs
        · exact bnames_A00 x y z b w hlaid wx wy wz wb p h h' h2 m he
        · exact bnames_A01 x y z b w hlaid wx wy wz wb p h h' h2 m he
      · cases m : bmay b.rs
        · exact bnames_A10 x y z b w hlaid wx wy wz wb p h h' h2 m (il_trans h h2) he
        · exact bnames_A11 x y z b w hlaid wx wy wz wb p h h' h2 m (il_trans h h2) he
    · subst h
      cases m : bmay b.rs
      · exact bnames_E0 x x z b w hlaid wx wy wz wb _ p (il_irr x) (il_irr x) rfl m (by simp)
      · exact bnames_E1 x x z b w hlaid wx wy wz wb _ p (il_irr x) (il_irr x) rfl m (by simp)
    · have h' := il_asym h
      have he : (x == y) = false := by simpa using (il_ne h).symm
      cases m : bmay b.rs
      · exact bnames_B0 x y z b w hlaid wx wy wz wb _ p h' h rfl m he
      · exact bnames_B1 x y z b w hlaid wx wy wz wb _ p h' h rfl m he
end Go.Proofs.YtepapdnchpolmaaDoor

