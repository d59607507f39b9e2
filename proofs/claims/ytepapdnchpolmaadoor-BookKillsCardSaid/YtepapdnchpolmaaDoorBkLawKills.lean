import Derived.Test.YtepapdnchpolmaaDoorBkAwake
import Derived.Test.YtepapdnchpolmaaDoorGArgs
import Derived.Test.YtepapdnchpolmaaDoorBkFew
import Derived.Test.YtepapdnchpolmaaDoorBkKillMath
/-
  The law BookKills: for every book, name, writer and number it answers true, and nothing that was there is written.
-/
namespace Go.Proofs.YtepapdnchpolmaaDoor
open Go.RowKit WM
set_option linter.unusedVariables false
set_option maxRecDepth 100000
theorem bmay_fs {d : Bk} {X : List Rc} (h : d.rs = X) (hm : bmay X = true) : ∀ x ∈ d.xs, x.R.fs.length ≤ 1000 := by
  subst h
  intro x hx
  have := rmay_len ((bmay_iff.1 hm).2.1 x.R (List.mem_map_of_mem hx))
  omega
theorem bmay_nil : bmay [] = true := rfl
set_option maxHeartbeats 16000000 in
theorem bkills_few (b : Bk) (z : List Int) (q no : Int) (w : World) (hlaid : Laid w) (wb : BkAt w b) (wz : z.length = 16 ∧ AllBytes z) (iPB : fewB b.rs = false) :
    Calls Tryd.prog 8 #[.agg #[.slice b.A b.xs.length b.c], .agg (bvals z), .int .i64 q, .int .i64 no] w fun e w' => e = .returned (.bool true) ∧ Below w.heap.size w w' := by
  have HLA := Lib.hid (fun (X : World) (hX : Below w.heap.size w X) => hlaid.below hX (Nat.le_refl _))
  have Fb := Lib.hid wb
  have ZI := Lib.hid wz
  have hz := zeroX
  clear hlaid wb wz
  have PB := Lib.hid iPB
  clear iPB
  have B1 := Lib.hid (Below.refl w.heap.size w)
  have T2n := BoAt.new w (.slice b.A b.xs.length b.c)
  have T2 := Lib.hid T2n
  clear T2n
  have B3 := Lib.hid (B1.out.alloc B1.out.size (.cells #[(.slice b.A b.xs.length b.c)] 41))
  have T4 := Lib.hid (T2.out.old (.cells (bvals z) 23))
  have T5n := IdAt.new (w.alloc (.cells #[(.slice b.A b.xs.length b.c)] 41)) ZI.out.1
  simp only [World.size_alloc] at T5n
  have T5 := Lib.hid T5n
  clear T5n
  have B6 := Lib.hid (B3.out.alloc B3.out.size (.cells (bvals z) 23))
  have F7 := Lib.hid (Fb.out.below B6.out (Nat.le_refl _))
  go_enter Tryd.func8, Tryd.ntmps8
  have C8 := Lib.hid (bkAwake ((w.alloc (.cells #[(.slice b.A b.xs.length b.c)] 41)).alloc (.cells (bvals z) 23)) (HLA.out _ B6.out))
  go_wp2_with fail
  refine C8.out.mono ?_
  rintro e w9 ⟨rfl, hb10⟩
  have T11 := Lib.hid (T4.out.below hb10 T4.out.lt)
  have T12 := Lib.hid (T5.out.below hb10 T5.out.lt)
  have F13 := Lib.hid (F7.out.below hb10 (Nat.le_refl _))
  have B14 := Lib.hid (B6.out.trans (hb10.mono B6.out.size))
  clear hb10
  have M15 := Lib.hid (T11.out.load)
  have C16 := Lib.hid (fewB_any b w9 F13.out)
  rw [PB.out] at C16
  go_wp2_with (first | ((with_reducible refine wpList_load_by (o := ⟨some 24, .load 41 (.tmp 4), _, _, _, _⟩) ?e1 41 (.tmp 4) ?e2 ⟨w.heap.size, 0, none⟩ ?e3 _ M15.out ?_); (case e1 => rfl); (case e2 => rfl); (case e3 => rfl)))
  refine C16.out.mono ?_
  rintro e w17 ⟨rfl, hb18⟩
  have T19 := Lib.hid (T11.out.below hb18 T11.out.lt)
  have T20 := Lib.hid (T12.out.below hb18 T12.out.lt)
  have F21 := Lib.hid (F13.out.below hb18 (Nat.le_refl _))
  have B22 := Lib.hid (B14.out.trans (hb18.mono B14.out.size))
  clear hb18
  go_wp2
  go_ret
  exact ⟨rfl, B22.out⟩
set_option maxHeartbeats 16000000 in
theorem bkills_may (b : Bk) (z : List Int) (q no : Int) (w : World) (hlaid : Laid w) (wb : BkAt w b) (wz : z.length = 16 ∧ AllBytes z) (iPB : fewB b.rs = true) (iMB : bmay b.rs = false) :
    Calls Tryd.prog 8 #[.agg #[.slice b.A b.xs.length b.c], .agg (bvals z), .int .i64 q, .int .i64 no] w fun e w' => e = .returned (.bool true) ∧ Below w.heap.size w w' := by
  have HLA := Lib.hid (fun (X : World) (hX : Below w.heap.size w X) => hlaid.below hX (Nat.le_refl _))
  have Fb := Lib.hid wb
  have ZI := Lib.hid wz
  have hz := zeroX
  clear hlaid wb wz
  have PB := Lib.hid iPB
  have MB := Lib.hid iMB
  clear iPB iMB
  have B1 := Lib.hid (Below.refl w.heap.size w)
  have T2n := BoAt.new w (.slice b.A b.xs.length b.c)
  have T2 := Lib.hid T2n
  clear T2n
  have B3 := Lib.hid (B1.out.alloc B1.out.size (.cells #[(.slice b.A b.xs.length b.c)] 41))
  have T4 := Lib.hid (T2.out.old (.cells (bvals z) 23))
  have T5n := IdAt.new (w.alloc (.cells #[(.slice b.A b.xs.length b.c)] 41)) ZI.out.1
  simp only [World.size_alloc] at T5n
  have T5 := Lib.hid T5n
  clear T5n
  have B6 := Lib.hid (B3.out.alloc B3.out.size (.cells (bvals z) 23))
  have F7 := Lib.hid (Fb.out.below B6.out (Nat.le_refl _))
  go_enter Tryd.func8, Tryd.ntmps8
  have C8 := Lib.hid (bkAwake ((w.alloc (.cells #[(.slice b.A b.xs.length b.c)] 41)).alloc (.cells (bvals z) 23)) (HLA.out _ B6.out))
  go_wp2_with fail
  refine C8.out.mono ?_
  rintro e w9 ⟨rfl, hb10⟩
  have T11 := Lib.hid (T4.out.below hb10 T4.out.lt)
  have T12 := Lib.hid (T5.out.below hb10 T5.out.lt)
  have F13 := Lib.hid (F7.out.below hb10 (Nat.le_refl _))
  have B14 := Lib.hid (B6.out.trans (hb10.mono B6.out.size))
  clear hb10
  have M15 := Lib.hid (T11.out.load)
  have C16 := Lib.hid (fewB_any b w9 F13.out)
  rw [PB.out] at C16
  go_wp2_with (first | ((with_reducible refine wpList_load_by (o := ⟨some 24, .load 41 (.tmp 4), _, _, _, _⟩) ?e1 41 (.tmp 4) ?e2 ⟨w.heap.size, 0, none⟩ ?e3 _ M15.out ?_); (case e1 => rfl); (case e2 => rfl); (case e3 => rfl)))
  refine C16.out.mono ?_
  rintro e w17 ⟨rfl, hb18⟩
  have T19 := Lib.hid (T11.out.below hb18 T11.out.lt)
  have T20 := Lib.hid (T12.out.below hb18 T12.out.lt)
  have F21 := Lib.hid (F13.out.below hb18 (Nat.le_refl _))
  have B22 := Lib.hid (B14.out.trans (hb18.mono B14.out.size))
  clear hb18
  have M23 := Lib.hid (T19.out.load)
  have C24 := Lib.hid (bmay_any b w17 F21.out)
  rw [MB.out] at C24
  go_wp2_with (first | ((with_reducible refine wpList_load_by (o := ⟨some 33, .load 41 (.tmp 4), _, _, _, _⟩) ?e1 41 (.tmp 4) ?e2 ⟨w.heap.size, 0, none⟩ ?e3 _ M23.out ?_); (case e1 => rfl); (case e2 => rfl); (case e3 => rfl)))
  refine C24.out.mono ?_
  rintro e w25 ⟨rfl, hb26⟩
  have T27 := Lib.hid (T19.out.below hb26 T19.out.lt)
  have T28 := Lib.hid (T20.out.below hb26 T20.out.lt)
  have F29 := Lib.hid (F21.out.below hb26 (Nat.le_refl _))
  have B30 := Lib.hid (B22.out.trans (hb26.mono B22.out.size))
  clear hb26
  go_wp2
  go_ret
  exact ⟨rfl, B30.out⟩
set_option maxHeartbeats 16000000 in
theorem bkills_e1 (b : Bk) (z : List Int) (q no : Int) (w : World) (hlaid : Laid w) (wb : BkAt w b) (wz : z.length = 16 ∧ AllBytes z) (iPB : fewB b.rs = true) (iMB : bmay b.rs = true) (iJK : bkill b.rs z q = (1, [])) :
    Calls Tryd.prog 8 #[.agg #[.slice b.A b.xs.length b.c], .agg (bvals z), .int .i64 q, .int .i64 no] w fun e w' => e = .returned (.bool true) ∧ Below w.heap.size w w' := by
  have HLA := Lib.hid (fun (X : World) (hX : Below w.heap.size w X) => hlaid.below hX (Nat.le_refl _))
  have Fb := Lib.hid wb
  have ZI := Lib.hid wz
  have hz := zeroX
  clear hlaid wb wz
  have PB := Lib.hid iPB
  have MB := Lib.hid iMB
  have JK := Lib.hid iJK
  have ZB := Lib.hid (fewB_fs iPB).2
  clear iPB iMB iJK
  have B1 := Lib.hid (Below.refl w.heap.size w)
  have T2n := BoAt.new w (.slice b.A b.xs.length b.c)
  have T2 := Lib.hid T2n
  clear T2n
  have B3 := Lib.hid (B1.out.alloc B1.out.size (.cells #[(.slice b.A b.xs.length b.c)] 41))
  have T4 := Lib.hid (T2.out.old (.cells (bvals z) 23))
  have T5n := IdAt.new (w.alloc (.cells #[(.slice b.A b.xs.length b.c)] 41)) ZI.out.1
  simp only [World.size_alloc] at T5n
  have T5 := Lib.hid T5n
  clear T5n
  have B6 := Lib.hid (B3.out.alloc B3.out.size (.cells (bvals z) 23))
  have F7 := Lib.hid (Fb.out.below B6.out (Nat.le_refl _))
  go_enter Tryd.func8, Tryd.ntmps8
  have C8 := Lib.hid (bkAwake ((w.alloc (.cells #[(.slice b.A b.xs.length b.c)] 41)).alloc (.cells (bvals z) 23)) (HLA.out _ B6.out))
  go_wp2_with fail
  refine C8.out.mono ?_
  rintro e w9 ⟨rfl, hb10⟩
  have T11 := Lib.hid (T4.out.below hb10 T4.out.lt)
  have T12 := Lib.hid (T5.out.below hb10 T5.out.lt)
  have F13 := Lib.hid (F7.out.below hb10 (Nat.le_refl _))
  have B14 := Lib.hid (B6.out.trans (hb10.mono B6.out.size))
  clear hb10
  have M15 := Lib.hid (T11.out.load)
  have C16 := Lib.hid (fewB_any b w9 F13.out)
  rw [PB.out] at C16
  go_wp2_with (first | ((with_reducible refine wpList_load_by (o := ⟨some 24, .load 41 (.tmp 4), _, _, _, _⟩) ?e1 41 (.tmp 4) ?e2 ⟨w.heap.size, 0, none⟩ ?e3 _ M15.out ?_); (case e1 => rfl); (case e2 => rfl); (case e3 => rfl)))
  refine C16.out.mono ?_
  rintro e w17 ⟨rfl, hb18⟩
  have T19 := Lib.hid (T11.out.below hb18 T11.out.lt)
  have T20 := Lib.hid (T12.out.below hb18 T12.out.lt)
  have F21 := Lib.hid (F13.out.below hb18 (Nat.le_refl _))
  have B22 := Lib.hid (B14.out.trans (hb18.mono B14.out.size))
  clear hb18
  have M23 := Lib.hid (T19.out.load)
  have C24 := Lib.hid (bmay_any b w17 F21.out)
  rw [MB.out] at C24
  go_wp2_with (first | ((with_reducible refine wpList_load_by (o := ⟨some 33, .load 41 (.tmp 4), _, _, _, _⟩) ?e1 41 (.tmp 4) ?e2 ⟨w.heap.size, 0, none⟩ ?e3 _ M23.out ?_); (case e1 => rfl); (case e2 => rfl); (case e3 => rfl)))
  refine C24.out.mono ?_
  rintro e w25 ⟨rfl, hb26⟩
  have T27 := Lib.hid (T19.out.below hb26 T19.out.lt)
  have T28 := Lib.hid (T20.out.below hb26 T20.out.lt)
  have F29 := Lib.hid (F21.out.below hb26 (Nat.le_refl _))
  have B30 := Lib.hid (B22.out.trans (hb26.mono B22.out.size))
  clear hb26
  have M36 := Lib.hid (T27.out.load)
  have M37 := Lib.hid (load_arr16 T28.out)
  have C38 := Lib.hid (bkill_any b z q w25 (HLA.out _ B30.out) F29.out ZI.out.1 ZI.out.2)
  unfold BJoinPost at C38
  rw [JK.out] at C38
  dsimp only at C38
  go_wp2_with (first | ((with_reducible refine wpList_load_by (o := ⟨some 39, .load 41 (.tmp 4), _, _, _, _⟩) ?e1 41 (.tmp 4) ?e2 ⟨w.heap.size, 0, none⟩ ?e3 _ M36.out ?_); (case e1 => rfl); (case e2 => rfl); (case e3 => rfl)) | ((with_reducible refine wpList_load_by (o := ⟨some 40, .load 23 (.tmp 5), _, _, _, _⟩) ?e1 23 (.tmp 5) ?e2 ⟨(w.heap.size + 1), 0, none⟩ ?e3 _ M37.out ?_); (case e1 => rfl); (case e2 => rfl); (case e3 => rfl)))
  refine C38.out.mono ?_
  rintro e w39 ⟨d31, he32, hd33, hk34, hb40⟩
  have hl35 : d31.xs.length = 0 := by have h9 := congrArg List.length hd33; simpa [Bk.rs] using h9
  rw [hl35] at he32
  subst he32
  have T41 := Lib.hid (T27.out.below hb40 T27.out.lt)
  have T42 := Lib.hid (T28.out.below hb40 T28.out.lt)
  have F43 := Lib.hid (F29.out.below hb40 (Nat.le_refl _))
  have B44 := Lib.hid (B30.out.trans (hb40.mono B30.out.size))
  clear hb40
  have E45 := Lib.hid (hd33)
  have L46 := Lib.hid (hl35)
  have F47 := Lib.hid (hk34)
  clear hd33 hk34 hl35
  have hb48 := (Below.refl w39.heap.size w39).alloc (Nat.le_refl _) (.cells #[(.slice d31.A 0 d31.c)] 41)
  have T49 := Lib.hid (BoAt.new w39 (.slice d31.A 0 d31.c))
  have T50 := Lib.hid (T41.out.below hb48 T41.out.lt)
  have T51 := Lib.hid (T42.out.below hb48 T42.out.lt)
  have F52 := Lib.hid (F43.out.below hb48 (Nat.le_refl _))
  have F53 := Lib.hid (F47.out.below hb48 (Nat.le_refl _))
  have B54 := Lib.hid (B44.out.trans (hb48.mono B44.out.size))
  clear hb48
  have M58 := Lib.hid (T50.out.load)
  have M59 := Lib.hid (load_arr16 T51.out)
  have C60 := Lib.hid (bfind_any b z (w39.alloc (.cells #[(.slice d31.A 0 d31.c)] 41)) F52.out ZI.out.1 ZI.out.2 ZB.out)
  unfold BFindPost at C60
  go_wp2_with (first | ((with_reducible refine wpList_load_by (o := ⟨some 46, .load 41 (.tmp 4), _, _, _, _⟩) ?e1 41 (.tmp 4) ?e2 ⟨w.heap.size, 0, none⟩ ?e3 _ M58.out ?_); (case e1 => rfl); (case e2 => rfl); (case e3 => rfl)) | ((with_reducible refine wpList_load_by (o := ⟨some 47, .load 23 (.tmp 5), _, _, _, _⟩) ?e1 23 (.tmp 5) ?e2 ⟨(w.heap.size + 1), 0, none⟩ ?e3 _ M59.out ?_); (case e1 => rfl); (case e2 => rfl); (case e3 => rfl)))
  refine C60.out.mono ?_
  rintro e w61 ⟨y55, rfl, hd56, hk57, hb62⟩
  have T63 := Lib.hid (T50.out.below hb62 T50.out.lt)
  have T64 := Lib.hid (T51.out.below hb62 T51.out.lt)
  have T65 := Lib.hid (T49.out.below hb62 T49.out.lt)
  have F66 := Lib.hid (F52.out.below hb62 (Nat.le_refl _))
  have F67 := Lib.hid (F53.out.below hb62 (Nat.le_refl _))
  have B68 := Lib.hid (B54.out.trans (hb62.mono B54.out.size))
  clear hb62
  have E69 := Lib.hid (hd56)
  have F70 := Lib.hid (hk57)
  have Z71 := Lib.hid (hk57.len)
  clear hd56 hk57
  go_wp2_with (first | ((with_reducible refine wpList_store_newx (o := ⟨none, .store 28 (.tmp 13) (.tmp 49), _, _, _, _⟩) (w := w61) ?e1 (.tmp 13) (.tmp 49) ?e2 w61.heap.size ?e0 ?e3 y55 ?e4 Z71.out ?_); (case e1 => rfl); (case e2 => rfl); (case e0 => rfl); (case e3 => rfl); (case e4 => rfl); intro w72 hb73 hx74 hs75; have T76 := Lib.hid hx74; clear hx74 hs75; have T77 := Lib.hid (T63.out.below hb73 T63.out.lt); have T78 := Lib.hid (T64.out.below hb73 T64.out.lt); have T79 := Lib.hid (T65.out.below hb73 T65.out.lt); have F80 := Lib.hid (F66.out.below hb73 (Nat.le_refl _)); have F81 := Lib.hid (F67.out.below hb73 (Nat.le_refl _)); have F82 := Lib.hid (F70.out.below hb73 (Nat.le_refl _)); have B83 := Lib.hid (B68.out.trans (hb73.mono B68.out.size)); clear hb73; have c0 := T79.out.c0))
  go_ret
  exact ⟨rfl, B83.out⟩
set_option maxHeartbeats 16000000 in
theorem bkills_e4 (b : Bk) (z : List Int) (q no : Int) (w : World) (hlaid : Laid w) (wb : BkAt w b) (wz : z.length = 16 ∧ AllBytes z) (iPB : fewB b.rs = true) (iMB : bmay b.rs = true) (iJK : bkill b.rs z q = (4, [])) :
    Calls Tryd.prog 8 #[.agg #[.slice b.A b.xs.length b.c], .agg (bvals z), .int .i64 q, .int .i64 no] w fun e w' => e = .returned (.bool true) ∧ Below w.heap.size w w' := by
  have HLA := Lib.hid (fun (X : World) (hX : Below w.heap.size w X) => hlaid.below hX (Nat.le_refl _))
  have Fb := Lib.hid wb
  have ZI := Lib.hid wz
  have hz := zeroX
  clear hlaid wb wz
  have PB := Lib.hid iPB
  have MB := Lib.hid iMB
  have JK := Lib.hid iJK
  have ZB := Lib.hid (fewB_fs iPB).2
  clear iPB iMB iJK
  have B1 := Lib.hid (Below.refl w.heap.size w)
  have T2n := BoAt.new w (.slice b.A b.xs.length b.c)
  have T2 := Lib.hid T2n
  clear T2n
  have B3 := Lib.hid (B1.out.alloc B1.out.size (.cells #[(.slice b.A b.xs.length b.c)] 41))
  have T4 := Lib.hid (T2.out.old (.cells (bvals z) 23))
  have T5n := IdAt.new (w.alloc (.cells #[(.slice b.A b.xs.length b.c)] 41)) ZI.out.1
  simp only [World.size_alloc] at T5n
  have T5 := Lib.hid T5n
  clear T5n
  have B6 := Lib.hid (B3.out.alloc B3.out.size (.cells (bvals z) 23))
  have F7 := Lib.hid (Fb.out.below B6.out (Nat.le_refl _))
  go_enter Tryd.func8, Tryd.ntmps8
  have C8 := Lib.hid (bkAwake ((w.alloc (.cells #[(.slice b.A b.xs.length b.c)] 41)).alloc (.cells (bvals z) 23)) (HLA.out _ B6.out))
  go_wp2_with fail
  refine C8.out.mono ?_
  rintro e w9 ⟨rfl, hb10⟩
  have T11 := Lib.hid (T4.out.below hb10 T4.out.lt)
  have T12 := Lib.hid (T5.out.below hb10 T5.out.lt)
  have F13 := Lib.hid (F7.out.below hb10 (Nat.le_refl _))
  have B14 := Lib.hid (B6.out.trans (hb10.mono B6.out.size))
  clear hb10
  have M15 := Lib.hid (T11.out.load)
  have C16 := Lib.hid (fewB_any b w9 F13.out)
  rw [PB.out] at C16
  go_wp2_with (first | ((with_reducible refine wpList_load_by (o := ⟨some 24, .load 41 (.tmp 4), _, _, _, _⟩) ?e1 41 (.tmp 4) ?e2 ⟨w.heap.size, 0, none⟩ ?e3 _ M15.out ?_); (case e1 => rfl); (case e2 => rfl); (case e3 => rfl)))
  refine C16.out.mono ?_
  rintro e w17 ⟨rfl, hb18⟩
  have T19 := Lib.hid (T11.out.below hb18 T11.out.lt)
  have T20 := Lib.hid (T12.out.below hb18 T12.out.lt)
  have F21 := Lib.hid (F13.out.below hb18 (Nat.le_refl _))
  have B22 := Lib.hid (B14.out.trans (hb18.mono B14.out.size))
  clear hb18
  have M23 := Lib.hid (T19.out.load)
  have C24 := Lib.hid (bmay_any b w17 F21.out)
  rw [MB.out] at C24
  go_wp2_with (first | ((with_reducible refine wpList_load_by (o := ⟨some 33, .load 41 (.tmp 4), _, _, _, _⟩) ?e1 41 (.tmp 4) ?e2 ⟨w.heap.size, 0, none⟩ ?e3 _ M23.out ?_); (case e1 => rfl); (case e2 => rfl); (case e3 => rfl)))
  refine C24.out.mono ?_
  rintro e w25 ⟨rfl, hb26⟩
  have T27 := Lib.hid (T19.out.below hb26 T19.out.lt)
  have T28 := Lib.hid (T20.out.below hb26 T20.out.lt)
  have F29 := Lib.hid (F21.out.below hb26 (Nat.le_refl _))
  have B30 := Lib.hid (B22.out.trans (hb26.mono B22.out.size))
  clear hb26
  have M36 := Lib.hid (T27.out.load)
  have M37 := Lib.hid (load_arr16 T28.out)
  have C38 := Lib.hid (bkill_any b z q w25 (HLA.out _ B30.out) F29.out ZI.out.1 ZI.out.2)
  unfold BJoinPost at C38
  rw [JK.out] at C38
  dsimp only at C38
  go_wp2_with (first | ((with_reducible refine wpList_load_by (o := ⟨some 39, .load 41 (.tmp 4), _, _, _, _⟩) ?e1 41 (.tmp 4) ?e2 ⟨w.heap.size, 0, none⟩ ?e3 _ M36.out ?_); (case e1 => rfl); (case e2 => rfl); (case e3 => rfl)) | ((with_reducible refine wpList_load_by (o := ⟨some 40, .load 23 (.tmp 5), _, _, _, _⟩) ?e1 23 (.tmp 5) ?e2 ⟨(w.heap.size + 1), 0, none⟩ ?e3 _ M37.out ?_); (case e1 => rfl); (case e2 => rfl); (case e3 => rfl)))
  refine C38.out.mono ?_
  rintro e w39 ⟨d31, he32, hd33, hk34, hb40⟩
  have hl35 : d31.xs.length = 0 := by have h9 := congrArg List.length hd33; simpa [Bk.rs] using h9
  rw [hl35] at he32
  subst he32
  have T41 := Lib.hid (T27.out.below hb40 T27.out.lt)
  have T42 := Lib.hid (T28.out.below hb40 T28.out.lt)
  have F43 := Lib.hid (F29.out.below hb40 (Nat.le_refl _))
  have B44 := Lib.hid (B30.out.trans (hb40.mono B30.out.size))
  clear hb40
  have E45 := Lib.hid (hd33)
  have L46 := Lib.hid (hl35)
  have F47 := Lib.hid (hk34)
  clear hd33 hk34 hl35
  have hb48 := (Below.refl w39.heap.size w39).alloc (Nat.le_refl _) (.cells #[(.slice d31.A 0 d31.c)] 41)
  have T49 := Lib.hid (BoAt.new w39 (.slice d31.A 0 d31.c))
  have T50 := Lib.hid (T41.out.below hb48 T41.out.lt)
  have T51 := Lib.hid (T42.out.below hb48 T42.out.lt)
  have F52 := Lib.hid (F43.out.below hb48 (Nat.le_refl _))
  have F53 := Lib.hid (F47.out.below hb48 (Nat.le_refl _))
  have B54 := Lib.hid (B44.out.trans (hb48.mono B44.out.size))
  clear hb48
  have M58 := Lib.hid (T50.out.load)
  have M59 := Lib.hid (load_arr16 T51.out)
  have C60 := Lib.hid (bfind_any b z (w39.alloc (.cells #[(.slice d31.A 0 d31.c)] 41)) F52.out ZI.out.1 ZI.out.2 ZB.out)
  unfold BFindPost at C60
  go_wp2_with (first | ((with_reducible refine wpList_load_by (o := ⟨some 46, .load 41 (.tmp 4), _, _, _, _⟩) ?e1 41 (.tmp 4) ?e2 ⟨w.heap.size, 0, none⟩ ?e3 _ M58.out ?_); (case e1 => rfl); (case e2 => rfl); (case e3 => rfl)) | ((with_reducible refine wpList_load_by (o := ⟨some 47, .load 23 (.tmp 5), _, _, _, _⟩) ?e1 23 (.tmp 5) ?e2 ⟨(w.heap.size + 1), 0, none⟩ ?e3 _ M59.out ?_); (case e1 => rfl); (case e2 => rfl); (case e3 => rfl)))
  refine C60.out.mono ?_
  rintro e w61 ⟨y55, rfl, hd56, hk57, hb62⟩
  have T63 := Lib.hid (T50.out.below hb62 T50.out.lt)
  have T64 := Lib.hid (T51.out.below hb62 T51.out.lt)
  have T65 := Lib.hid (T49.out.below hb62 T49.out.lt)
  have F66 := Lib.hid (F52.out.below hb62 (Nat.le_refl _))
  have F67 := Lib.hid (F53.out.below hb62 (Nat.le_refl _))
  have B68 := Lib.hid (B54.out.trans (hb62.mono B54.out.size))
  clear hb62
  have E69 := Lib.hid (hd56)
  have F70 := Lib.hid (hk57)
  have Z71 := Lib.hid (hk57.len)
  clear hd56 hk57
  go_wp2_with (first | ((with_reducible refine wpList_store_newx (o := ⟨none, .store 28 (.tmp 13) (.tmp 49), _, _, _, _⟩) (w := w61) ?e1 (.tmp 13) (.tmp 49) ?e2 w61.heap.size ?e0 ?e3 y55 ?e4 Z71.out ?_); (case e1 => rfl); (case e2 => rfl); (case e0 => rfl); (case e3 => rfl); (case e4 => rfl); intro w72 hb73 hx74 hs75; have T76 := Lib.hid hx74; clear hx74 hs75; have T77 := Lib.hid (T63.out.below hb73 T63.out.lt); have T78 := Lib.hid (T64.out.below hb73 T64.out.lt); have T79 := Lib.hid (T65.out.below hb73 T65.out.lt); have F80 := Lib.hid (F66.out.below hb73 (Nat.le_refl _)); have F81 := Lib.hid (F67.out.below hb73 (Nat.le_refl _)); have F82 := Lib.hid (F70.out.below hb73 (Nat.le_refl _)); have B83 := Lib.hid (B68.out.trans (hb73.mono B68.out.size)); clear hb73; have c0 := T79.out.c0))
  go_ret
  exact ⟨rfl, B83.out⟩
set_option maxHeartbeats 16000000 in
theorem bkills_e6 (b : Bk) (z : List Int) (q no : Int) (w : World) (hlaid : Laid w) (wb : BkAt w b) (wz : z.length = 16 ∧ AllBytes z) (iPB : fewB b.rs = true) (iMB : bmay b.rs = true) (iJK : bkill b.rs z q = (6, [])) (iBA : bat b.rs z = none) :
    Calls Tryd.prog 8 #[.agg #[.slice b.A b.xs.length b.c], .agg (bvals z), .int .i64 q, .int .i64 no] w fun e w' => e = .returned (.bool true) ∧ Below w.heap.size w w' := by
  have HLA := Lib.hid (fun (X : World) (hX : Below w.heap.size w X) => hlaid.below hX (Nat.le_refl _))
  have Fb := Lib.hid wb
  have ZI := Lib.hid wz
  have hz := zeroX
  clear hlaid wb wz
  have PB := Lib.hid iPB
  have MB := Lib.hid iMB
  have JK := Lib.hid iJK
  have BA := Lib.hid iBA
  have ZB := Lib.hid (fewB_fs iPB).2
  clear iPB iMB iJK iBA
  have B1 := Lib.hid (Below.refl w.heap.size w)
  have T2n := BoAt.new w (.slice b.A b.xs.length b.c)
  have T2 := Lib.hid T2n
  clear T2n
  have B3 := Lib.hid (B1.out.alloc B1.out.size (.cells #[(.slice b.A b.xs.length b.c)] 41))
  have T4 := Lib.hid (T2.out.old (.cells (bvals z) 23))
  have T5n := IdAt.new (w.alloc (.cells #[(.slice b.A b.xs.length b.c)] 41)) ZI.out.1
  simp only [World.size_alloc] at T5n
  have T5 := Lib.hid T5n
  clear T5n
  have B6 := Lib.hid (B3.out.alloc B3.out.size (.cells (bvals z) 23))
  have F7 := Lib.hid (Fb.out.below B6.out (Nat.le_refl _))
  go_enter Tryd.func8, Tryd.ntmps8
  have C8 := Lib.hid (bkAwake ((w.alloc (.cells #[(.slice b.A b.xs.length b.c)] 41)).alloc (.cells (bvals z) 23)) (HLA.out _ B6.out))
  go_wp2_with fail
  refine C8.out.mono ?_
  rintro e w9 ⟨rfl, hb10⟩
  have T11 := Lib.hid (T4.out.below hb10 T4.out.lt)
  have T12 := Lib.hid (T5.out.below hb10 T5.out.lt)
  have F13 := Lib.hid (F7.out.below hb10 (Nat.le_refl _))
  have B14 := Lib.hid (B6.out.trans (hb10.mono B6.out.size))
  clear hb10
  have M15 := Lib.hid (T11.out.load)
  have C16 := Lib.hid (fewB_any b w9 F13.out)
  rw [PB.out] at C16
  go_wp2_with (first | ((with_reducible refine wpList_load_by (o := ⟨some 24, .load 41 (.tmp 4), _, _, _, _⟩) ?e1 41 (.tmp 4) ?e2 ⟨w.heap.size, 0, none⟩ ?e3 _ M15.out ?_); (case e1 => rfl); (case e2 => rfl); (case e3 => rfl)))
  refine C16.out.mono ?_
  rintro e w17 ⟨rfl, hb18⟩
  have T19 := Lib.hid (T11.out.below hb18 T11.out.lt)
  have T20 := Lib.hid (T12.out.below hb18 T12.out.lt)
  have F21 := Lib.hid (F13.out.below hb18 (Nat.le_refl _))
  have B22 := Lib.hid (B14.out.trans (hb18.mono B14.out.size))
  clear hb18
  have M23 := Lib.hid (T19.out.load)
  have C24 := Lib.hid (bmay_any b w17 F21.out)
  rw [MB.out] at C24
  go_wp2_with (first | ((with_reducible refine wpList_load_by (o := ⟨some 33, .load 41 (.tmp 4), _, _, _, _⟩) ?e1 41 (.tmp 4) ?e2 ⟨w.heap.size, 0, none⟩ ?e3 _ M23.out ?_); (case e1 => rfl); (case e2 => rfl); (case e3 => rfl)))
  refine C24.out.mono ?_
  rintro e w25 ⟨rfl, hb26⟩
  have T27 := Lib.hid (T19.out.below hb26 T19.out.lt)
  have T28 := Lib.hid (T20.out.below hb26 T20.out.lt)
  have F29 := Lib.hid (F21.out.below hb26 (Nat.le_refl _))
  have B30 := Lib.hid (B22.out.trans (hb26.mono B22.out.size))
  clear hb26
  have M36 := Lib.hid (T27.out.load)
  have M37 := Lib.hid (load_arr16 T28.out)
  have C38 := Lib.hid (bkill_any b z q w25 (HLA.out _ B30.out) F29.out ZI.out.1 ZI.out.2)
  unfold BJoinPost at C38
  rw [JK.out] at C38
  dsimp only at C38
  go_wp2_with (first | ((with_reducible refine wpList_load_by (o := ⟨some 39, .load 41 (.tmp 4), _, _, _, _⟩) ?e1 41 (.tmp 4) ?e2 ⟨w.heap.size, 0, none⟩ ?e3 _ M36.out ?_); (case e1 => rfl); (case e2 => rfl); (case e3 => rfl)) | ((with_reducible refine wpList_load_by (o := ⟨some 40, .load 23 (.tmp 5), _, _, _, _⟩) ?e1 23 (.tmp 5) ?e2 ⟨(w.heap.size + 1), 0, none⟩ ?e3 _ M37.out ?_); (case e1 => rfl); (case e2 => rfl); (case e3 => rfl)))
  refine C38.out.mono ?_
  rintro e w39 ⟨d31, he32, hd33, hk34, hb40⟩
  have hl35 : d31.xs.length = 0 := by have h9 := congrArg List.length hd33; simpa [Bk.rs] using h9
  rw [hl35] at he32
  subst he32
  have T41 := Lib.hid (T27.out.below hb40 T27.out.lt)
  have T42 := Lib.hid (T28.out.below hb40 T28.out.lt)
  have F43 := Lib.hid (F29.out.below hb40 (Nat.le_refl _))
  have B44 := Lib.hid (B30.out.trans (hb40.mono B30.out.size))
  clear hb40
  have E45 := Lib.hid (hd33)
  have L46 := Lib.hid (hl35)
  have F47 := Lib.hid (hk34)
  clear hd33 hk34 hl35
  have hb48 := (Below.refl w39.heap.size w39).alloc (Nat.le_refl _) (.cells #[(.slice d31.A 0 d31.c)] 41)
  have T49 := Lib.hid (BoAt.new w39 (.slice d31.A 0 d31.c))
  have T50 := Lib.hid (T41.out.below hb48 T41.out.lt)
  have T51 := Lib.hid (T42.out.below hb48 T42.out.lt)
  have F52 := Lib.hid (F43.out.below hb48 (Nat.le_refl _))
  have F53 := Lib.hid (F47.out.below hb48 (Nat.le_refl _))
  have B54 := Lib.hid (B44.out.trans (hb48.mono B44.out.size))
  clear hb48
  have M58 := Lib.hid (T50.out.load)
  have M59 := Lib.hid (load_arr16 T51.out)
  have C60 := Lib.hid (bfind_any b z (w39.alloc (.cells #[(.slice d31.A 0 d31.c)] 41)) F52.out ZI.out.1 ZI.out.2 ZB.out)
  unfold BFindPost at C60
  rw [BA.out] at C60
  try dsimp only [Option.isSome_some, Option.isSome_none, Option.getD_some, Option.getD_none] at C60
  go_wp2_with (first | ((with_reducible refine wpList_load_by (o := ⟨some 46, .load 41 (.tmp 4), _, _, _, _⟩) ?e1 41 (.tmp 4) ?e2 ⟨w.heap.size, 0, none⟩ ?e3 _ M58.out ?_); (case e1 => rfl); (case e2 => rfl); (case e3 => rfl)) | ((with_reducible refine wpList_load_by (o := ⟨some 47, .load 23 (.tmp 5), _, _, _, _⟩) ?e1 23 (.tmp 5) ?e2 ⟨(w.heap.size + 1), 0, none⟩ ?e3 _ M59.out ?_); (case e1 => rfl); (case e2 => rfl); (case e3 => rfl)))
  refine C60.out.mono ?_
  rintro e w61 ⟨y55, rfl, hd56, hk57, hb62⟩
  have T63 := Lib.hid (T50.out.below hb62 T50.out.lt)
  have T64 := Lib.hid (T51.out.below hb62 T51.out.lt)
  have T65 := Lib.hid (T49.out.below hb62 T49.out.lt)
  have F66 := Lib.hid (F52.out.below hb62 (Nat.le_refl _))
  have F67 := Lib.hid (F53.out.below hb62 (Nat.le_refl _))
  have B68 := Lib.hid (B54.out.trans (hb62.mono B54.out.size))
  clear hb62
  have E69 := Lib.hid (hd56)
  have F70 := Lib.hid (hk57)
  have Z71 := Lib.hid (hk57.len)
  clear hd56 hk57
  go_wp2_with (first | ((with_reducible refine wpList_store_newx (o := ⟨none, .store 28 (.tmp 13) (.tmp 49), _, _, _, _⟩) (w := w61) ?e1 (.tmp 13) (.tmp 49) ?e2 w61.heap.size ?e0 ?e3 y55 ?e4 Z71.out ?_); (case e1 => rfl); (case e2 => rfl); (case e0 => rfl); (case e3 => rfl); (case e4 => rfl); intro w72 hb73 hx74 hs75; have T76 := Lib.hid hx74; clear hx74 hs75; have T77 := Lib.hid (T63.out.below hb73 T63.out.lt); have T78 := Lib.hid (T64.out.below hb73 T64.out.lt); have T79 := Lib.hid (T65.out.below hb73 T65.out.lt); have F80 := Lib.hid (F66.out.below hb73 (Nat.le_refl _)); have F81 := Lib.hid (F67.out.below hb73 (Nat.le_refl _)); have F82 := Lib.hid (F70.out.below hb73 (Nat.le_refl _)); have B83 := Lib.hid (B68.out.trans (hb73.mono B68.out.size)); clear hb73; have c0 := T79.out.c0))
  go_ret
  exact ⟨rfl, B83.out⟩
set_option maxHeartbeats 16000000 in
theorem bkills_w1 (b : Bk) (z : List Int) (q no : Int) (w : World) (hlaid : Laid w) (wb : BkAt w b) (wz : z.length = 16 ∧ AllBytes z) (X : List Rc) (r K : Rc) (iPB : fewB b.rs = true) (iMB : bmay b.rs = true) (iJK : bkill b.rs z q = (0, X)) (iMX : bmay X = true) (iHL : X.length = b.xs.length) (iBA : bat b.rs z = some r) (iBX : bat X z = some K) (iKL : K.fs.length = 0) (iSL : stLess r.n r.r K.n K.r = true) (iLX : bleq b.rs X = true) (iJW : bwrite X z no q ⟨#[97, 103, 97, 105, 110]⟩ = (1, [])) (iMU : bmay [] = true) (iBU : bat [] z = none) (iFR : rfind rc0.fs no = none) :
    Calls Tryd.prog 8 #[.agg #[.slice b.A b.xs.length b.c], .agg (bvals z), .int .i64 q, .int .i64 no] w fun e w' => e = .returned (.bool true) ∧ Below w.heap.size w w' := by
  have HLA := Lib.hid (fun (X : World) (hX : Below w.heap.size w X) => hlaid.below hX (Nat.le_refl _))
  have Fb := Lib.hid wb
  have ZI := Lib.hid wz
  have hz := zeroX
  clear hlaid wb wz
  have PB := Lib.hid iPB
  have MB := Lib.hid iMB
  have JK := Lib.hid iJK
  have MX := Lib.hid iMX
  have HL := Lib.hid iHL
  have BA := Lib.hid iBA
  have BX := Lib.hid iBX
  have KL := Lib.hid iKL
  have SL := Lib.hid iSL
  have LX := Lib.hid iLX
  have JW := Lib.hid iJW
  have MU := Lib.hid iMU
  have BU := Lib.hid iBU
  have FR := Lib.hid iFR
  have ZB := Lib.hid (fewB_fs iPB).2
  clear iPB iMB iJK iMX iHL iBA iBX iKL iSL iLX iJW iMU iBU iFR
  have B1 := Lib.hid (Below.refl w.heap.size w)
  have T2n := BoAt.new w (.slice b.A b.xs.length b.c)
  have T2 := Lib.hid T2n
  clear T2n
  have B3 := Lib.hid (B1.out.alloc B1.out.size (.cells #[(.slice b.A b.xs.length b.c)] 41))
  have T4 := Lib.hid (T2.out.old (.cells (bvals z) 23))
  have T5n := IdAt.new (w.alloc (.cells #[(.slice b.A b.xs.length b.c)] 41)) ZI.out.1
  simp only [World.size_alloc] at T5n
  have T5 := Lib.hid T5n
  clear T5n
  have B6 := Lib.hid (B3.out.alloc B3.out.size (.cells (bvals z) 23))
  have F7 := Lib.hid (Fb.out.below B6.out (Nat.le_refl _))
  go_enter Tryd.func8, Tryd.ntmps8
  have C8 := Lib.hid (bkAwake ((w.alloc (.cells #[(.slice b.A b.xs.length b.c)] 41)).alloc (.cells (bvals z) 23)) (HLA.out _ B6.out))
  go_wp2_with fail
  refine C8.out.mono ?_
  rintro e w9 ⟨rfl, hb10⟩
  have T11 := Lib.hid (T4.out.below hb10 T4.out.lt)
  have T12 := Lib.hid (T5.out.below hb10 T5.out.lt)
  have F13 := Lib.hid (F7.out.below hb10 (Nat.le_refl _))
  have B14 := Lib.hid (B6.out.trans (hb10.mono B6.out.size))
  clear hb10
  have M15 := Lib.hid (T11.out.load)
  have C16 := Lib.hid (fewB_any b w9 F13.out)
  rw [PB.out] at C16
  go_wp2_with (first | ((with_reducible refine wpList_load_by (o := ⟨some 24, .load 41 (.tmp 4), _, _, _, _⟩) ?e1 41 (.tmp 4) ?e2 ⟨w.heap.size, 0, none⟩ ?e3 _ M15.out ?_); (case e1 => rfl); (case e2 => rfl); (case e3 => rfl)))
  refine C16.out.mono ?_
  rintro e w17 ⟨rfl, hb18⟩
  have T19 := Lib.hid (T11.out.below hb18 T11.out.lt)
  have T20 := Lib.hid (T12.out.below hb18 T12.out.lt)
  have F21 := Lib.hid (F13.out.below hb18 (Nat.le_refl _))
  have B22 := Lib.hid (B14.out.trans (hb18.mono B14.out.size))
  clear hb18
  have M23 := Lib.hid (T19.out.load)
  have C24 := Lib.hid (bmay_any b w17 F21.out)
  rw [MB.out] at C24
  go_wp2_with (first | ((with_reducible refine wpList_load_by (o := ⟨some 33, .load 41 (.tmp 4), _, _, _, _⟩) ?e1 41 (.tmp 4) ?e2 ⟨w.heap.size, 0, none⟩ ?e3 _ M23.out ?_); (case e1 => rfl); (case e2 => rfl); (case e3 => rfl)))
  refine C24.out.mono ?_
  rintro e w25 ⟨rfl, hb26⟩
  have T27 := Lib.hid (T19.out.below hb26 T19.out.lt)
  have T28 := Lib.hid (T20.out.below hb26 T20.out.lt)
  have F29 := Lib.hid (F21.out.below hb26 (Nat.le_refl _))
  have B30 := Lib.hid (B22.out.trans (hb26.mono B22.out.size))
  clear hb26
  have M36 := Lib.hid (T27.out.load)
  have M37 := Lib.hid (load_arr16 T28.out)
  have C38 := Lib.hid (bkill_any b z q w25 (HLA.out _ B30.out) F29.out ZI.out.1 ZI.out.2)
  unfold BJoinPost at C38
  rw [JK.out] at C38
  dsimp only at C38
  go_wp2_with (first | ((with_reducible refine wpList_load_by (o := ⟨some 39, .load 41 (.tmp 4), _, _, _, _⟩) ?e1 41 (.tmp 4) ?e2 ⟨w.heap.size, 0, none⟩ ?e3 _ M36.out ?_); (case e1 => rfl); (case e2 => rfl); (case e3 => rfl)) | ((with_reducible refine wpList_load_by (o := ⟨some 40, .load 23 (.tmp 5), _, _, _, _⟩) ?e1 23 (.tmp 5) ?e2 ⟨(w.heap.size + 1), 0, none⟩ ?e3 _ M37.out ?_); (case e1 => rfl); (case e2 => rfl); (case e3 => rfl)))
  refine C38.out.mono ?_
  rintro e w39 ⟨d31, he32, hd33, hk34, hb40⟩
  have hl35 : d31.xs.length = b.xs.length := by have h9 := congrArg List.length hd33; unfold Bk.rs at h9; rw [List.length_map] at h9; rw [h9]; exact HL.out
  rw [hl35] at he32
  subst he32
  have T41 := Lib.hid (T27.out.below hb40 T27.out.lt)
  have T42 := Lib.hid (T28.out.below hb40 T28.out.lt)
  have F43 := Lib.hid (F29.out.below hb40 (Nat.le_refl _))
  have B44 := Lib.hid (B30.out.trans (hb40.mono B30.out.size))
  clear hb40
  have E45 := Lib.hid (hd33)
  have L46 := Lib.hid (hl35)
  have F47 := Lib.hid (hk34)
  clear hd33 hk34 hl35
  have hb48 := (Below.refl w39.heap.size w39).alloc (Nat.le_refl _) (.cells #[(.slice d31.A b.xs.length d31.c)] 41)
  have T49 := Lib.hid (BoAt.new w39 (.slice d31.A b.xs.length d31.c))
  have T50 := Lib.hid (T41.out.below hb48 T41.out.lt)
  have T51 := Lib.hid (T42.out.below hb48 T42.out.lt)
  have F52 := Lib.hid (F43.out.below hb48 (Nat.le_refl _))
  have F53 := Lib.hid (F47.out.below hb48 (Nat.le_refl _))
  have B54 := Lib.hid (B44.out.trans (hb48.mono B44.out.size))
  clear hb48
  have Z55 := Lib.hid (bmay_fs E45.out MX.out)
  have M59 := Lib.hid (T50.out.load)
  have M60 := Lib.hid (load_arr16 T51.out)
  have C61 := Lib.hid (bfind_any b z (w39.alloc (.cells #[(.slice d31.A b.xs.length d31.c)] 41)) F52.out ZI.out.1 ZI.out.2 ZB.out)
  unfold BFindPost at C61
  rw [BA.out] at C61
  try dsimp only [Option.isSome_some, Option.isSome_none, Option.getD_some, Option.getD_none] at C61
  go_wp2_with (first | ((with_reducible refine wpList_load_by (o := ⟨some 46, .load 41 (.tmp 4), _, _, _, _⟩) ?e1 41 (.tmp 4) ?e2 ⟨w.heap.size, 0, none⟩ ?e3 _ M59.out ?_); (case e1 => rfl); (case e2 => rfl); (case e3 => rfl)) | ((with_reducible refine wpList_load_by (o := ⟨some 47, .load 23 (.tmp 5), _, _, _, _⟩) ?e1 23 (.tmp 5) ?e2 ⟨(w.heap.size + 1), 0, none⟩ ?e3 _ M60.out ?_); (case e1 => rfl); (case e2 => rfl); (case e3 => rfl)))
  refine C61.out.mono ?_
  rintro e w62 ⟨y56, rfl, hd57, hk58, hb63⟩
  have T64 := Lib.hid (T50.out.below hb63 T50.out.lt)
  have T65 := Lib.hid (T51.out.below hb63 T51.out.lt)
  have T66 := Lib.hid (T49.out.below hb63 T49.out.lt)
  have F67 := Lib.hid (F52.out.below hb63 (Nat.le_refl _))
  have F68 := Lib.hid (F53.out.below hb63 (Nat.le_refl _))
  have B69 := Lib.hid (B54.out.trans (hb63.mono B54.out.size))
  clear hb63
  have E70 := Lib.hid (hd57)
  have F71 := Lib.hid (hk58)
  have Z72 := Lib.hid (hk58.len)
  clear hd57 hk58
  go_wp2_with (first | ((with_reducible refine wpList_store_newx (o := ⟨none, .store 28 (.tmp 13) (.tmp 49), _, _, _, _⟩) (w := w62) ?e1 (.tmp 13) (.tmp 49) ?e2 w62.heap.size ?e0 ?e3 y56 ?e4 Z72.out ?_); (case e1 => rfl); (case e2 => rfl); (case e0 => rfl); (case e3 => rfl); (case e4 => rfl); intro w76 hb77 hx78 hs79; have T80 := Lib.hid hx78; clear hx78 hs79; have T81 := Lib.hid (T64.out.below hb77 T64.out.lt); have T82 := Lib.hid (T65.out.below hb77 T65.out.lt); have T83 := Lib.hid (T66.out.below hb77 T66.out.lt); have F84 := Lib.hid (F67.out.below hb77 (Nat.le_refl _)); have F85 := Lib.hid (F68.out.below hb77 (Nat.le_refl _)); have F86 := Lib.hid (F71.out.below hb77 (Nat.le_refl _)); have B87 := Lib.hid (B69.out.trans (hb77.mono B69.out.size)); clear hb77; have M88 := Lib.hid (T83.out.load); have M89 := Lib.hid (load_arr16 T82.out); have C90 := Lib.hid (bfind_any d31 z w76 F85.out ZI.out.1 ZI.out.2 Z55.out); unfold BFindPost at C90; try rw [L46.out] at C90; try rw [E45.out] at C90; rw [BX.out] at C90; try dsimp only [Option.isSome_some, Option.isSome_none, Option.getD_some, Option.getD_none] at C90) | ((with_reducible refine wpList_load_by (o := ⟨some 66, .load 41 (.tmp 11), _, _, _, _⟩) ?e1 41 (.tmp 11) ?e2 ⟨w39.heap.size, 0, none⟩ ?e3 _ M88.out ?_); (case e1 => rfl); (case e2 => rfl); (case e3 => rfl)) | ((with_reducible refine wpList_load_by (o := ⟨some 67, .load 23 (.tmp 5), _, _, _, _⟩) ?e1 23 (.tmp 5) ?e2 ⟨(w.heap.size + 1), 0, none⟩ ?e3 _ M89.out ?_); (case e1 => rfl); (case e2 => rfl); (case e3 => rfl)))
  refine C90.out.mono ?_
  rintro e w91 ⟨y73, rfl, hd74, hk75, hb92⟩
  have T93 := Lib.hid (T81.out.below hb92 T81.out.lt)
  have T94 := Lib.hid (T82.out.below hb92 T82.out.lt)
  have T95 := Lib.hid (T83.out.below hb92 T83.out.lt)
  have T96 := Lib.hid (T80.out.below hb92 T80.out.lt)
  have F97 := Lib.hid (F84.out.below hb92 (Nat.le_refl _))
  have F98 := Lib.hid (F85.out.below hb92 (Nat.le_refl _))
  have F99 := Lib.hid (F86.out.below hb92 (Nat.le_refl _))
  have B100 := Lib.hid (B87.out.trans (hb92.mono B87.out.size))
  clear hb92
  have E101 := Lib.hid (hd74)
  have F102 := Lib.hid (hk75)
  have Z103 := Lib.hid (hk75.len)
  clear hd74 hk75
  go_wp2_with (first | ((with_reducible refine wpList_store_newx (o := ⟨none, .store 28 (.tmp 15) (.tmp 69), _, _, _, _⟩) (w := w91) ?e1 (.tmp 15) (.tmp 69) ?e2 w91.heap.size ?e0 ?e3 y73 ?e4 Z103.out ?_); (case e1 => rfl); (case e2 => rfl); (case e0 => rfl); (case e3 => rfl); (case e4 => rfl); intro w104 hb105 hx106 hs107; have T108 := Lib.hid hx106; clear hx106 hs107; have T109 := Lib.hid (T93.out.below hb105 T93.out.lt); have T110 := Lib.hid (T94.out.below hb105 T94.out.lt); have T111 := Lib.hid (T95.out.below hb105 T95.out.lt); have T112 := Lib.hid (T96.out.below hb105 T96.out.lt); have F113 := Lib.hid (F97.out.below hb105 (Nat.le_refl _)); have F114 := Lib.hid (F98.out.below hb105 (Nat.le_refl _)); have F115 := Lib.hid (F99.out.below hb105 (Nat.le_refl _)); have F116 := Lib.hid (F102.out.below hb105 (Nat.le_refl _)); have B117 := Lib.hid (B100.out.trans (hb105.mono B100.out.size)); clear hb105; have x16 := T112.out.c16; have x17 := T112.out.c17; have y16 := T108.out.c16; have y17 := T108.out.c17; have y18 := T108.out.c18; rw [E70.out] at x16 x17; rw [E101.out] at y16 y17 y18; rw [KL.out] at y18; have C118 := Lib.hid (stLess_any r.n r.r K.n K.r w104); unfold st at C118; rw [SL.out] at C118))
  refine C118.out.mono ?_
  rintro e w119 ⟨rfl, hb120⟩
  have T121 := Lib.hid (T109.out.below hb120 T109.out.lt)
  have T122 := Lib.hid (T110.out.below hb120 T110.out.lt)
  have T123 := Lib.hid (T111.out.below hb120 T111.out.lt)
  have T124 := Lib.hid (T112.out.below hb120 T112.out.lt)
  have T125 := Lib.hid (T108.out.below hb120 T108.out.lt)
  have F126 := Lib.hid (F113.out.below hb120 (Nat.le_refl _))
  have F127 := Lib.hid (F114.out.below hb120 (Nat.le_refl _))
  have F128 := Lib.hid (F115.out.below hb120 (Nat.le_refl _))
  have F129 := Lib.hid (F116.out.below hb120 (Nat.le_refl _))
  have B130 := Lib.hid (B117.out.trans (hb120.mono B117.out.size))
  clear hb120
  clear x16 x17 y16 y17 y18
  have M131 := Lib.hid (T121.out.load)
  have M132 := Lib.hid (T123.out.load)
  have C133 := Lib.hid (bleq_any b d31 w119 (HLA.out _ B130.out) F126.out F127.out)
  try rw [L46.out] at C133
  try rw [E45.out] at C133
  rw [LX.out] at C133
  go_wp2_with (first | ((with_reducible refine wpList_load_by (o := ⟨some 92, .load 41 (.tmp 4), _, _, _, _⟩) ?e1 41 (.tmp 4) ?e2 ⟨w.heap.size, 0, none⟩ ?e3 _ M131.out ?_); (case e1 => rfl); (case e2 => rfl); (case e3 => rfl)) | ((with_reducible refine wpList_load_by (o := ⟨some 93, .load 41 (.tmp 11), _, _, _, _⟩) ?e1 41 (.tmp 11) ?e2 ⟨w39.heap.size, 0, none⟩ ?e3 _ M132.out ?_); (case e1 => rfl); (case e2 => rfl); (case e3 => rfl)))
  refine C133.out.mono ?_
  rintro e w134 ⟨rfl, hb135⟩
  have T136 := Lib.hid (T121.out.below hb135 T121.out.lt)
  have T137 := Lib.hid (T122.out.below hb135 T122.out.lt)
  have T138 := Lib.hid (T123.out.below hb135 T123.out.lt)
  have T139 := Lib.hid (T124.out.below hb135 T124.out.lt)
  have T140 := Lib.hid (T125.out.below hb135 T125.out.lt)
  have F141 := Lib.hid (F126.out.below hb135 (Nat.le_refl _))
  have F142 := Lib.hid (F127.out.below hb135 (Nat.le_refl _))
  have F143 := Lib.hid (F128.out.below hb135 (Nat.le_refl _))
  have F144 := Lib.hid (F129.out.below hb135 (Nat.le_refl _))
  have B145 := Lib.hid (B130.out.trans (hb135.mono B130.out.size))
  clear hb135
  have M151 := Lib.hid (T138.out.load)
  have M152 := Lib.hid (load_arr16 T137.out)
  have c4 := T136.out.c0
  have c11 := T138.out.c0
  have C153 := Lib.hid (bwrite_any d31 z no q ⟨#[97, 103, 97, 105, 110]⟩ w134 (HLA.out _ B145.out) F142.out ZI.out.1 ZI.out.2)
  unfold BJoinPost at C153
  try rw [L46.out] at C153
  try rw [E45.out] at C153
  rw [JW.out] at C153
  dsimp only at C153
  go_wp2_with (first | ((with_reducible refine wpList_load_by (o := ⟨some 107, .load 41 (.tmp 11), _, _, _, _⟩) ?e1 41 (.tmp 11) ?e2 ⟨w39.heap.size, 0, none⟩ ?e3 _ M151.out ?_); (case e1 => rfl); (case e2 => rfl); (case e3 => rfl)) | ((with_reducible refine wpList_load_by (o := ⟨some 108, .load 23 (.tmp 5), _, _, _, _⟩) ?e1 23 (.tmp 5) ?e2 ⟨(w.heap.size + 1), 0, none⟩ ?e3 _ M152.out ?_); (case e1 => rfl); (case e2 => rfl); (case e3 => rfl)))
  refine C153.out.mono ?_
  rintro e w154 ⟨d146, he147, hd148, hk149, hb155⟩
  have hl150 : d146.xs.length = 0 := by have h9 := congrArg List.length hd148; simpa [Bk.rs] using h9
  rw [hl150] at he147
  subst he147
  have T156 := Lib.hid (T136.out.below hb155 T136.out.lt)
  have T157 := Lib.hid (T137.out.below hb155 T137.out.lt)
  have T158 := Lib.hid (T138.out.below hb155 T138.out.lt)
  have T159 := Lib.hid (T139.out.below hb155 T139.out.lt)
  have T160 := Lib.hid (T140.out.below hb155 T140.out.lt)
  have F161 := Lib.hid (F141.out.below hb155 (Nat.le_refl _))
  have F162 := Lib.hid (F142.out.below hb155 (Nat.le_refl _))
  have F163 := Lib.hid (F143.out.below hb155 (Nat.le_refl _))
  have F164 := Lib.hid (F144.out.below hb155 (Nat.le_refl _))
  have B165 := Lib.hid (B145.out.trans (hb155.mono B145.out.size))
  clear hb155
  have E166 := Lib.hid (hd148)
  have L167 := Lib.hid (hl150)
  have F168 := Lib.hid (hk149)
  clear hd148 hk149 hl150
  clear c4 c11
  have hb169 := (Below.refl w154.heap.size w154).alloc (Nat.le_refl _) (.cells #[(.slice d146.A 0 d146.c)] 41)
  have T170 := Lib.hid (BoAt.new w154 (.slice d146.A 0 d146.c))
  have T171 := Lib.hid (T156.out.below hb169 T156.out.lt)
  have T172 := Lib.hid (T157.out.below hb169 T157.out.lt)
  have T173 := Lib.hid (T158.out.below hb169 T158.out.lt)
  have T174 := Lib.hid (T159.out.below hb169 T159.out.lt)
  have T175 := Lib.hid (T160.out.below hb169 T160.out.lt)
  have F176 := Lib.hid (F161.out.below hb169 (Nat.le_refl _))
  have F177 := Lib.hid (F162.out.below hb169 (Nat.le_refl _))
  have F178 := Lib.hid (F163.out.below hb169 (Nat.le_refl _))
  have F179 := Lib.hid (F164.out.below hb169 (Nat.le_refl _))
  have F180 := Lib.hid (F168.out.below hb169 (Nat.le_refl _))
  have B181 := Lib.hid (B165.out.trans (hb169.mono B165.out.size))
  clear hb169
  have Z182 := Lib.hid (bmay_fs E166.out MU.out)
  have M186 := Lib.hid (T170.out.load)
  have M187 := Lib.hid (load_arr16 T172.out)
  have C188 := Lib.hid (bfind_any d146 z (w154.alloc (.cells #[(.slice d146.A 0 d146.c)] 41)) F180.out ZI.out.1 ZI.out.2 Z182.out)
  unfold BFindPost at C188
  try rw [L167.out] at C188
  try rw [E166.out] at C188
  rw [BU.out] at C188
  try dsimp only [Option.isSome_some, Option.isSome_none, Option.getD_some, Option.getD_none] at C188
  go_wp2_with (first | ((with_reducible refine wpList_load_by (o := ⟨some 115, .load 41 (.tmp 17), _, _, _, _⟩) ?e1 41 (.tmp 17) ?e2 ⟨w154.heap.size, 0, none⟩ ?e3 _ M186.out ?_); (case e1 => rfl); (case e2 => rfl); (case e3 => rfl)) | ((with_reducible refine wpList_load_by (o := ⟨some 116, .load 23 (.tmp 5), _, _, _, _⟩) ?e1 23 (.tmp 5) ?e2 ⟨(w.heap.size + 1), 0, none⟩ ?e3 _ M187.out ?_); (case e1 => rfl); (case e2 => rfl); (case e3 => rfl)))
  refine C188.out.mono ?_
  rintro e w189 ⟨y183, rfl, hd184, hk185, hb190⟩
  have T191 := Lib.hid (T171.out.below hb190 T171.out.lt)
  have T192 := Lib.hid (T172.out.below hb190 T172.out.lt)
  have T193 := Lib.hid (T173.out.below hb190 T173.out.lt)
  have T194 := Lib.hid (T174.out.below hb190 T174.out.lt)
  have T195 := Lib.hid (T175.out.below hb190 T175.out.lt)
  have T196 := Lib.hid (T170.out.below hb190 T170.out.lt)
  have F197 := Lib.hid (F176.out.below hb190 (Nat.le_refl _))
  have F198 := Lib.hid (F177.out.below hb190 (Nat.le_refl _))
  have F199 := Lib.hid (F178.out.below hb190 (Nat.le_refl _))
  have F200 := Lib.hid (F179.out.below hb190 (Nat.le_refl _))
  have F201 := Lib.hid (F180.out.below hb190 (Nat.le_refl _))
  have B202 := Lib.hid (B181.out.trans (hb190.mono B181.out.size))
  clear hb190
  have E203 := Lib.hid (hd184)
  have F204 := Lib.hid (hk185)
  have Z205 := Lib.hid (hk185.len)
  clear hd184 hk185
  go_wp2_with (first | ((with_reducible refine wpList_store_newx (o := ⟨none, .store 28 (.tmp 19) (.tmp 118), _, _, _, _⟩) (w := w189) ?e1 (.tmp 19) (.tmp 118) ?e2 w189.heap.size ?e0 ?e3 y183 ?e4 Z205.out ?_); (case e1 => rfl); (case e2 => rfl); (case e0 => rfl); (case e3 => rfl); (case e4 => rfl); intro w206 hb207 hx208 hs209; have T210 := Lib.hid hx208; clear hx208 hs209; have T211 := Lib.hid (T191.out.below hb207 T191.out.lt); have T212 := Lib.hid (T192.out.below hb207 T192.out.lt); have T213 := Lib.hid (T193.out.below hb207 T193.out.lt); have T214 := Lib.hid (T194.out.below hb207 T194.out.lt); have T215 := Lib.hid (T195.out.below hb207 T195.out.lt); have T216 := Lib.hid (T196.out.below hb207 T196.out.lt); have F217 := Lib.hid (F197.out.below hb207 (Nat.le_refl _)); have F218 := Lib.hid (F198.out.below hb207 (Nat.le_refl _)); have F219 := Lib.hid (F199.out.below hb207 (Nat.le_refl _)); have F220 := Lib.hid (F200.out.below hb207 (Nat.le_refl _)); have F221 := Lib.hid (F201.out.below hb207 (Nat.le_refl _)); have F222 := Lib.hid (F204.out.below hb207 (Nat.le_refl _)); have B223 := Lib.hid (B202.out.trans (hb207.mono B202.out.size)); clear hb207; have M224 := Lib.hid (T210.out.load); have C225 := Lib.hid (xfind_any y183 no w206 F222.out); try rw [E203.out] at C225; rw [FR.out] at C225; try dsimp only [Option.isSome_some, Option.getD_some, Option.isSome_none, Option.getD_none, Cel.v, cel00] at C225) | ((with_reducible refine wpList_load_by (o := ⟨some 121, .load 28 (.tmp 19), _, _, _, _⟩) ?e1 28 (.tmp 19) ?e2 ⟨w189.heap.size, 0, none⟩ ?e3 _ M224.out ?_); (case e1 => rfl); (case e2 => rfl); (case e3 => rfl)))
  refine C225.out.mono ?_
  rintro e w226 ⟨rfl, hb227⟩
  have T228 := Lib.hid (T211.out.below hb227 T211.out.lt)
  have T229 := Lib.hid (T212.out.below hb227 T212.out.lt)
  have T230 := Lib.hid (T213.out.below hb227 T213.out.lt)
  have T231 := Lib.hid (T214.out.below hb227 T214.out.lt)
  have T232 := Lib.hid (T215.out.below hb227 T215.out.lt)
  have T233 := Lib.hid (T216.out.below hb227 T216.out.lt)
  have T234 := Lib.hid (T210.out.below hb227 T210.out.lt)
  have F235 := Lib.hid (F217.out.below hb227 (Nat.le_refl _))
  have F236 := Lib.hid (F218.out.below hb227 (Nat.le_refl _))
  have F237 := Lib.hid (F219.out.below hb227 (Nat.le_refl _))
  have F238 := Lib.hid (F220.out.below hb227 (Nat.le_refl _))
  have F239 := Lib.hid (F221.out.below hb227 (Nat.le_refl _))
  have F240 := Lib.hid (F222.out.below hb227 (Nat.le_refl _))
  have B241 := Lib.hid (B223.out.trans (hb227.mono B223.out.size))
  clear hb227
  have hb242 := (Below.refl w226.heap.size w226).alloc (Nat.le_refl _) (.cells #[.int .i64 0, .int .i64 0, .string ⟨#[]⟩] 32)
  have T243 := Lib.hid (ClAt.new w226 cel00)
  have T244 := Lib.hid (T228.out.below hb242 T228.out.lt)
  have T245 := Lib.hid (T229.out.below hb242 T229.out.lt)
  have T246 := Lib.hid (T230.out.below hb242 T230.out.lt)
  have T247 := Lib.hid (T231.out.below hb242 T231.out.lt)
  have T248 := Lib.hid (T232.out.below hb242 T232.out.lt)
  have T249 := Lib.hid (T233.out.below hb242 T233.out.lt)
  have T250 := Lib.hid (T234.out.below hb242 T234.out.lt)
  have F251 := Lib.hid (F235.out.below hb242 (Nat.le_refl _))
  have F252 := Lib.hid (F236.out.below hb242 (Nat.le_refl _))
  have F253 := Lib.hid (F237.out.below hb242 (Nat.le_refl _))
  have F254 := Lib.hid (F238.out.below hb242 (Nat.le_refl _))
  have F255 := Lib.hid (F239.out.below hb242 (Nat.le_refl _))
  have F256 := Lib.hid (F240.out.below hb242 (Nat.le_refl _))
  have B257 := Lib.hid (B241.out.trans (hb242.mono B241.out.size))
  clear hb242
  go_wp2
  go_ret
  exact ⟨rfl, B257.out⟩
set_option maxHeartbeats 16000000 in
theorem bkills_w4 (b : Bk) (z : List Int) (q no : Int) (w : World) (hlaid : Laid w) (wb : BkAt w b) (wz : z.length = 16 ∧ AllBytes z) (X : List Rc) (r K : Rc) (iPB : fewB b.rs = true) (iMB : bmay b.rs = true) (iJK : bkill b.rs z q = (0, X)) (iMX : bmay X = true) (iHL : X.length = b.xs.length) (iBA : bat b.rs z = some r) (iBX : bat X z = some K) (iKL : K.fs.length = 0) (iSL : stLess r.n r.r K.n K.r = true) (iLX : bleq b.rs X = true) (iJW : bwrite X z no q ⟨#[97, 103, 97, 105, 110]⟩ = (4, [])) (iMU : bmay [] = true) (iBU : bat [] z = none) (iFR : rfind rc0.fs no = none) :
    Calls Tryd.prog 8 #[.agg #[.slice b.A b.xs.length b.c], .agg (bvals z), .int .i64 q, .int .i64 no] w fun e w' => e = .returned (.bool true) ∧ Below w.heap.size w w' := by
  have HLA := Lib.hid (fun (X : World) (hX : Below w.heap.size w X) => hlaid.below hX (Nat.le_refl _))
  have Fb := Lib.hid wb
  have ZI := Lib.hid wz
  have hz := zeroX
  clear hlaid wb wz
  have PB := Lib.hid iPB
  have MB := Lib.hid iMB
  have JK := Lib.hid iJK
  have MX := Lib.hid iMX
  have HL := Lib.hid iHL
  have BA := Lib.hid iBA
  have BX := Lib.hid iBX
  have KL := Lib.hid iKL
  have SL := Lib.hid iSL
  have LX := Lib.hid iLX
  have JW := Lib.hid iJW
  have MU := Lib.hid iMU
  have BU := Lib.hid iBU
  have FR := Lib.hid iFR
  have ZB := Lib.hid (fewB_fs iPB).2
  clear iPB iMB iJK iMX iHL iBA iBX iKL iSL iLX iJW iMU iBU iFR
  have B1 := Lib.hid (Below.refl w.heap.size w)
  have T2n := BoAt.new w (.slice b.A b.xs.length b.c)
  have T2 := Lib.hid T2n
  clear T2n
  have B3 := Lib.hid (B1.out.alloc B1.out.size (.cells #[(.slice b.A b.xs.length b.c)] 41))
  have T4 := Lib.hid (T2.out.old (.cells (bvals z) 23))
  have T5n := IdAt.new (w.alloc (.cells #[(.slice b.A b.xs.length b.c)] 41)) ZI.out.1
  simp only [World.size_alloc] at T5n
  have T5 := Lib.hid T5n
  clear T5n
  have B6 := Lib.hid (B3.out.alloc B3.out.size (.cells (bvals z) 23))
  have F7 := Lib.hid (Fb.out.below B6.out (Nat.le_refl _))
  go_enter Tryd.func8, Tryd.ntmps8
  have C8 := Lib.hid (bkAwake ((w.alloc (.cells #[(.slice b.A b.xs.length b.c)] 41)).alloc (.cells (bvals z) 23)) (HLA.out _ B6.out))
  go_wp2_with fail
  refine C8.out.mono ?_
  rintro e w9 ⟨rfl, hb10⟩
  have T11 := Lib.hid (T4.out.below hb10 T4.out.lt)
  have T12 := Lib.hid (T5.out.below hb10 T5.out.lt)
  have F13 := Lib.hid (F7.out.below hb10 (Nat.le_refl _))
  have B14 := Lib.hid (B6.out.trans (hb10.mono B6.out.size))
  clear hb10
  have M15 := Lib.hid (T11.out.load)
  have C16 := Lib.hid (fewB_any b w9 F13.out)
  rw [PB.out] at C16
  go_wp2_with (first | ((with_reducible refine wpList_load_by (o := ⟨some 24, .load 41 (.tmp 4), _, _, _, _⟩) ?e1 41 (.tmp 4) ?e2 ⟨w.heap.size, 0, none⟩ ?e3 _ M15.out ?_); (case e1 => rfl); (case e2 => rfl); (case e3 => rfl)))
  refine C16.out.mono ?_
  rintro e w17 ⟨rfl, hb18⟩
  have T19 := Lib.hid (T11.out.below hb18 T11.out.lt)
  have T20 := Lib.hid (T12.out.below hb18 T12.out.lt)
  have F21 := Lib.hid (F13.out.below hb18 (Nat.le_refl _))
  have B22 := Lib.hid (B14.out.trans (hb18.mono B14.out.size))
  clear hb18
  have M23 := Lib.hid (T19.out.load)
  have C24 := Lib.hid (bmay_any b w17 F21.out)
  rw [MB.out] at C24
  go_wp2_with (first | ((with_reducible refine wpList_load_by (o := ⟨some 33, .load 41 (.tmp 4), _, _, _, _⟩) ?e1 41 (.tmp 4) ?e2 ⟨w.heap.size, 0, none⟩ ?e3 _ M23.out ?_); (case e1 => rfl); (case e2 => rfl); (case e3 => rfl)))
  refine C24.out.mono ?_
  rintro e w25 ⟨rfl, hb26⟩
  have T27 := Lib.hid (T19.out.below hb26 T19.out.lt)
  have T28 := Lib.hid (T20.out.below hb26 T20.out.lt)
  have F29 := Lib.hid (F21.out.below hb26 (Nat.le_refl _))
  have B30 := Lib.hid (B22.out.trans (hb26.mono B22.out.size))
  clear hb26
  have M36 := Lib.hid (T27.out.load)
  have M37 := Lib.hid (load_arr16 T28.out)
  have C38 := Lib.hid (bkill_any b z q w25 (HLA.out _ B30.out) F29.out ZI.out.1 ZI.out.2)
  unfold BJoinPost at C38
  rw [JK.out] at C38
  dsimp only at C38
  go_wp2_with (first | ((with_reducible refine wpList_load_by (o := ⟨some 39, .load 41 (.tmp 4), _, _, _, _⟩) ?e1 41 (.tmp 4) ?e2 ⟨w.heap.size, 0, none⟩ ?e3 _ M36.out ?_); (case e1 => rfl); (case e2 => rfl); (case e3 => rfl)) | ((with_reducible refine wpList_load_by (o := ⟨some 40, .load 23 (.tmp 5), _, _, _, _⟩) ?e1 23 (.tmp 5) ?e2 ⟨(w.heap.size + 1), 0, none⟩ ?e3 _ M37.out ?_); (case e1 => rfl); (case e2 => rfl); (case e3 => rfl)))
  refine C38.out.mono ?_
  rintro e w39 ⟨d31, he32, hd33, hk34, hb40⟩
  have hl35 : d31.xs.length = b.xs.length := by have h9 := congrArg List.length hd33; unfold Bk.rs at h9; rw [List.length_map] at h9; rw [h9]; exact HL.out
  rw [hl35] at he32
  subst he32
  have T41 := Lib.hid (T27.out.below hb40 T27.out.lt)
  have T42 := Lib.hid (T28.out.below hb40 T28.out.lt)
  have F43 := Lib.hid (F29.out.below hb40 (Nat.le_refl _))
  have B44 := Lib.hid (B30.out.trans (hb40.mono B30.out.size))
  clear hb40
  have E45 := Lib.hid (hd33)
  have L46 := Lib.hid (hl35)
  have F47 := Lib.hid (hk34)
  clear hd33 hk34 hl35
  have hb48 := (Below.refl w39.heap.size w39).alloc (Nat.le_refl _) (.cells #[(.slice d31.A b.xs.length d31.c)] 41)
  have T49 := Lib.hid (BoAt.new w39 (.slice d31.A b.xs.length d31.c))
  have T50 := Lib.hid (T41.out.below hb48 T41.out.lt)
  have T51 := Lib.hid (T42.out.below hb48 T42.out.lt)
  have F52 := Lib.hid (F43.out.below hb48 (Nat.le_refl _))
  have F53 := Lib.hid (F47.out.below hb48 (Nat.le_refl _))
  have B54 := Lib.hid (B44.out.trans (hb48.mono B44.out.size))
  clear hb48
  have Z55 := Lib.hid (bmay_fs E45.out MX.out)
  have M59 := Lib.hid (T50.out.load)
  have M60 := Lib.hid (load_arr16 T51.out)
  have C61 := Lib.hid (bfind_any b z (w39.alloc (.cells #[(.slice d31.A b.xs.length d31.c)] 41)) F52.out ZI.out.1 ZI.out.2 ZB.out)
  unfold BFindPost at C61
  rw [BA.out] at C61
  try dsimp only [Option.isSome_some, Option.isSome_none, Option.getD_some, Option.getD_none] at C61
  go_wp2_with (first | ((with_reducible refine wpList_load_by (o := ⟨some 46, .load 41 (.tmp 4), _, _, _, _⟩) ?e1 41 (.tmp 4) ?e2 ⟨w.heap.size, 0, none⟩ ?e3 _ M59.out ?_); (case e1 => rfl); (case e2 => rfl); (case e3 => rfl)) | ((with_reducible refine wpList_load_by (o := ⟨some 47, .load 23 (.tmp 5), _, _, _, _⟩) ?e1 23 (.tmp 5) ?e2 ⟨(w.heap.size + 1), 0, none⟩ ?e3 _ M60.out ?_); (case e1 => rfl); (case e2 => rfl); (case e3 => rfl)))
  refine C61.out.mono ?_
  rintro e w62 ⟨y56, rfl, hd57, hk58, hb63⟩
  have T64 := Lib.hid (T50.out.below hb63 T50.out.lt)
  have T65 := Lib.hid (T51.out.below hb63 T51.out.lt)
  have T66 := Lib.hid (T49.out.below hb63 T49.out.lt)
  have F67 := Lib.hid (F52.out.below hb63 (Nat.le_refl _))
  have F68 := Lib.hid (F53.out.below hb63 (Nat.le_refl _))
  have B69 := Lib.hid (B54.out.trans (hb63.mono B54.out.size))
  clear hb63
  have E70 := Lib.hid (hd57)
  have F71 := Lib.hid (hk58)
  have Z72 := Lib.hid (hk58.len)
  clear hd57 hk58
  go_wp2_with (first | ((with_reducible refine wpList_store_newx (o := ⟨none, .store 28 (.tmp 13) (.tmp 49), _, _, _, _⟩) (w := w62) ?e1 (.tmp 13) (.tmp 49) ?e2 w62.heap.size ?e0 ?e3 y56 ?e4 Z72.out ?_); (case e1 => rfl); (case e2 => rfl); (case e0 => rfl); (case e3 => rfl); (case e4 => rfl); intro w76 hb77 hx78 hs79; have T80 := Lib.hid hx78; clear hx78 hs79; have T81 := Lib.hid (T64.out.below hb77 T64.out.lt); have T82 := Lib.hid (T65.out.below hb77 T65.out.lt); have T83 := Lib.hid (T66.out.below hb77 T66.out.lt); have F84 := Lib.hid (F67.out.below hb77 (Nat.le_refl _)); have F85 := Lib.hid (F68.out.below hb77 (Nat.le_refl _)); have F86 := Lib.hid (F71.out.below hb77 (Nat.le_refl _)); have B87 := Lib.hid (B69.out.trans (hb77.mono B69.out.size)); clear hb77; have M88 := Lib.hid (T83.out.load); have M89 := Lib.hid (load_arr16 T82.out); have C90 := Lib.hid (bfind_any d31 z w76 F85.out ZI.out.1 ZI.out.2 Z55.out); unfold BFindPost at C90; try rw [L46.out] at C90; try rw [E45.out] at C90; rw [BX.out] at C90; try dsimp only [Option.isSome_some, Option.isSome_none, Option.getD_some, Option.getD_none] at C90) | ((with_reducible refine wpList_load_by (o := ⟨some 66, .load 41 (.tmp 11), _, _, _, _⟩) ?e1 41 (.tmp 11) ?e2 ⟨w39.heap.size, 0, none⟩ ?e3 _ M88.out ?_); (case e1 => rfl); (case e2 => rfl); (case e3 => rfl)) | ((with_reducible refine wpList_load_by (o := ⟨some 67, .load 23 (.tmp 5), _, _, _, _⟩) ?e1 23 (.tmp 5) ?e2 ⟨(w.heap.size + 1), 0, none⟩ ?e3 _ M89.out ?_); (case e1 => rfl); (case e2 => rfl); (case e3 => rfl)))
  refine C90.out.mono ?_
  rintro e w91 ⟨y73, rfl, hd74, hk75, hb92⟩
  have T93 := Lib.hid (T81.out.below hb92 T81.out.lt)
  have T94 := Lib.hid (T82.out.below hb92 T82.out.lt)
  have T95 := Lib.hid (T83.out.below hb92 T83.out.lt)
  have T96 := Lib.hid (T80.out.below hb92 T80.out.lt)
  have F97 := Lib.hid (F84.out.below hb92 (Nat.le_refl _))
  have F98 := Lib.hid (F85.out.below hb92 (Nat.le_refl _))
  have F99 := Lib.hid (F86.out.below hb92 (Nat.le_refl _))
  have B100 := Lib.hid (B87.out.trans (hb92.mono B87.out.size))
  clear hb92
  have E101 := Lib.hid (hd74)
  have F102 := Lib.hid (hk75)
  have Z103 := Lib.hid (hk75.len)
  clear hd74 hk75
  go_wp2_with (first | ((with_reducible refine wpList_store_newx (o := ⟨none, .store 28 (.tmp 15) (.tmp 69), _, _, _, _⟩) (w := w91) ?e1 (.tmp 15) (.tmp 69) ?e2 w91.heap.size ?e0 ?e3 y73 ?e4 Z103.out ?_); (case e1 => rfl); (case e2 => rfl); (case e0 => rfl); (case e3 => rfl); (case e4 => rfl); intro w104 hb105 hx106 hs107; have T108 := Lib.hid hx106; clear hx106 hs107; have T109 := Lib.hid (T93.out.below hb105 T93.out.lt); have T110 := Lib.hid (T94.out.below hb105 T94.out.lt); have T111 := Lib.hid (T95.out.below hb105 T95.out.lt); have T112 := Lib.hid (T96.out.below hb105 T96.out.lt); have F113 := Lib.hid (F97.out.below hb105 (Nat.le_refl _)); have F114 := Lib.hid (F98.out.below hb105 (Nat.le_refl _)); have F115 := Lib.hid (F99.out.below hb105 (Nat.le_refl _)); have F116 := Lib.hid (F102.out.below hb105 (Nat.le_refl _)); have B117 := Lib.hid (B100.out.trans (hb105.mono B100.out.size)); clear hb105; have x16 := T112.out.c16; have x17 := T112.out.c17; have y16 := T108.out.c16; have y17 := T108.out.c17; have y18 := T108.out.c18; rw [E70.out] at x16 x17; rw [E101.out] at y16 y17 y18; rw [KL.out] at y18; have C118 := Lib.hid (stLess_any r.n r.r K.n K.r w104); unfold st at C118; rw [SL.out] at C118))
  refine C118.out.mono ?_
  rintro e w119 ⟨rfl, hb120⟩
  have T121 := Lib.hid (T109.out.below hb120 T109.out.lt)
  have T122 := Lib.hid (T110.out.below hb120 T110.out.lt)
  have T123 := Lib.hid (T111.out.below hb120 T111.out.lt)
  have T124 := Lib.hid (T112.out.below hb120 T112.out.lt)
  have T125 := Lib.hid (T108.out.below hb120 T108.out.lt)
  have F126 := Lib.hid (F113.out.below hb120 (Nat.le_refl _))
  have F127 := Lib.hid (F114.out.below hb120 (Nat.le_refl _))
  have F128 := Lib.hid (F115.out.below hb120 (Nat.le_refl _))
  have F129 := Lib.hid (F116.out.below hb120 (Nat.le_refl _))
  have B130 := Lib.hid (B117.out.trans (hb120.mono B117.out.size))
  clear hb120
  clear x16 x17 y16 y17 y18
  have M131 := Lib.hid (T121.out.load)
  have M132 := Lib.hid (T123.out.load)
  have C133 := Lib.hid (bleq_any b d31 w119 (HLA.out _ B130.out) F126.out F127.out)
  try rw [L46.out] at C133
  try rw [E45.out] at C133
  rw [LX.out] at C133
  go_wp2_with (first | ((with_reducible refine wpList_load_by (o := ⟨some 92, .load 41 (.tmp 4), _, _, _, _⟩) ?e1 41 (.tmp 4) ?e2 ⟨w.heap.size, 0, none⟩ ?e3 _ M131.out ?_); (case e1 => rfl); (case e2 => rfl); (case e3 => rfl)) | ((with_reducible refine wpList_load_by (o := ⟨some 93, .load 41 (.tmp 11), _, _, _, _⟩) ?e1 41 (.tmp 11) ?e2 ⟨w39.heap.size, 0, none⟩ ?e3 _ M132.out ?_); (case e1 => rfl); (case e2 => rfl); (case e3 => rfl)))
  refine C133.out.mono ?_
  rintro e w134 ⟨rfl, hb135⟩
  have T136 := Lib.hid (T121.out.below hb135 T121.out.lt)
  have T137 := Lib.hid (T122.out.below hb135 T122.out.lt)
  have T138 := Lib.hid (T123.out.below hb135 T123.out.lt)
  have T139 := Lib.hid (T124.out.below hb135 T124.out.lt)
  have T140 := Lib.hid (T125.out.below hb135 T125.out.lt)
  have F141 := Lib.hid (F126.out.below hb135 (Nat.le_refl _))
  have F142 := Lib.hid (F127.out.below hb135 (Nat.le_refl _))
  have F143 := Lib.hid (F128.out.below hb135 (Nat.le_refl _))
  have F144 := Lib.hid (F129.out.below hb135 (Nat.le_refl _))
  have B145 := Lib.hid (B130.out.trans (hb135.mono B130.out.size))
  clear hb135
  have M151 := Lib.hid (T138.out.load)
  have M152 := Lib.hid (load_arr16 T137.out)
  have c4 := T136.out.c0
  have c11 := T138.out.c0
  have C153 := Lib.hid (bwrite_any d31 z no q ⟨#[97, 103, 97, 105, 110]⟩ w134 (HLA.out _ B145.out) F142.out ZI.out.1 ZI.out.2)
  unfold BJoinPost at C153
  try rw [L46.out] at C153
  try rw [E45.out] at C153
  rw [JW.out] at C153
  dsimp only at C153
  go_wp2_with (first | ((with_reducible refine wpList_load_by (o := ⟨some 107, .load 41 (.tmp 11), _, _, _, _⟩) ?e1 41 (.tmp 11) ?e2 ⟨w39.heap.size, 0, none⟩ ?e3 _ M151.out ?_); (case e1 => rfl); (case e2 => rfl); (case e3 => rfl)) | ((with_reducible refine wpList_load_by (o := ⟨some 108, .load 23 (.tmp 5), _, _, _, _⟩) ?e1 23 (.tmp 5) ?e2 ⟨(w.heap.size + 1), 0, none⟩ ?e3 _ M152.out ?_); (case e1 => rfl); (case e2 => rfl); (case e3 => rfl)))
  refine C153.out.mono ?_
  rintro e w154 ⟨d146, he147, hd148, hk149, hb155⟩
  have hl150 : d146.xs.length = 0 := by have h9 := congrArg List.length hd148; simpa [Bk.rs] using h9
  rw [hl150] at he147
  subst he147
  have T156 := Lib.hid (T136.out.below hb155 T136.out.lt)
  have T157 := Lib.hid (T137.out.below hb155 T137.out.lt)
  have T158 := Lib.hid (T138.out.below hb155 T138.out.lt)
  have T159 := Lib.hid (T139.out.below hb155 T139.out.lt)
  have T160 := Lib.hid (T140.out.below hb155 T140.out.lt)
  have F161 := Lib.hid (F141.out.below hb155 (Nat.le_refl _))
  have F162 := Lib.hid (F142.out.below hb155 (Nat.le_refl _))
  have F163 := Lib.hid (F143.out.below hb155 (Nat.le_refl _))
  have F164 := Lib.hid (F144.out.below hb155 (Nat.le_refl _))
  have B165 := Lib.hid (B145.out.trans (hb155.mono B145.out.size))
  clear hb155
  have E166 := Lib.hid (hd148)
  have L167 := Lib.hid (hl150)
  have F168 := Lib.hid (hk149)
  clear hd148 hk149 hl150
  clear c4 c11
  have hb169 := (Below.refl w154.heap.size w154).alloc (Nat.le_refl _) (.cells #[(.slice d146.A 0 d146.c)] 41)
  have T170 := Lib.hid (BoAt.new w154 (.slice d146.A 0 d146.c))
  have T171 := Lib.hid (T156.out.below hb169 T156.out.lt)
  have T172 := Lib.hid (T157.out.below hb169 T157.out.lt)
  have T173 := Lib.hid (T158.out.below hb169 T158.out.lt)
  have T174 := Lib.hid (T159.out.below hb169 T159.out.lt)
  have T175 := Lib.hid (T160.out.below hb169 T160.out.lt)
  have F176 := Lib.hid (F161.out.below hb169 (Nat.le_refl _))
  have F177 := Lib.hid (F162.out.below hb169 (Nat.le_refl _))
  have F178 := Lib.hid (F163.out.below hb169 (Nat.le_refl _))
  have F179 := Lib.hid (F164.out.below hb169 (Nat.le_refl _))
  have F180 := Lib.hid (F168.out.below hb169 (Nat.le_refl _))
  have B181 := Lib.hid (B165.out.trans (hb169.mono B165.out.size))
  clear hb169
  have Z182 := Lib.hid (bmay_fs E166.out MU.out)
  have M186 := Lib.hid (T170.out.load)
  have M187 := Lib.hid (load_arr16 T172.out)
  have C188 := Lib.hid (bfind_any d146 z (w154.alloc (.cells #[(.slice d146.A 0 d146.c)] 41)) F180.out ZI.out.1 ZI.out.2 Z182.out)
  unfold BFindPost at C188
  try rw [L167.out] at C188
  try rw [E166.out] at C188
  rw [BU.out] at C188
  try dsimp only [Option.isSome_some, Option.isSome_none, Option.getD_some, Option.getD_none] at C188
  go_wp2_with (first | ((with_reducible refine wpList_load_by (o := ⟨some 115, .load 41 (.tmp 17), _, _, _, _⟩) ?e1 41 (.tmp 17) ?e2 ⟨w154.heap.size, 0, none⟩ ?e3 _ M186.out ?_); (case e1 => rfl); (case e2 => rfl); (case e3 => rfl)) | ((with_reducible refine wpList_load_by (o := ⟨some 116, .load 23 (.tmp 5), _, _, _, _⟩) ?e1 23 (.tmp 5) ?e2 ⟨(w.heap.size + 1), 0, none⟩ ?e3 _ M187.out ?_); (case e1 => rfl); (case e2 => rfl); (case e3 => rfl)))
  refine C188.out.mono ?_
  rintro e w189 ⟨y183, rfl, hd184, hk185, hb190⟩
  have T191 := Lib.hid (T171.out.below hb190 T171.out.lt)
  have T192 := Lib.hid (T172.out.below hb190 T172.out.lt)
  have T193 := Lib.hid (T173.out.below hb190 T173.out.lt)
  have T194 := Lib.hid (T174.out.below hb190 T174.out.lt)
  have T195 := Lib.hid (T175.out.below hb190 T175.out.lt)
  have T196 := Lib.hid (T170.out.below hb190 T170.out.lt)
  have F197 := Lib.hid (F176.out.below hb190 (Nat.le_refl _))
  have F198 := Lib.hid (F177.out.below hb190 (Nat.le_refl _))
  have F199 := Lib.hid (F178.out.below hb190 (Nat.le_refl _))
  have F200 := Lib.hid (F179.out.below hb190 (Nat.le_refl _))
  have F201 := Lib.hid (F180.out.below hb190 (Nat.le_refl _))
  have B202 := Lib.hid (B181.out.trans (hb190.mono B181.out.size))
  clear hb190
  have E203 := Lib.hid (hd184)
  have F204 := Lib.hid (hk185)
  have Z205 := Lib.hid (hk185.len)
  clear hd184 hk185
  go_wp2_with (first | ((with_reducible refine wpList_store_newx (o := ⟨none, .store 28 (.tmp 19) (.tmp 118), _, _, _, _⟩) (w := w189) ?e1 (.tmp 19) (.tmp 118) ?e2 w189.heap.size ?e0 ?e3 y183 ?e4 Z205.out ?_); (case e1 => rfl); (case e2 => rfl); (case e0 => rfl); (case e3 => rfl); (case e4 => rfl); intro w206 hb207 hx208 hs209; have T210 := Lib.hid hx208; clear hx208 hs209; have T211 := Lib.hid (T191.out.below hb207 T191.out.lt); have T212 := Lib.hid (T192.out.below hb207 T192.out.lt); have T213 := Lib.hid (T193.out.below hb207 T193.out.lt); have T214 := Lib.hid (T194.out.below hb207 T194.out.lt); have T215 := Lib.hid (T195.out.below hb207 T195.out.lt); have T216 := Lib.hid (T196.out.below hb207 T196.out.lt); have F217 := Lib.hid (F197.out.below hb207 (Nat.le_refl _)); have F218 := Lib.hid (F198.out.below hb207 (Nat.le_refl _)); have F219 := Lib.hid (F199.out.below hb207 (Nat.le_refl _)); have F220 := Lib.hid (F200.out.below hb207 (Nat.le_refl _)); have F221 := Lib.hid (F201.out.below hb207 (Nat.le_refl _)); have F222 := Lib.hid (F204.out.below hb207 (Nat.le_refl _)); have B223 := Lib.hid (B202.out.trans (hb207.mono B202.out.size)); clear hb207; have M224 := Lib.hid (T210.out.load); have C225 := Lib.hid (xfind_any y183 no w206 F222.out); try rw [E203.out] at C225; rw [FR.out] at C225; try dsimp only [Option.isSome_some, Option.getD_some, Option.isSome_none, Option.getD_none, Cel.v, cel00] at C225) | ((with_reducible refine wpList_load_by (o := ⟨some 121, .load 28 (.tmp 19), _, _, _, _⟩) ?e1 28 (.tmp 19) ?e2 ⟨w189.heap.size, 0, none⟩ ?e3 _ M224.out ?_); (case e1 => rfl); (case e2 => rfl); (case e3 => rfl)))
  refine C225.out.mono ?_
  rintro e w226 ⟨rfl, hb227⟩
  have T228 := Lib.hid (T211.out.below hb227 T211.out.lt)
  have T229 := Lib.hid (T212.out.below hb227 T212.out.lt)
  have T230 := Lib.hid (T213.out.below hb227 T213.out.lt)
  have T231 := Lib.hid (T214.out.below hb227 T214.out.lt)
  have T232 := Lib.hid (T215.out.below hb227 T215.out.lt)
  have T233 := Lib.hid (T216.out.below hb227 T216.out.lt)
  have T234 := Lib.hid (T210.out.below hb227 T210.out.lt)
  have F235 := Lib.hid (F217.out.below hb227 (Nat.le_refl _))
  have F236 := Lib.hid (F218.out.below hb227 (Nat.le_refl _))
  have F237 := Lib.hid (F219.out.below hb227 (Nat.le_refl _))
  have F238 := Lib.hid (F220.out.below hb227 (Nat.le_refl _))
  have F239 := Lib.hid (F221.out.below hb227 (Nat.le_refl _))
  have F240 := Lib.hid (F222.out.below hb227 (Nat.le_refl _))
  have B241 := Lib.hid (B223.out.trans (hb227.mono B223.out.size))
  clear hb227
  have hb242 := (Below.refl w226.heap.size w226).alloc (Nat.le_refl _) (.cells #[.int .i64 0, .int .i64 0, .string ⟨#[]⟩] 32)
  have T243 := Lib.hid (ClAt.new w226 cel00)
  have T244 := Lib.hid (T228.out.below hb242 T228.out.lt)
  have T245 := Lib.hid (T229.out.below hb242 T229.out.lt)
  have T246 := Lib.hid (T230.out.below hb242 T230.out.lt)
  have T247 := Lib.hid (T231.out.below hb242 T231.out.lt)
  have T248 := Lib.hid (T232.out.below hb242 T232.out.lt)
  have T249 := Lib.hid (T233.out.below hb242 T233.out.lt)
  have T250 := Lib.hid (T234.out.below hb242 T234.out.lt)
  have F251 := Lib.hid (F235.out.below hb242 (Nat.le_refl _))
  have F252 := Lib.hid (F236.out.below hb242 (Nat.le_refl _))
  have F253 := Lib.hid (F237.out.below hb242 (Nat.le_refl _))
  have F254 := Lib.hid (F238.out.below hb242 (Nat.le_refl _))
  have F255 := Lib.hid (F239.out.below hb242 (Nat.le_refl _))
  have F256 := Lib.hid (F240.out.below hb242 (Nat.le_refl _))
  have B257 := Lib.hid (B241.out.trans (hb242.mono B241.out.size))
  clear hb242
  go_wp2
  go_ret
  exact ⟨rfl, B257.out⟩
set_option maxHeartbeats 16000000 in
theorem bkills_ok (b : Bk) (z : List Int) (q no : Int) (w : World) (hlaid : Laid w) (wb : BkAt w b) (wz : z.length = 16 ∧ AllBytes z) (X Y : List Rc) (r K U : Rc) (n2 r2 : Int) (iPB : fewB b.rs = true) (iMB : bmay b.rs = true) (iJK : bkill b.rs z q = (0, X)) (iMX : bmay X = true) (iHL : X.length = b.xs.length) (iBA : bat b.rs z = some r) (iBX : bat X z = some K) (iKL : K.fs.length = 0) (iSL : stLess r.n r.r K.n K.r = true) (iLX : bleq b.rs X = true) (iJW : bwrite X z no q ⟨#[97, 103, 97, 105, 110]⟩ = (0, Y)) (iMU : bmay Y = true) (iBU : bat Y z = some U) (iFR : rfind U.fs no = some ⟨n2, r2, ⟨#[97, 103, 97, 105, 110]⟩⟩) (iUL : U.fs.length = 1) (iUN : U.n = K.n) (iUR : U.r = K.r) :
    Calls Tryd.prog 8 #[.agg #[.slice b.A b.xs.length b.c], .agg (bvals z), .int .i64 q, .int .i64 no] w fun e w' => e = .returned (.bool true) ∧ Below w.heap.size w w' := by
  have HLA := Lib.hid (fun (X : World) (hX : Below w.heap.size w X) => hlaid.below hX (Nat.le_refl _))
  have Fb := Lib.hid wb
  have ZI := Lib.hid wz
  have hz := zeroX
  clear hlaid wb wz
  have PB := Lib.hid iPB
  have MB := Lib.hid iMB
  have JK := Lib.hid iJK
  have MX := Lib.hid iMX
  have HL := Lib.hid iHL
  have BA := Lib.hid iBA
  have BX := Lib.hid iBX
  have KL := Lib.hid iKL
  have SL := Lib.hid iSL
  have LX := Lib.hid iLX
  have JW := Lib.hid iJW
  have MU := Lib.hid iMU
  have BU := Lib.hid iBU
  have FR := Lib.hid iFR
  have UL := Lib.hid iUL
  have UN := Lib.hid iUN
  have UR := Lib.hid iUR
  have ZB := Lib.hid (fewB_fs iPB).2
  clear iPB iMB iJK iMX iHL iBA iBX iKL iSL iLX iJW iMU iBU iFR iUL iUN iUR
  have B1 := Lib.hid (Below.refl w.heap.size w)
  have T2n := BoAt.new w (.slice b.A b.xs.length b.c)
  have T2 := Lib.hid T2n
  clear T2n
  have B3 := Lib.hid (B1.out.alloc B1.out.size (.cells #[(.slice b.A b.xs.length b.c)] 41))
  have T4 := Lib.hid (T2.out.old (.cells (bvals z) 23))
  have T5n := IdAt.new (w.alloc (.cells #[(.slice b.A b.xs.length b.c)] 41)) ZI.out.1
  simp only [World.size_alloc] at T5n
  have T5 := Lib.hid T5n
  clear T5n
  have B6 := Lib.hid (B3.out.alloc B3.out.size (.cells (bvals z) 23))
  have F7 := Lib.hid (Fb.out.below B6.out (Nat.le_refl _))
  go_enter Tryd.func8, Tryd.ntmps8
  have C8 := Lib.hid (bkAwake ((w.alloc (.cells #[(.slice b.A b.xs.length b.c)] 41)).alloc (.cells (bvals z) 23)) (HLA.out _ B6.out))
  go_wp2_with fail
  refine C8.out.mono ?_
  rintro e w9 ⟨rfl, hb10⟩
  have T11 := Lib.hid (T4.out.below hb10 T4.out.lt)
  have T12 := Lib.hid (T5.out.below hb10 T5.out.lt)
  have F13 := Lib.hid (F7.out.below hb10 (Nat.le_refl _))
  have B14 := Lib.hid (B6.out.trans (hb10.mono B6.out.size))
  clear hb10
  have M15 := Lib.hid (T11.out.load)
  have C16 := Lib.hid (fewB_any b w9 F13.out)
  rw [PB.out] at C16
  go_wp2_with (first | ((with_reducible refine wpList_load_by (o := ⟨some 24, .load 41 (.tmp 4), _, _, _, _⟩) ?e1 41 (.tmp 4) ?e2 ⟨w.heap.size, 0, none⟩ ?e3 _ M15.out ?_); (case e1 => rfl); (case e2 => rfl); (case e3 => rfl)))
  refine C16.out.mono ?_
  rintro e w17 ⟨rfl, hb18⟩
  have T19 := Lib.hid (T11.out.below hb18 T11.out.lt)
  have T20 := Lib.hid (T12.out.below hb18 T12.out.lt)
  have F21 := Lib.hid (F13.out.below hb18 (Nat.le_refl _))
  have B22 := Lib.hid (B14.out.trans (hb18.mono B14.out.size))
  clear hb18
  have M23 := Lib.hid (T19.out.load)
  have C24 := Lib.hid (bmay_any b w17 F21.out)
  rw [MB.out] at C24
  go_wp2_with (first | ((with_reducible refine wpList_load_by (o := ⟨some 33, .load 41 (.tmp 4), _, _, _, _⟩) ?e1 41 (.tmp 4) ?e2 ⟨w.heap.size, 0, none⟩ ?e3 _ M23.out ?_); (case e1 => rfl); (case e2 => rfl); (case e3 => rfl)))
  refine C24.out.mono ?_
  rintro e w25 ⟨rfl, hb26⟩
  have T27 := Lib.hid (T19.out.below hb26 T19.out.lt)
  have T28 := Lib.hid (T20.out.below hb26 T20.out.lt)
  have F29 := Lib.hid (F21.out.below hb26 (Nat.le_refl _))
  have B30 := Lib.hid (B22.out.trans (hb26.mono B22.out.size))
  clear hb26
  have M36 := Lib.hid (T27.out.load)
  have M37 := Lib.hid (load_arr16 T28.out)
  have C38 := Lib.hid (bkill_any b z q w25 (HLA.out _ B30.out) F29.out ZI.out.1 ZI.out.2)
  unfold BJoinPost at C38
  rw [JK.out] at C38
  dsimp only at C38
  go_wp2_with (first | ((with_reducible refine wpList_load_by (o := ⟨some 39, .load 41 (.tmp 4), _, _, _, _⟩) ?e1 41 (.tmp 4) ?e2 ⟨w.heap.size, 0, none⟩ ?e3 _ M36.out ?_); (case e1 => rfl); (case e2 => rfl); (case e3 => rfl)) | ((with_reducible refine wpList_load_by (o := ⟨some 40, .load 23 (.tmp 5), _, _, _, _⟩) ?e1 23 (.tmp 5) ?e2 ⟨(w.heap.size + 1), 0, none⟩ ?e3 _ M37.out ?_); (case e1 => rfl); (case e2 => rfl); (case e3 => rfl)))
  refine C38.out.mono ?_
  rintro e w39 ⟨d31, he32, hd33, hk34, hb40⟩
  have hl35 : d31.xs.length = b.xs.length := by have h9 := congrArg List.length hd33; unfold Bk.rs at h9; rw [List.length_map] at h9; rw [h9]; exact HL.out
  rw [hl35] at he32
  subst he32
  have T41 := Lib.hid (T27.out.below hb40 T27.out.lt)
  have T42 := Lib.hid (T28.out.below hb40 T28.out.lt)
  have F43 := Lib.hid (F29.out.below hb40 (Nat.le_refl _))
  have B44 := Lib.hid (B30.out.trans (hb40.mono B30.out.size))
  clear hb40
  have E45 := Lib.hid (hd33)
  have L46 := Lib.hid (hl35)
  have F47 := Lib.hid (hk34)
  clear hd33 hk34 hl35
  have hb48 := (Below.refl w39.heap.size w39).alloc (Nat.le_refl _) (.cells #[(.slice d31.A b.xs.length d31.c)] 41)
  have T49 := Lib.hid (BoAt.new w39 (.slice d31.A b.xs.length d31.c))
  have T50 := Lib.hid (T41.out.below hb48 T41.out.lt)
  have T51 := Lib.hid (T42.out.below hb48 T42.out.lt)
  have F52 := Lib.hid (F43.out.below hb48 (Nat.le_refl _))
  have F53 := Lib.hid (F47.out.below hb48 (Nat.le_refl _))
  have B54 := Lib.hid (B44.out.trans (hb48.mono B44.out.size))
  clear hb48
  have Z55 := Lib.hid (bmay_fs E45.out MX.out)
  have M59 := Lib.hid (T50.out.load)
  have M60 := Lib.hid (load_arr16 T51.out)
  have C61 := Lib.hid (bfind_any b z (w39.alloc (.cells #[(.slice d31.A b.xs.length d31.c)] 41)) F52.out ZI.out.1 ZI.out.2 ZB.out)
  unfold BFindPost at C61
  rw [BA.out] at C61
  try dsimp only [Option.isSome_some, Option.isSome_none, Option.getD_some, Option.getD_none] at C61
  go_wp2_with (first | ((with_reducible refine wpList_load_by (o := ⟨some 46, .load 41 (.tmp 4), _, _, _, _⟩) ?e1 41 (.tmp 4) ?e2 ⟨w.heap.size, 0, none⟩ ?e3 _ M59.out ?_); (case e1 => rfl); (case e2 => rfl); (case e3 => rfl)) | ((with_reducible refine wpList_load_by (o := ⟨some 47, .load 23 (.tmp 5), _, _, _, _⟩) ?e1 23 (.tmp 5) ?e2 ⟨(w.heap.size + 1), 0, none⟩ ?e3 _ M60.out ?_); (case e1 => rfl); (case e2 => rfl); (case e3 => rfl)))
  refine C61.out.mono ?_
  rintro e w62 ⟨y56, rfl, hd57, hk58, hb63⟩
  have T64 := Lib.hid (T50.out.below hb63 T50.out.lt)
  have T65 := Lib.hid (T51.out.below hb63 T51.out.lt)
  have T66 := Lib.hid (T49.out.below hb63 T49.out.lt)
  have F67 := Lib.hid (F52.out.below hb63 (Nat.le_refl _))
  have F68 := Lib.hid (F53.out.below hb63 (Nat.le_refl _))
  have B69 := Lib.hid (B54.out.trans (hb63.mono B54.out.size))
  clear hb63
  have E70 := Lib.hid (hd57)
  have F71 := Lib.hid (hk58)
  have Z72 := Lib.hid (hk58.len)
  clear hd57 hk58
  go_wp2_with (first | ((with_reducible refine wpList_store_newx (o := ⟨none, .store 28 (.tmp 13) (.tmp 49), _, _, _, _⟩) (w := w62) ?e1 (.tmp 13) (.tmp 49) ?e2 w62.heap.size ?e0 ?e3 y56 ?e4 Z72.out ?_); (case e1 => rfl); (case e2 => rfl); (case e0 => rfl); (case e3 => rfl); (case e4 => rfl); intro w76 hb77 hx78 hs79; have T80 := Lib.hid hx78; clear hx78 hs79; have T81 := Lib.hid (T64.out.below hb77 T64.out.lt); have T82 := Lib.hid (T65.out.below hb77 T65.out.lt); have T83 := Lib.hid (T66.out.below hb77 T66.out.lt); have F84 := Lib.hid (F67.out.below hb77 (Nat.le_refl _)); have F85 := Lib.hid (F68.out.below hb77 (Nat.le_refl _)); have F86 := Lib.hid (F71.out.below hb77 (Nat.le_refl _)); have B87 := Lib.hid (B69.out.trans (hb77.mono B69.out.size)); clear hb77; have M88 := Lib.hid (T83.out.load); have M89 := Lib.hid (load_arr16 T82.out); have C90 := Lib.hid (bfind_any d31 z w76 F85.out ZI.out.1 ZI.out.2 Z55.out); unfold BFindPost at C90; try rw [L46.out] at C90; try rw [E45.out] at C90; rw [BX.out] at C90; try dsimp only [Option.isSome_some, Option.isSome_none, Option.getD_some, Option.getD_none] at C90) | ((with_reducible refine wpList_load_by (o := ⟨some 66, .load 41 (.tmp 11), _, _, _, _⟩) ?e1 41 (.tmp 11) ?e2 ⟨w39.heap.size, 0, none⟩ ?e3 _ M88.out ?_); (case e1 => rfl); (case e2 => rfl); (case e3 => rfl)) | ((with_reducible refine wpList_load_by (o := ⟨some 67, .load 23 (.tmp 5), _, _, _, _⟩) ?e1 23 (.tmp 5) ?e2 ⟨(w.heap.size + 1), 0, none⟩ ?e3 _ M89.out ?_); (case e1 => rfl); (case e2 => rfl); (case e3 => rfl)))
  refine C90.out.mono ?_
  rintro e w91 ⟨y73, rfl, hd74, hk75, hb92⟩
  have T93 := Lib.hid (T81.out.below hb92 T81.out.lt)
  have T94 := Lib.hid (T82.out.below hb92 T82.out.lt)
  have T95 := Lib.hid (T83.out.below hb92 T83.out.lt)
  have T96 := Lib.hid (T80.out.below hb92 T80.out.lt)
  have F97 := Lib.hid (F84.out.below hb92 (Nat.le_refl _))
  have F98 := Lib.hid (F85.out.below hb92 (Nat.le_refl _))
  have F99 := Lib.hid (F86.out.below hb92 (Nat.le_refl _))
  have B100 := Lib.hid (B87.out.trans (hb92.mono B87.out.size))
  clear hb92
  have E101 := Lib.hid (hd74)
  have F102 := Lib.hid (hk75)
  have Z103 := Lib.hid (hk75.len)
  clear hd74 hk75
  go_wp2_with (first | ((with_reducible refine wpList_store_newx (o := ⟨none, .store 28 (.tmp 15) (.tmp 69), _, _, _, _⟩) (w := w91) ?e1 (.tmp 15) (.tmp 69) ?e2 w91.heap.size ?e0 ?e3 y73 ?e4 Z103.out ?_); (case e1 => rfl); (case e2 => rfl); (case e0 => rfl); (case e3 => rfl); (case e4 => rfl); intro w104 hb105 hx106 hs107; have T108 := Lib.hid hx106; clear hx106 hs107; have T109 := Lib.hid (T93.out.below hb105 T93.out.lt); have T110 := Lib.hid (T94.out.below hb105 T94.out.lt); have T111 := Lib.hid (T95.out.below hb105 T95.out.lt); have T112 := Lib.hid (T96.out.below hb105 T96.out.lt); have F113 := Lib.hid (F97.out.below hb105 (Nat.le_refl _)); have F114 := Lib.hid (F98.out.below hb105 (Nat.le_refl _)); have F115 := Lib.hid (F99.out.below hb105 (Nat.le_refl _)); have F116 := Lib.hid (F102.out.below hb105 (Nat.le_refl _)); have B117 := Lib.hid (B100.out.trans (hb105.mono B100.out.size)); clear hb105; have x16 := T112.out.c16; have x17 := T112.out.c17; have y16 := T108.out.c16; have y17 := T108.out.c17; have y18 := T108.out.c18; rw [E70.out] at x16 x17; rw [E101.out] at y16 y17 y18; rw [KL.out] at y18; have C118 := Lib.hid (stLess_any r.n r.r K.n K.r w104); unfold st at C118; rw [SL.out] at C118))
  refine C118.out.mono ?_
  rintro e w119 ⟨rfl, hb120⟩
  have T121 := Lib.hid (T109.out.below hb120 T109.out.lt)
  have T122 := Lib.hid (T110.out.below hb120 T110.out.lt)
  have T123 := Lib.hid (T111.out.below hb120 T111.out.lt)
  have T124 := Lib.hid (T112.out.below hb120 T112.out.lt)
  have T125 := Lib.hid (T108.out.below hb120 T108.out.lt)
  have F126 := Lib.hid (F113.out.below hb120 (Nat.le_refl _))
  have F127 := Lib.hid (F114.out.below hb120 (Nat.le_refl _))
  have F128 := Lib.hid (F115.out.below hb120 (Nat.le_refl _))
  have F129 := Lib.hid (F116.out.below hb120 (Nat.le_refl _))
  have B130 := Lib.hid (B117.out.trans (hb120.mono B117.out.size))
  clear hb120
  clear x16 x17 y16 y17 y18
  have M131 := Lib.hid (T121.out.load)
  have M132 := Lib.hid (T123.out.load)
  have C133 := Lib.hid (bleq_any b d31 w119 (HLA.out _ B130.out) F126.out F127.out)
  try rw [L46.out] at C133
  try rw [E45.out] at C133
  rw [LX.out] at C133
  go_wp2_with (first | ((with_reducible refine wpList_load_by (o := ⟨some 92, .load 41 (.tmp 4), _, _, _, _⟩) ?e1 41 (.tmp 4) ?e2 ⟨w.heap.size, 0, none⟩ ?e3 _ M131.out ?_); (case e1 => rfl); (case e2 => rfl); (case e3 => rfl)) | ((with_reducible refine wpList_load_by (o := ⟨some 93, .load 41 (.tmp 11), _, _, _, _⟩) ?e1 41 (.tmp 11) ?e2 ⟨w39.heap.size, 0, none⟩ ?e3 _ M132.out ?_); (case e1 => rfl); (case e2 => rfl); (case e3 => rfl)))
  refine C133.out.mono ?_
  rintro e w134 ⟨rfl, hb135⟩
  have T136 := Lib.hid (T121.out.below hb135 T121.out.lt)
  have T137 := Lib.hid (T122.out.below hb135 T122.out.lt)
  have T138 := Lib.hid (T123.out.below hb135 T123.out.lt)
  have T139 := Lib.hid (T124.out.below hb135 T124.out.lt)
  have T140 := Lib.hid (T125.out.below hb135 T125.out.lt)
  have F141 := Lib.hid (F126.out.below hb135 (Nat.le_refl _))
  have F142 := Lib.hid (F127.out.below hb135 (Nat.le_refl _))
  have F143 := Lib.hid (F128.out.below hb135 (Nat.le_refl _))
  have F144 := Lib.hid (F129.out.below hb135 (Nat.le_refl _))
  have B145 := Lib.hid (B130.out.trans (hb135.mono B130.out.size))
  clear hb135
  have M149 := Lib.hid (T138.out.load)
  have M150 := Lib.hid (load_arr16 T137.out)
  have c4 := T136.out.c0
  have c11 := T138.out.c0
  have C151 := Lib.hid (bwrite_any d31 z no q ⟨#[97, 103, 97, 105, 110]⟩ w134 (HLA.out _ B145.out) F142.out ZI.out.1 ZI.out.2)
  unfold BJoinPost at C151
  try rw [L46.out] at C151
  try rw [E45.out] at C151
  rw [JW.out] at C151
  dsimp only at C151
  go_wp2_with (first | ((with_reducible refine wpList_load_by (o := ⟨some 107, .load 41 (.tmp 11), _, _, _, _⟩) ?e1 41 (.tmp 11) ?e2 ⟨w39.heap.size, 0, none⟩ ?e3 _ M149.out ?_); (case e1 => rfl); (case e2 => rfl); (case e3 => rfl)) | ((with_reducible refine wpList_load_by (o := ⟨some 108, .load 23 (.tmp 5), _, _, _, _⟩) ?e1 23 (.tmp 5) ?e2 ⟨(w.heap.size + 1), 0, none⟩ ?e3 _ M150.out ?_); (case e1 => rfl); (case e2 => rfl); (case e3 => rfl)))
  refine C151.out.mono ?_
  rintro e w152 ⟨d146, rfl, hd147, hk148, hb153⟩
  have T154 := Lib.hid (T136.out.below hb153 T136.out.lt)
  have T155 := Lib.hid (T137.out.below hb153 T137.out.lt)
  have T156 := Lib.hid (T138.out.below hb153 T138.out.lt)
  have T157 := Lib.hid (T139.out.below hb153 T139.out.lt)
  have T158 := Lib.hid (T140.out.below hb153 T140.out.lt)
  have F159 := Lib.hid (F141.out.below hb153 (Nat.le_refl _))
  have F160 := Lib.hid (F142.out.below hb153 (Nat.le_refl _))
  have F161 := Lib.hid (F143.out.below hb153 (Nat.le_refl _))
  have F162 := Lib.hid (F144.out.below hb153 (Nat.le_refl _))
  have B163 := Lib.hid (B145.out.trans (hb153.mono B145.out.size))
  clear hb153
  have E164 := Lib.hid (hd147)
  have F165 := Lib.hid (hk148)
  clear hd147 hk148
  clear c4 c11
  have hb166 := (Below.refl w152.heap.size w152).alloc (Nat.le_refl _) (.cells #[(.slice d146.A d146.xs.length d146.c)] 41)
  have T167 := Lib.hid (BoAt.new w152 (.slice d146.A d146.xs.length d146.c))
  have T168 := Lib.hid (T154.out.below hb166 T154.out.lt)
  have T169 := Lib.hid (T155.out.below hb166 T155.out.lt)
  have T170 := Lib.hid (T156.out.below hb166 T156.out.lt)
  have T171 := Lib.hid (T157.out.below hb166 T157.out.lt)
  have T172 := Lib.hid (T158.out.below hb166 T158.out.lt)
  have F173 := Lib.hid (F159.out.below hb166 (Nat.le_refl _))
  have F174 := Lib.hid (F160.out.below hb166 (Nat.le_refl _))
  have F175 := Lib.hid (F161.out.below hb166 (Nat.le_refl _))
  have F176 := Lib.hid (F162.out.below hb166 (Nat.le_refl _))
  have F177 := Lib.hid (F165.out.below hb166 (Nat.le_refl _))
  have B178 := Lib.hid (B163.out.trans (hb166.mono B163.out.size))
  clear hb166
  have Z179 := Lib.hid (bmay_fs E164.out MU.out)
  have M183 := Lib.hid (T167.out.load)
  have M184 := Lib.hid (load_arr16 T169.out)
  have C185 := Lib.hid (bfind_any d146 z (w152.alloc (.cells #[(.slice d146.A d146.xs.length d146.c)] 41)) F177.out ZI.out.1 ZI.out.2 Z179.out)
  unfold BFindPost at C185
  try rw [E164.out] at C185
  rw [BU.out] at C185
  try dsimp only [Option.isSome_some, Option.isSome_none, Option.getD_some, Option.getD_none] at C185
  go_wp2_with (first | ((with_reducible refine wpList_load_by (o := ⟨some 115, .load 41 (.tmp 17), _, _, _, _⟩) ?e1 41 (.tmp 17) ?e2 ⟨w152.heap.size, 0, none⟩ ?e3 _ M183.out ?_); (case e1 => rfl); (case e2 => rfl); (case e3 => rfl)) | ((with_reducible refine wpList_load_by (o := ⟨some 116, .load 23 (.tmp 5), _, _, _, _⟩) ?e1 23 (.tmp 5) ?e2 ⟨(w.heap.size + 1), 0, none⟩ ?e3 _ M184.out ?_); (case e1 => rfl); (case e2 => rfl); (case e3 => rfl)))
  refine C185.out.mono ?_
  rintro e w186 ⟨y180, rfl, hd181, hk182, hb187⟩
  have T188 := Lib.hid (T168.out.below hb187 T168.out.lt)
  have T189 := Lib.hid (T169.out.below hb187 T169.out.lt)
  have T190 := Lib.hid (T170.out.below hb187 T170.out.lt)
  have T191 := Lib.hid (T171.out.below hb187 T171.out.lt)
  have T192 := Lib.hid (T172.out.below hb187 T172.out.lt)
  have T193 := Lib.hid (T167.out.below hb187 T167.out.lt)
  have F194 := Lib.hid (F173.out.below hb187 (Nat.le_refl _))
  have F195 := Lib.hid (F174.out.below hb187 (Nat.le_refl _))
  have F196 := Lib.hid (F175.out.below hb187 (Nat.le_refl _))
  have F197 := Lib.hid (F176.out.below hb187 (Nat.le_refl _))
  have F198 := Lib.hid (F177.out.below hb187 (Nat.le_refl _))
  have B199 := Lib.hid (B178.out.trans (hb187.mono B178.out.size))
  clear hb187
  have E200 := Lib.hid (hd181)
  have F201 := Lib.hid (hk182)
  have Z202 := Lib.hid (hk182.len)
  clear hd181 hk182
  go_wp2_with (first | ((with_reducible refine wpList_store_newx (o := ⟨none, .store 28 (.tmp 19) (.tmp 118), _, _, _, _⟩) (w := w186) ?e1 (.tmp 19) (.tmp 118) ?e2 w186.heap.size ?e0 ?e3 y180 ?e4 Z202.out ?_); (case e1 => rfl); (case e2 => rfl); (case e0 => rfl); (case e3 => rfl); (case e4 => rfl); intro w203 hb204 hx205 hs206; have T207 := Lib.hid hx205; clear hx205 hs206; have T208 := Lib.hid (T188.out.below hb204 T188.out.lt); have T209 := Lib.hid (T189.out.below hb204 T189.out.lt); have T210 := Lib.hid (T190.out.below hb204 T190.out.lt); have T211 := Lib.hid (T191.out.below hb204 T191.out.lt); have T212 := Lib.hid (T192.out.below hb204 T192.out.lt); have T213 := Lib.hid (T193.out.below hb204 T193.out.lt); have F214 := Lib.hid (F194.out.below hb204 (Nat.le_refl _)); have F215 := Lib.hid (F195.out.below hb204 (Nat.le_refl _)); have F216 := Lib.hid (F196.out.below hb204 (Nat.le_refl _)); have F217 := Lib.hid (F197.out.below hb204 (Nat.le_refl _)); have F218 := Lib.hid (F198.out.below hb204 (Nat.le_refl _)); have F219 := Lib.hid (F201.out.below hb204 (Nat.le_refl _)); have B220 := Lib.hid (B199.out.trans (hb204.mono B199.out.size)); clear hb204; have M221 := Lib.hid (T207.out.load); have C222 := Lib.hid (xfind_any y180 no w203 F219.out); try rw [E200.out] at C222; rw [FR.out] at C222; try dsimp only [Option.isSome_some, Option.getD_some, Option.isSome_none, Option.getD_none, Cel.v, cel00] at C222) | ((with_reducible refine wpList_load_by (o := ⟨some 121, .load 28 (.tmp 19), _, _, _, _⟩) ?e1 28 (.tmp 19) ?e2 ⟨w186.heap.size, 0, none⟩ ?e3 _ M221.out ?_); (case e1 => rfl); (case e2 => rfl); (case e3 => rfl)))
  refine C222.out.mono ?_
  rintro e w223 ⟨rfl, hb224⟩
  have T225 := Lib.hid (T208.out.below hb224 T208.out.lt)
  have T226 := Lib.hid (T209.out.below hb224 T209.out.lt)
  have T227 := Lib.hid (T210.out.below hb224 T210.out.lt)
  have T228 := Lib.hid (T211.out.below hb224 T211.out.lt)
  have T229 := Lib.hid (T212.out.below hb224 T212.out.lt)
  have T230 := Lib.hid (T213.out.below hb224 T213.out.lt)
  have T231 := Lib.hid (T207.out.below hb224 T207.out.lt)
  have F232 := Lib.hid (F214.out.below hb224 (Nat.le_refl _))
  have F233 := Lib.hid (F215.out.below hb224 (Nat.le_refl _))
  have F234 := Lib.hid (F216.out.below hb224 (Nat.le_refl _))
  have F235 := Lib.hid (F217.out.below hb224 (Nat.le_refl _))
  have F236 := Lib.hid (F218.out.below hb224 (Nat.le_refl _))
  have F237 := Lib.hid (F219.out.below hb224 (Nat.le_refl _))
  have B238 := Lib.hid (B220.out.trans (hb224.mono B220.out.size))
  clear hb224
  have hb239 := (Below.refl w223.heap.size w223).alloc (Nat.le_refl _) (.cells #[.int .i64 n2, .int .i64 r2, .string ⟨#[97, 103, 97, 105, 110]⟩] 32)
  have T240 := Lib.hid (ClAt.new w223 ⟨n2, r2, ⟨#[97, 103, 97, 105, 110]⟩⟩)
  have T241 := Lib.hid (T225.out.below hb239 T225.out.lt)
  have T242 := Lib.hid (T226.out.below hb239 T226.out.lt)
  have T243 := Lib.hid (T227.out.below hb239 T227.out.lt)
  have T244 := Lib.hid (T228.out.below hb239 T228.out.lt)
  have T245 := Lib.hid (T229.out.below hb239 T229.out.lt)
  have T246 := Lib.hid (T230.out.below hb239 T230.out.lt)
  have T247 := Lib.hid (T231.out.below hb239 T231.out.lt)
  have F248 := Lib.hid (F232.out.below hb239 (Nat.le_refl _))
  have F249 := Lib.hid (F233.out.below hb239 (Nat.le_refl _))
  have F250 := Lib.hid (F234.out.below hb239 (Nat.le_refl _))
  have F251 := Lib.hid (F235.out.below hb239 (Nat.le_refl _))
  have F252 := Lib.hid (F236.out.below hb239 (Nat.le_refl _))
  have F253 := Lib.hid (F237.out.below hb239 (Nat.le_refl _))
  have B254 := Lib.hid (B238.out.trans (hb239.mono B238.out.size))
  clear hb239
  have s2 := T240.out.c2
  have y16 := T245.out.c16
  have y17 := T245.out.c17
  have v16 := T247.out.c16
  have v17 := T247.out.c17
  have v18 := T247.out.c18
  have sp := fun w9 => (same_pair (n := K.n) (r := K.r) (m := K.n) (s := K.r) w9).trans (by rw [decide_eq_true ⟨rfl, rfl⟩])
  rw [E101.out] at y16 y17
  rw [E200.out] at v16 v17 v18
  rw [UN.out] at v16
  rw [UR.out] at v17
  rw [UL.out] at v18
  go_wp2
  go_ret
  exact ⟨rfl, B254.out⟩
theorem walk_bookKills (b : Bk) (z : List Int) (q no : Int) (w : World) (hlaid : Laid w) (wb : BkAt w b) (wz : z.length = 16 ∧ AllBytes z) :
    Calls Tryd.prog 8 #[.agg #[.slice b.A b.xs.length b.c], .agg (bvals z), .int .i64 q, .int .i64 no] w fun e w' => e = .returned (.bool true) ∧ Below w.heap.size w w' := by
  cases p : fewB b.rs
  · exact bkills_few b z q no w hlaid wb wz p
  · cases m : bmay b.rs
    · exact bkills_may b z q no w hlaid wb wz p m
    · cases hq : mayR q
      · exact bkills_e1 b z q no w hlaid wb wz p m (by unfold bkill; rw [m, hq]; rfl)
      · cases hb : bat b.rs z with
        | none => exact bkills_e6 b z q no w hlaid wb wz p m (by unfold bkill; rw [m, hq, hb]; rfl) hb
        | some r =>
          have hk : bkill b.rs z q = if (bnext b.rs q).2.2 = 0 then bjE b.rs [krec z (bnext b.rs q)] else ((bnext b.rs q).2.2, []) := by unfold bkill; rw [m, hq, hb]; rfl
          rcases bnext_err b.rs q with e | e | e
          · rw [if_pos e] at hk
            obtain ⟨t1, t2, t3, t4⟩ := bnext_ok e
            have hrz := bat_some hb
            have hur := blast_ge hrz.1
            have km := krec_may (z := z) t1 t2
            obtain ⟨j1, j2, j3, j4, j5⟩ := join_in (r := krec z (bnext b.rs q)) m km hb
            rw [jn_krec hrz.2 hur t4] at j3
            rw [j1] at hk
            have j3 : bat (bjoin b.rs [krec z (bnext b.rs q)]) z = some (krec z (bnext b.rs q)) := j3
            have j4 : (bjoin b.rs [krec z (bnext b.rs q)]).length = b.xs.length := by rw [j4]; unfold Bk.rs; rw [List.length_map]
            have sl : stLess r.n r.r (krec z (bnext b.rs q)).n (krec z (bnext b.rs q)).r = true := t4 _ hur.1
            generalize bjoin b.rs [krec z (bnext b.rs q)] = X at hk j2 j3 j4 j5
            cases ho : bwok X no q ⟨#[97, 103, 97, 105, 110]⟩
            · exact bkills_w1 b z q no w hlaid wb wz X r _ p m hk j2 j4 hb j3 rfl sl j5 (by unfold bwrite; rw [ho]; rfl) bmay_nil rfl rfl
            · have hw : bwrite X z no q ⟨#[97, 103, 97, 105, 110]⟩ = if (bnext X q).2.2 = 0 then bjE X [wrec z no (bnext X q) ⟨#[97, 103, 97, 105, 110]⟩] else ((bnext X q).2.2, []) := by unfold bwrite; rw [ho]; rfl
              rcases bnext_err X q with e2 | e2 | e2
              · rw [if_pos e2] at hw
                obtain ⟨u1, u2, u3, u4⟩ := bnext_ok e2
                unfold bwok at ho
                simp only [Bool.and_eq_true, decide_eq_true_eq] at ho
                have wm := wrec_may (z := z) (s := ⟨#[97, 103, 97, 105, 110]⟩) u1 u2 ho.1.1.1.2 ho.1.1.2 (by decide)
                obtain ⟨k1, k2, k3, k4, k5⟩ := join_in (r := wrec z no (bnext X q) ⟨#[97, 103, 97, 105, 110]⟩) j2 wm j3
                have hlt := u4 _ (blast_ge (bat_some j3).1).1
                rw [jn_wrec t1 t2 u1 u2 ho.1.1.1.2 ho.1.1.2 (by decide) hlt] at k3
                rw [k1] at hw
                exact bkills_ok b z q no w hlaid wb wz X _ r _ _ _ _ p m hk j2 j4 hb j3 rfl sl j5 hw k2 k3 (by unfold urec; rw [rfind_cons, if_pos rfl]) rfl rfl rfl
              · rw [if_neg (by omega), e2] at hw
                exact bkills_w1 b z q no w hlaid wb wz X r _ p m hk j2 j4 hb j3 rfl sl j5 hw bmay_nil rfl rfl
              · rw [if_neg (by omega), e2] at hw
                exact bkills_w4 b z q no w hlaid wb wz X r _ p m hk j2 j4 hb j3 rfl sl j5 hw bmay_nil rfl rfl
          · rw [if_neg (by omega), e] at hk
            exact bkills_e1 b z q no w hlaid wb wz p m hk
          · rw [if_neg (by omega), e] at hk
            exact bkills_e4 b z q no w hlaid wb wz p m hk
end Go.Proofs.YtepapdnchpolmaaDoor

