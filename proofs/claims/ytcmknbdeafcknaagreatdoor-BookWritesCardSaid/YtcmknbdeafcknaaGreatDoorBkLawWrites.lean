import Derived.Test.YtcmknbdeafcknaaGreatDoorBkAwake
import Derived.Test.YtcmknbdeafcknaaGreatDoorGArgs
import Derived.Test.YtcmknbdeafcknaaGreatDoorBkFew
import Derived.Test.YtcmknbdeafcknaaGreatDoorGBkN
import Derived.Test.YtcmknbdeafcknaaGreatDoorGBkW
/-
  The law BookWrites: for every book, name, number, replica and value it answers true, and nothing that was there is written.
-/
namespace Go.Proofs.YtcmknbdeafcknaaGreatDoor
open Go.RowKit Go.Shelf WM
set_option linter.unusedVariables false
set_option maxRecDepth 100000
theorem bjE_small' {rs one : List Rc} {d : Bk} (h : d.rs = (bjE rs one).2) : d.xs.length ≤ 1000 ∧ ∀ x ∈ d.xs, x.R.fs.length ≤ 1000 := by
  have e : ∀ l : List Rc, Bk.rs ⟨l.map (fun R => ⟨R, none, 0⟩), none, 0⟩ = l := fun l => by unfold Bk.rs; rw [List.map_map]; exact List.map_id l
  exact bjE_small (a := ⟨rs.map (fun R => ⟨R, none, 0⟩), none, 0⟩) (b := ⟨one.map (fun R => ⟨R, none, 0⟩), none, 0⟩) (by rw [e, e]; exact h)
theorem nil_small {d : Bk} (h : d.rs = []) : d.xs.length ≤ 1000 ∧ ∀ x ∈ d.xs, x.R.fs.length ≤ 1000 := by
  have h9 := congrArg List.length h
  unfold Bk.rs at h9
  rw [List.length_map] at h9
  have h0 : d.xs = [] := List.eq_nil_of_length_eq_zero h9
  rw [h0]
  exact ⟨Nat.zero_le _, fun x hx => by cases hx⟩
theorem bwrite_small {rs : List Rc} {z : List Int} {no q : Int} {v : ByteArray} {d : Bk} (h : d.rs = (bwrite rs z no q v).2) : d.xs.length ≤ 1000 ∧ ∀ x ∈ d.xs, x.R.fs.length ≤ 1000 := by
  unfold bwrite at h
  split at h
  · split at h
    · exact bjE_small' h
    · exact nil_small h
  · exact nil_small h
theorem bkill_small {rs : List Rc} {z : List Int} {q : Int} {d : Bk} (h : d.rs = (bkill rs z q).2) : d.xs.length ≤ 1000 ∧ ∀ x ∈ d.xs, x.R.fs.length ≤ 1000 := by
  unfold bkill at h
  split at h
  · split at h
    · split at h
      · exact bjE_small' h
      · exact nil_small h
    · exact nil_small h
  · exact nil_small h
theorem fewB_fs9 {b : Bk} (h : fewB b.rs = true) : b.xs.length ≤ 1000 ∧ ∀ x ∈ b.xs, x.R.fs.length ≤ 1000 := ⟨by have := (fewB_fs h).1; omega, (fewB_fs h).2⟩
set_option maxHeartbeats 16000000 in
theorem bwrites_few (b : Bk) (z : List Int) (no q : Int) (v : ByteArray) (w : World) (hlaid : Laid w) (wb : BkAt w b) (wz : z.length = 16 ∧ AllBytes z) (h : fewB b.rs = false) :
    Calls Tryz.prog 4 #[.agg #[.slice b.A b.xs.length b.c], .agg (bvals z), .int .i64 no, .int .i64 q, .string v] w fun e w' => e = .returned (.bool true) ∧ Below w.heap.size w w' := by
  have HLA := Lib.hid (fun (X : World) (hX : Below w.heap.size w X) => hlaid.below hX (Nat.le_refl _))
  have Fb := Lib.hid wb
  have ZI := Lib.hid wz
  have hz := zeroX
  have hzb := zeroBook
  unfold Bk.v Bk.s bk0 at hzb
  dsimp only [List.length_nil] at hzb
  clear hlaid wb wz
  have PB := Lib.hid h
  clear h
  have B1 := Lib.hid (Below.refl w.heap.size w)
  have T2n := BoAt.new w (.slice b.A b.xs.length b.c)
  have T2 := Lib.hid T2n
  clear T2n
  have B3 := Lib.hid (B1.out.alloc B1.out.size (.cells #[(.slice b.A b.xs.length b.c)] 24))
  have T4 := Lib.hid (T2.out.old (.cells (bvals z) 26))
  have T5n := IdAt.new (w.alloc (.cells #[(.slice b.A b.xs.length b.c)] 24)) ZI.out.1
  simp only [World.size_alloc] at T5n
  have T5 := Lib.hid T5n
  clear T5n
  have B6 := Lib.hid (B3.out.alloc B3.out.size (.cells (bvals z) 26))
  have F7 := Lib.hid (Fb.out.below B6.out (Nat.le_refl _))
  go_enter Tryz.func4, Tryz.ntmps4
  have C8 := Lib.hid (bkAwake ((w.alloc (.cells #[(.slice b.A b.xs.length b.c)] 24)).alloc (.cells (bvals z) 26)) (HLA.out _ B6.out))
  go_wp2_with fail
  refine C8.out.mono ?_
  rintro e w9 ⟨rfl, hb10⟩
  have T11 := Lib.hid (T4.out.below hb10 T4.out.lt)
  have T12 := Lib.hid (T5.out.below hb10 T5.out.lt)
  have F13 := Lib.hid (F7.out.below hb10 (Nat.le_refl _))
  have B14 := Lib.hid (B6.out.trans (hb10.mono B6.out.size))
  clear hb10
  have M15 := Lib.hid (T11.out.load)
  have C16 := Lib.hid (fewB_any b w9 F13.out)
  rw [PB.out] at C16
  go_wp2_with (first | ((with_reducible refine wpList_load_by (o := ⟨some 24, .load 24 (.tmp 5), _, _, _, _⟩) ?e1 24 (.tmp 5) ?e2 ⟨w.heap.size, 0, none⟩ ?e3 _ M15.out ?_); (case e1 => rfl); (case e2 => rfl); (case e3 => rfl)))
  refine C16.out.mono ?_
  rintro e w17 ⟨rfl, hb18⟩
  have T19 := Lib.hid (T11.out.below hb18 T11.out.lt)
  have T20 := Lib.hid (T12.out.below hb18 T12.out.lt)
  have F21 := Lib.hid (F13.out.below hb18 (Nat.le_refl _))
  have B22 := Lib.hid (B14.out.trans (hb18.mono B14.out.size))
  clear hb18
  go_wp2
  go_ret
  exact ⟨rfl, B22.out⟩
set_option maxHeartbeats 16000000 in
theorem bwrites_long (b : Bk) (z : List Int) (no q : Int) (v : ByteArray) (w : World) (hlaid : Laid w) (wb : BkAt w b) (wz : z.length = 16 ∧ AllBytes z) (h : fewB b.rs = true) (t3 : (300 : Int) < (v.size : Int)) :
    Calls Tryz.prog 4 #[.agg #[.slice b.A b.xs.length b.c], .agg (bvals z), .int .i64 no, .int .i64 q, .string v] w fun e w' => e = .returned (.bool true) ∧ Below w.heap.size w w' := by
  have HLA := Lib.hid (fun (X : World) (hX : Below w.heap.size w X) => hlaid.below hX (Nat.le_refl _))
  have Fb := Lib.hid wb
  have ZI := Lib.hid wz
  have hz := zeroX
  have hzb := zeroBook
  unfold Bk.v Bk.s bk0 at hzb
  dsimp only [List.length_nil] at hzb
  clear hlaid wb wz
  have PB := Lib.hid h
  clear h
  have B1 := Lib.hid (Below.refl w.heap.size w)
  have T2n := BoAt.new w (.slice b.A b.xs.length b.c)
  have T2 := Lib.hid T2n
  clear T2n
  have B3 := Lib.hid (B1.out.alloc B1.out.size (.cells #[(.slice b.A b.xs.length b.c)] 24))
  have T4 := Lib.hid (T2.out.old (.cells (bvals z) 26))
  have T5n := IdAt.new (w.alloc (.cells #[(.slice b.A b.xs.length b.c)] 24)) ZI.out.1
  simp only [World.size_alloc] at T5n
  have T5 := Lib.hid T5n
  clear T5n
  have B6 := Lib.hid (B3.out.alloc B3.out.size (.cells (bvals z) 26))
  have F7 := Lib.hid (Fb.out.below B6.out (Nat.le_refl _))
  go_enter Tryz.func4, Tryz.ntmps4
  have C8 := Lib.hid (bkAwake ((w.alloc (.cells #[(.slice b.A b.xs.length b.c)] 24)).alloc (.cells (bvals z) 26)) (HLA.out _ B6.out))
  go_wp2_with fail
  refine C8.out.mono ?_
  rintro e w9 ⟨rfl, hb10⟩
  have T11 := Lib.hid (T4.out.below hb10 T4.out.lt)
  have T12 := Lib.hid (T5.out.below hb10 T5.out.lt)
  have F13 := Lib.hid (F7.out.below hb10 (Nat.le_refl _))
  have B14 := Lib.hid (B6.out.trans (hb10.mono B6.out.size))
  clear hb10
  have M15 := Lib.hid (T11.out.load)
  have C16 := Lib.hid (fewB_any b w9 F13.out)
  rw [PB.out] at C16
  go_wp2_with (first | ((with_reducible refine wpList_load_by (o := ⟨some 24, .load 24 (.tmp 5), _, _, _, _⟩) ?e1 24 (.tmp 5) ?e2 ⟨w.heap.size, 0, none⟩ ?e3 _ M15.out ?_); (case e1 => rfl); (case e2 => rfl); (case e3 => rfl)))
  refine C16.out.mono ?_
  rintro e w17 ⟨rfl, hb18⟩
  have T19 := Lib.hid (T11.out.below hb18 T11.out.lt)
  have T20 := Lib.hid (T12.out.below hb18 T12.out.lt)
  have F21 := Lib.hid (F13.out.below hb18 (Nat.le_refl _))
  have B22 := Lib.hid (B14.out.trans (hb18.mono B14.out.size))
  clear hb18
  go_wp2
  go_ret
  exact ⟨rfl, B22.out⟩
set_option maxHeartbeats 16000000 in
theorem bwrites_yes (b : Bk) (z : List Int) (no q : Int) (v : ByteArray) (w : World) (hlaid : Laid w) (wb : BkAt w b) (wz : z.length = 16 ∧ AllBytes z) (h : fewB b.rs = true) (t3 : ¬ (300 : Int) < (v.size : Int)) :
    Calls Tryz.prog 4 #[.agg #[.slice b.A b.xs.length b.c], .agg (bvals z), .int .i64 no, .int .i64 q, .string v] w fun e w' => e = .returned (.bool true) ∧ Below w.heap.size w w' := by
  have HLA := Lib.hid (fun (X : World) (hX : Below w.heap.size w X) => hlaid.below hX (Nat.le_refl _))
  have Fb := Lib.hid wb
  have ZI := Lib.hid wz
  have hz := zeroX
  have hzb := zeroBook
  unfold Bk.v Bk.s bk0 at hzb
  dsimp only [List.length_nil] at hzb
  clear hlaid wb wz
  have PB := Lib.hid h
  have ZB := Lib.hid (fewB_fs9 h)
  have HSS := Lib.hid (show v.size ≤ 1000 by omega)
  have S1 : Hid (bsame (bwrite b.rs z no q v).2 (bwrite b.rs z no q v).2 = true) := Lib.hid (bsame_self _)
  have S2 : Hid (bsame (bkill b.rs z q).2 (bkill b.rs z q).2 = true) := Lib.hid (bsame_self _)
  clear h
  have B1 := Lib.hid (Below.refl w.heap.size w)
  have T2n := BoAt.new w (.slice b.A b.xs.length b.c)
  have T2 := Lib.hid T2n
  clear T2n
  have B3 := Lib.hid (B1.out.alloc B1.out.size (.cells #[(.slice b.A b.xs.length b.c)] 24))
  have T4 := Lib.hid (T2.out.old (.cells (bvals z) 26))
  have T5n := IdAt.new (w.alloc (.cells #[(.slice b.A b.xs.length b.c)] 24)) ZI.out.1
  simp only [World.size_alloc] at T5n
  have T5 := Lib.hid T5n
  clear T5n
  have B6 := Lib.hid (B3.out.alloc B3.out.size (.cells (bvals z) 26))
  have F7 := Lib.hid (Fb.out.below B6.out (Nat.le_refl _))
  go_enter Tryz.func4, Tryz.ntmps4
  have C8 := Lib.hid (bkAwake ((w.alloc (.cells #[(.slice b.A b.xs.length b.c)] 24)).alloc (.cells (bvals z) 26)) (HLA.out _ B6.out))
  go_wp2_with fail
  refine C8.out.mono ?_
  rintro e w9 ⟨rfl, hb10⟩
  have T11 := Lib.hid (T4.out.below hb10 T4.out.lt)
  have T12 := Lib.hid (T5.out.below hb10 T5.out.lt)
  have F13 := Lib.hid (F7.out.below hb10 (Nat.le_refl _))
  have B14 := Lib.hid (B6.out.trans (hb10.mono B6.out.size))
  clear hb10
  have M15 := Lib.hid (T11.out.load)
  have C16 := Lib.hid (fewB_any b w9 F13.out)
  rw [PB.out] at C16
  go_wp2_with (first | ((with_reducible refine wpList_load_by (o := ⟨some 24, .load 24 (.tmp 5), _, _, _, _⟩) ?e1 24 (.tmp 5) ?e2 ⟨w.heap.size, 0, none⟩ ?e3 _ M15.out ?_); (case e1 => rfl); (case e2 => rfl); (case e3 => rfl)))
  refine C16.out.mono ?_
  rintro e w17 ⟨rfl, hb18⟩
  have T19 := Lib.hid (T11.out.below hb18 T11.out.lt)
  have T20 := Lib.hid (T12.out.below hb18 T12.out.lt)
  have F21 := Lib.hid (F13.out.below hb18 (Nat.le_refl _))
  have B22 := Lib.hid (B14.out.trans (hb18.mono B14.out.size))
  clear hb18
  have M26 := Lib.hid (T19.out.load)
  have M27 := Lib.hid (load_arr16 T20.out)
  have C28 := Lib.hid (bwrite_any b z no q v w17 (HLA.out _ B22.out) F21.out ZI.out.1 ZI.out.2)
  unfold BJoinPost at C28
  go_wp2_with (first | ((with_reducible refine wpList_load_by (o := ⟨some 39, .load 24 (.tmp 5), _, _, _, _⟩) ?e1 24 (.tmp 5) ?e2 ⟨w.heap.size, 0, none⟩ ?e3 _ M26.out ?_); (case e1 => rfl); (case e2 => rfl); (case e3 => rfl)) | ((with_reducible refine wpList_load_by (o := ⟨some 40, .load 26 (.tmp 6), _, _, _, _⟩) ?e1 26 (.tmp 6) ?e2 ⟨(w.heap.size + 1), 0, none⟩ ?e3 _ M27.out ?_); (case e1 => rfl); (case e2 => rfl); (case e3 => rfl)))
  refine C28.out.mono ?_
  rintro e w29 ⟨d23, rfl, hd24, hk25, hb30⟩
  have T31 := Lib.hid (T19.out.below hb30 T19.out.lt)
  have T32 := Lib.hid (T20.out.below hb30 T20.out.lt)
  have F33 := Lib.hid (F21.out.below hb30 (Nat.le_refl _))
  have B34 := Lib.hid (B22.out.trans (hb30.mono B22.out.size))
  clear hb30
  have E35 := Lib.hid (hd24)
  have F36 := Lib.hid (hk25)
  clear hd24 hk25
  have hb37 := (Below.refl w29.heap.size w29).alloc (Nat.le_refl _) (.cells #[(.slice d23.A d23.xs.length d23.c)] 24)
  have T38 := Lib.hid (BoAt.new w29 (.slice d23.A d23.xs.length d23.c))
  have T39 := Lib.hid (T31.out.below hb37 T31.out.lt)
  have T40 := Lib.hid (T32.out.below hb37 T32.out.lt)
  have F41 := Lib.hid (F33.out.below hb37 (Nat.le_refl _))
  have F42 := Lib.hid (F36.out.below hb37 (Nat.le_refl _))
  have B43 := Lib.hid (B34.out.trans (hb37.mono B34.out.size))
  clear hb37
  have M47 := Lib.hid (T39.out.load)
  have M48 := Lib.hid (load_arr16 T40.out)
  have C49 := Lib.hid (rbwrite_any b z no q v (w29.alloc (.cells #[(.slice d23.A d23.xs.length d23.c)] 24)) F41.out ZB.out.1 ZB.out.2 ZI.out.1 ZI.out.2 HSS.out)
  unfold BJoinPost at C49
  go_wp2_with (first | ((with_reducible refine wpList_load_by (o := ⟨some 48, .load 24 (.tmp 5), _, _, _, _⟩) ?e1 24 (.tmp 5) ?e2 ⟨w.heap.size, 0, none⟩ ?e3 _ M47.out ?_); (case e1 => rfl); (case e2 => rfl); (case e3 => rfl)) | ((with_reducible refine wpList_load_by (o := ⟨some 49, .load 26 (.tmp 6), _, _, _, _⟩) ?e1 26 (.tmp 6) ?e2 ⟨(w.heap.size + 1), 0, none⟩ ?e3 _ M48.out ?_); (case e1 => rfl); (case e2 => rfl); (case e3 => rfl)))
  refine C49.out.mono ?_
  rintro e w50 ⟨d44, rfl, hd45, hk46, hb51⟩
  have T52 := Lib.hid (T39.out.below hb51 T39.out.lt)
  have T53 := Lib.hid (T40.out.below hb51 T40.out.lt)
  have T54 := Lib.hid (T38.out.below hb51 T38.out.lt)
  have F55 := Lib.hid (F41.out.below hb51 (Nat.le_refl _))
  have F56 := Lib.hid (F42.out.below hb51 (Nat.le_refl _))
  have B57 := Lib.hid (B43.out.trans (hb51.mono B43.out.size))
  clear hb51
  have E58 := Lib.hid (hd45)
  have F59 := Lib.hid (hk46)
  clear hd45 hk46
  have hb60 := (Below.refl w50.heap.size w50).alloc (Nat.le_refl _) (.cells #[(.slice d44.A d44.xs.length d44.c)] 24)
  have T61 := Lib.hid (BoAt.new w50 (.slice d44.A d44.xs.length d44.c))
  have T62 := Lib.hid (T52.out.below hb60 T52.out.lt)
  have T63 := Lib.hid (T53.out.below hb60 T53.out.lt)
  have T64 := Lib.hid (T54.out.below hb60 T54.out.lt)
  have F65 := Lib.hid (F55.out.below hb60 (Nat.le_refl _))
  have F66 := Lib.hid (F56.out.below hb60 (Nat.le_refl _))
  have F67 := Lib.hid (F59.out.below hb60 (Nat.le_refl _))
  have B68 := Lib.hid (B57.out.trans (hb60.mono B57.out.size))
  clear hb60
  have M72 := Lib.hid (T62.out.load)
  have M73 := Lib.hid (load_arr16 T63.out)
  have C74 := Lib.hid (bkill_any b z q (w50.alloc (.cells #[(.slice d44.A d44.xs.length d44.c)] 24)) (HLA.out _ B68.out) F65.out ZI.out.1 ZI.out.2)
  unfold BJoinPost at C74
  go_wp2_with (first | ((with_reducible refine wpList_load_by (o := ⟨some 57, .load 24 (.tmp 5), _, _, _, _⟩) ?e1 24 (.tmp 5) ?e2 ⟨w.heap.size, 0, none⟩ ?e3 _ M72.out ?_); (case e1 => rfl); (case e2 => rfl); (case e3 => rfl)) | ((with_reducible refine wpList_load_by (o := ⟨some 58, .load 26 (.tmp 6), _, _, _, _⟩) ?e1 26 (.tmp 6) ?e2 ⟨(w.heap.size + 1), 0, none⟩ ?e3 _ M73.out ?_); (case e1 => rfl); (case e2 => rfl); (case e3 => rfl)))
  refine C74.out.mono ?_
  rintro e w75 ⟨d69, rfl, hd70, hk71, hb76⟩
  have T77 := Lib.hid (T62.out.below hb76 T62.out.lt)
  have T78 := Lib.hid (T63.out.below hb76 T63.out.lt)
  have T79 := Lib.hid (T64.out.below hb76 T64.out.lt)
  have T80 := Lib.hid (T61.out.below hb76 T61.out.lt)
  have F81 := Lib.hid (F65.out.below hb76 (Nat.le_refl _))
  have F82 := Lib.hid (F66.out.below hb76 (Nat.le_refl _))
  have F83 := Lib.hid (F67.out.below hb76 (Nat.le_refl _))
  have B84 := Lib.hid (B68.out.trans (hb76.mono B68.out.size))
  clear hb76
  have E85 := Lib.hid (hd70)
  have F86 := Lib.hid (hk71)
  clear hd70 hk71
  have hb87 := (Below.refl w75.heap.size w75).alloc (Nat.le_refl _) (.cells #[(.slice d69.A d69.xs.length d69.c)] 24)
  have T88 := Lib.hid (BoAt.new w75 (.slice d69.A d69.xs.length d69.c))
  have T89 := Lib.hid (T77.out.below hb87 T77.out.lt)
  have T90 := Lib.hid (T78.out.below hb87 T78.out.lt)
  have T91 := Lib.hid (T79.out.below hb87 T79.out.lt)
  have T92 := Lib.hid (T80.out.below hb87 T80.out.lt)
  have F93 := Lib.hid (F81.out.below hb87 (Nat.le_refl _))
  have F94 := Lib.hid (F82.out.below hb87 (Nat.le_refl _))
  have F95 := Lib.hid (F83.out.below hb87 (Nat.le_refl _))
  have F96 := Lib.hid (F86.out.below hb87 (Nat.le_refl _))
  have B97 := Lib.hid (B84.out.trans (hb87.mono B84.out.size))
  clear hb87
  have M101 := Lib.hid (T89.out.load)
  have M102 := Lib.hid (load_arr16 T90.out)
  have C103 := Lib.hid (rbkill_any b z q (w75.alloc (.cells #[(.slice d69.A d69.xs.length d69.c)] 24)) F93.out ZB.out.1 ZB.out.2 ZI.out.1 ZI.out.2)
  unfold BJoinPost at C103
  go_wp2_with (first | ((with_reducible refine wpList_load_by (o := ⟨some 64, .load 24 (.tmp 5), _, _, _, _⟩) ?e1 24 (.tmp 5) ?e2 ⟨w.heap.size, 0, none⟩ ?e3 _ M101.out ?_); (case e1 => rfl); (case e2 => rfl); (case e3 => rfl)) | ((with_reducible refine wpList_load_by (o := ⟨some 65, .load 26 (.tmp 6), _, _, _, _⟩) ?e1 26 (.tmp 6) ?e2 ⟨(w.heap.size + 1), 0, none⟩ ?e3 _ M102.out ?_); (case e1 => rfl); (case e2 => rfl); (case e3 => rfl)))
  refine C103.out.mono ?_
  rintro e w104 ⟨d98, rfl, hd99, hk100, hb105⟩
  have T106 := Lib.hid (T89.out.below hb105 T89.out.lt)
  have T107 := Lib.hid (T90.out.below hb105 T90.out.lt)
  have T108 := Lib.hid (T91.out.below hb105 T91.out.lt)
  have T109 := Lib.hid (T92.out.below hb105 T92.out.lt)
  have T110 := Lib.hid (T88.out.below hb105 T88.out.lt)
  have F111 := Lib.hid (F93.out.below hb105 (Nat.le_refl _))
  have F112 := Lib.hid (F94.out.below hb105 (Nat.le_refl _))
  have F113 := Lib.hid (F95.out.below hb105 (Nat.le_refl _))
  have F114 := Lib.hid (F96.out.below hb105 (Nat.le_refl _))
  have B115 := Lib.hid (B97.out.trans (hb105.mono B97.out.size))
  clear hb105
  have E116 := Lib.hid (hd99)
  have F117 := Lib.hid (hk100)
  clear hd99 hk100
  have hb118 := (Below.refl w104.heap.size w104).alloc (Nat.le_refl _) (.cells #[(.slice d98.A d98.xs.length d98.c)] 24)
  have T119 := Lib.hid (BoAt.new w104 (.slice d98.A d98.xs.length d98.c))
  have T120 := Lib.hid (T106.out.below hb118 T106.out.lt)
  have T121 := Lib.hid (T107.out.below hb118 T107.out.lt)
  have T122 := Lib.hid (T108.out.below hb118 T108.out.lt)
  have T123 := Lib.hid (T109.out.below hb118 T109.out.lt)
  have T124 := Lib.hid (T110.out.below hb118 T110.out.lt)
  have F125 := Lib.hid (F111.out.below hb118 (Nat.le_refl _))
  have F126 := Lib.hid (F112.out.below hb118 (Nat.le_refl _))
  have F127 := Lib.hid (F113.out.below hb118 (Nat.le_refl _))
  have F128 := Lib.hid (F114.out.below hb118 (Nat.le_refl _))
  have F129 := Lib.hid (F117.out.below hb118 (Nat.le_refl _))
  have B130 := Lib.hid (B115.out.trans (hb118.mono B115.out.size))
  clear hb118
  have Z131 := Lib.hid (bwrite_small E35.out)
  have Z132 := Lib.hid (bkill_small E85.out)
  have M133 := Lib.hid (T122.out.load)
  have M134 := Lib.hid (T123.out.load)
  have C135 := Lib.hid (rbsame_any d23 d44 (w104.alloc (.cells #[(.slice d98.A d98.xs.length d98.c)] 24)) F126.out F127.out Z131.out.2 Z131.out.1)
  try rw [E35.out] at C135
  try rw [E58.out] at C135
  rw [S1.out] at C135
  go_wp2_with (first | ((with_reducible refine wpList_load_by (o := ⟨some 70, .load 24 (.tmp 13), _, _, _, _⟩) ?e1 24 (.tmp 13) ?e2 ⟨w29.heap.size, 0, none⟩ ?e3 _ M133.out ?_); (case e1 => rfl); (case e2 => rfl); (case e3 => rfl)) | ((with_reducible refine wpList_load_by (o := ⟨some 71, .load 24 (.tmp 15), _, _, _, _⟩) ?e1 24 (.tmp 15) ?e2 ⟨w50.heap.size, 0, none⟩ ?e3 _ M134.out ?_); (case e1 => rfl); (case e2 => rfl); (case e3 => rfl)))
  refine C135.out.mono ?_
  rintro e w136 ⟨rfl, hb137⟩
  have T138 := Lib.hid (T120.out.below hb137 T120.out.lt)
  have T139 := Lib.hid (T121.out.below hb137 T121.out.lt)
  have T140 := Lib.hid (T122.out.below hb137 T122.out.lt)
  have T141 := Lib.hid (T123.out.below hb137 T123.out.lt)
  have T142 := Lib.hid (T124.out.below hb137 T124.out.lt)
  have T143 := Lib.hid (T119.out.below hb137 T119.out.lt)
  have F144 := Lib.hid (F125.out.below hb137 (Nat.le_refl _))
  have F145 := Lib.hid (F126.out.below hb137 (Nat.le_refl _))
  have F146 := Lib.hid (F127.out.below hb137 (Nat.le_refl _))
  have F147 := Lib.hid (F128.out.below hb137 (Nat.le_refl _))
  have F148 := Lib.hid (F129.out.below hb137 (Nat.le_refl _))
  have B149 := Lib.hid (B130.out.trans (hb137.mono B130.out.size))
  clear hb137
  have M150 := Lib.hid (T142.out.load)
  have M151 := Lib.hid (T143.out.load)
  have C152 := Lib.hid (rbsame_any d69 d98 w136 F147.out F148.out Z132.out.2 Z132.out.1)
  try rw [E85.out] at C152
  try rw [E116.out] at C152
  rw [S2.out] at C152
  go_wp2_with (first | ((with_reducible refine wpList_load_by (o := ⟨some 73, .load 24 (.tmp 17), _, _, _, _⟩) ?e1 24 (.tmp 17) ?e2 ⟨w75.heap.size, 0, none⟩ ?e3 _ M150.out ?_); (case e1 => rfl); (case e2 => rfl); (case e3 => rfl)) | ((with_reducible refine wpList_load_by (o := ⟨some 74, .load 24 (.tmp 19), _, _, _, _⟩) ?e1 24 (.tmp 19) ?e2 ⟨w104.heap.size, 0, none⟩ ?e3 _ M151.out ?_); (case e1 => rfl); (case e2 => rfl); (case e3 => rfl)))
  refine C152.out.mono ?_
  rintro e w153 ⟨rfl, hb154⟩
  have T155 := Lib.hid (T138.out.below hb154 T138.out.lt)
  have T156 := Lib.hid (T139.out.below hb154 T139.out.lt)
  have T157 := Lib.hid (T140.out.below hb154 T140.out.lt)
  have T158 := Lib.hid (T141.out.below hb154 T141.out.lt)
  have T159 := Lib.hid (T142.out.below hb154 T142.out.lt)
  have T160 := Lib.hid (T143.out.below hb154 T143.out.lt)
  have F161 := Lib.hid (F144.out.below hb154 (Nat.le_refl _))
  have F162 := Lib.hid (F145.out.below hb154 (Nat.le_refl _))
  have F163 := Lib.hid (F146.out.below hb154 (Nat.le_refl _))
  have F164 := Lib.hid (F147.out.below hb154 (Nat.le_refl _))
  have F165 := Lib.hid (F148.out.below hb154 (Nat.le_refl _))
  have B166 := Lib.hid (B149.out.trans (hb154.mono B149.out.size))
  clear hb154
  go_wp2
  go_ret
  exact ⟨rfl, B166.out⟩
theorem walk_bookWrites (b : Bk) (z : List Int) (no q : Int) (v : ByteArray) (w : World) (hlaid : Laid w) (wb : BkAt w b) (wz : z.length = 16 ∧ AllBytes z) (ws : v.size ≤ maxLen) :
    Calls Tryz.prog 4 #[.agg #[.slice b.A b.xs.length b.c], .agg (bvals z), .int .i64 no, .int .i64 q, .string v] w fun e w' => e = .returned (.bool true) ∧ Below w.heap.size w w' := by
  cases p : fewB b.rs
  · exact bwrites_few b z no q v w hlaid wb wz p
  · by_cases t : (300 : Int) < (v.size : Int)
    · exact bwrites_long b z no q v w hlaid wb wz p t
    · exact bwrites_yes b z no q v w hlaid wb wz p t
end Go.Proofs.YtcmknbdeafcknaaGreatDoor

