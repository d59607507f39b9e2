import Derived.Test.YtcmknbdeafcknaaDoorGRcJoin
/-
  The laws' own 'awake' of layer 6 answers true, whatever the world (with the tables as they are laid), and writes nothing that was there.
-/
namespace Go.Proofs.YtcmknbdeafcknaaDoor
open Go.RowKit WM
set_option linter.unusedVariables false
set_option maxRecDepth 100000
def recA : Rc := ⟨z16, 0, 0, [⟨2, ⟨3, 0, ⟨#[120]⟩⟩⟩]⟩
def recB : Rc := ⟨z16, 4, 0, []⟩
theorem built_fs (v : Value) (A : Option Addr) (l c : Nat) : Tryd.prog.built 28 [(2, .slice A l c)] = some (rcells z16 0 0 (.slice A l c)) := by kernel_rfl
theorem built_dead (n r : Int) : Tryd.prog.built 28 [(1, .agg #[.int .i64 n, .int .i64 r])] = some (rcells z16 n r (.slice none 0 0)) := by kernel_rfl
theorem build_fs (A : Option Addr) (l c : Nat) (w : World) : (Instr.build 28 #[(2, .slice A l c)]).run Tryd.prog w = .ok (.agg (rcells z16 0 0 (.slice A l c))) w := run_build w _ _ _ (built_fs undef A l c)
theorem build_dead (n r : Int) (w : World) : (Instr.build 28 #[(1, .agg #[.int .i64 n, .int .i64 r])]).run Tryd.prog w = .ok (.agg (rcells z16 n r (.slice none 0 0))) w := run_build w _ _ _ (built_dead n r)
/-- One field in a block that was just laid. -/
theorem fs_one (w : World) (f : Fld) : FsAt (w.alloc (.cells #[.int .i64 f.no, .int .i64 f.c.n, .int .i64 f.c.r, .string f.c.s] 40)) (some ⟨w.heap.size, 0, none⟩) 1 [f] := by
  have hF := FlAt.new w f
  refine ⟨Nat.le_refl _, by decide, fun h => (by cases h), fun _ => ⟨w.heap.size, 0, rfl, hF.lt, fun i hi => ?_⟩⟩
  obtain rfl : i = 0 := by simpa using hi
  exact ⟨hF.c0, hF.c1, hF.c2, hF.c3⟩
theorem recA_ok : recA.Ok := ⟨z16_len, z16_bytes⟩
theorem recB_ok : recB.Ok := ⟨z16_len, z16_bytes⟩
theorem join_AB : recA.join recB = some recB := rfl
theorem join_BA : recB.join recA = some recB := rfl
theorem same_BB : recB.same recB = true := Rc.same_iff.2 rfl
theorem leq_AB : recA.leq recB = true := by
  rw [Rc.leq_eq, join_AB]
  simp [same_BB]
theorem leq_BA : recB.leq recA = false := by
  rw [Rc.leq_eq, join_BA]
  simp only [Option.isSome_some, Option.getD_some, Bool.true_and]
  cases h : recB.same recA
  · rfl
  · exact absurd (Rc.same_iff.1 h) (by unfold recA recB; simp)
set_option maxHeartbeats 4000000 in
theorem rcAwake (w : World) (hlaid : Laid w) : Calls Tryd.prog 4 #[] w fun e w' => e = .returned (.bool true) ∧ Below w.heap.size w w' := by
  have HLA := Lib.hid (fun (X : World) (hX : Below w.heap.size w X) => hlaid.below hX (Nat.le_refl _))
  have OKa := Lib.hid recA_ok
  have OKb := Lib.hid recB_ok
  have JAB := Lib.hid join_AB
  have FA := Lib.hid (show rfind recA.fs 2 = some ⟨3, 0, ⟨#[120]⟩⟩ from rfl)
  have SB := Lib.hid same_BB
  have LAB := Lib.hid leq_AB
  have LBA := Lib.hid leq_BA
  have MA := Lib.hid (show recA.may = true from rfl)
  have hz := zeroRec
  have hbf := build_fs
  have hbd := build_dead
  unfold rv at hz
  clear hlaid
  have B1 := Lib.hid ((Below.refl w.heap.size w).alloc (Nat.le_refl _) (.cells #[.int .i64 2, .int .i64 3, .int .i64 0, .string ⟨#[120]⟩] 40))
  have F2 := Lib.hid (fs_one w ⟨2, ⟨3, 0, ⟨#[120]⟩⟩⟩)
  have F3 := Lib.hid (FsAt.nil (w.alloc (.cells #[.int .i64 2, .int .i64 3, .int .i64 0, .string ⟨#[120]⟩] 40)) none 0 (by decide) (fun _ => rfl))
  go_enter Tryd.func4, Tryd.ntmps4
  go_wp2_with (first | ((with_reducible refine wpList_store_new (o := ⟨none, .store 28 (.tmp 1) (.tmp 11), _, _, _, _⟩) (w := (w.alloc (.cells #[.int .i64 2, .int .i64 3, .int .i64 0, .string ⟨#[120]⟩] 40))) ?e1 (.tmp 1) (.tmp 11) ?e2 (w.heap.size + 1) (by simp) ?e3 recA.z recA.n recA.r (.slice (some ⟨w.heap.size, 0, none⟩) recA.fs.length 1) ?e4 OKa.out.len ?e5 ?_); (case e1 => rfl); (case e2 => rfl); (case e3 => rfl); (case e4 => rfl); (case e5 => rfl); intro w4 hb5 hRs; have T6 := Lib.hid hRs; clear hRs; have F7 := Lib.hid (F2.out.below hb5 (Nat.le_refl _)); have F8 := Lib.hid (F3.out.below hb5 (Nat.le_refl _)); have B9 := Lib.hid (B1.out.trans (hb5.mono B1.out.size)); clear hb5) | ((with_reducible refine wpList_store_new (o := ⟨none, .store 28 (.tmp 2) (.tmp 13), _, _, _, _⟩) (w := w4) ?e1 (.tmp 2) (.tmp 13) ?e2 w4.heap.size rfl ?e3 recB.z recB.n recB.r (.slice none recB.fs.length 0) ?e4 OKb.out.len ?e5 ?_); (case e1 => rfl); (case e2 => rfl); (case e3 => rfl); (case e4 => rfl); (case e5 => rfl); intro w13 hb14 hRs; have T15 := Lib.hid hRs; clear hRs; have T16 := Lib.hid (T6.out.below hb14 T6.out.lt); have F17 := Lib.hid (F7.out.below hb14 (Nat.le_refl _)); have F18 := Lib.hid (F8.out.below hb14 (Nat.le_refl _)); have B19 := Lib.hid (B9.out.trans (hb14.mono B9.out.size)); clear hb14; have M20 := Lib.hid (load_rec T16.out); unfold rv at M20; have M21 := Lib.hid (load_rec T15.out); unfold rv at M21; have C22 := Lib.hid (join_any recA recB (some ⟨w.heap.size, 0, none⟩) none 1 0 w13 (HLA.out _ B19.out) OKa.out OKb.out F17.out F18.out); unfold JoinPost Rc.v at C22; unfold rv at C22; rw [JAB.out] at C22; dsimp only [Option.getD, Option.isSome] at C22) | ((with_reducible refine wpList_load_by (o := ⟨some 15, .load 28 (.tmp 1), _, _, _, _⟩) ?e1 28 (.tmp 1) ?e2 ⟨(w.heap.size + 1), 0, none⟩ ?e3 _ M20.out ?_); (case e1 => rfl); (case e2 => rfl); (case e3 => rfl)) | ((with_reducible refine wpList_load_by (o := ⟨some 16, .load 28 (.tmp 2), _, _, _, _⟩) ?e1 28 (.tmp 2) ?e2 ⟨w4.heap.size, 0, none⟩ ?e3 _ M21.out ?_); (case e1 => rfl); (case e2 => rfl); (case e3 => rfl)))
  refine C22.out.mono ?_
  rintro e w23 ⟨A10, c11, rfl, hf12, hb24⟩
  have T25 := Lib.hid (T16.out.below hb24 T16.out.lt)
  have T26 := Lib.hid (T15.out.below hb24 T15.out.lt)
  have F27 := Lib.hid (F17.out.below hb24 (Nat.le_refl _))
  have F28 := Lib.hid (F18.out.below hb24 (Nat.le_refl _))
  have B29 := Lib.hid (B19.out.trans (hb24.mono B19.out.size))
  clear hb24
  have F30 := Lib.hid (hf12)
  clear hf12
  go_wp2_with (first | ((with_reducible refine wpList_store_new (o := ⟨none, .store 28 (.tmp 3) (.tmp 18), _, _, _, _⟩) (w := w23) ?e1 (.tmp 3) (.tmp 18) ?e2 w23.heap.size rfl ?e3 recB.z recB.n recB.r (.slice A10 recB.fs.length c11) ?e4 OKb.out.len ?e5 ?_); (case e1 => rfl); (case e2 => rfl); (case e3 => rfl); (case e4 => rfl); (case e5 => rfl); intro w31 hb32 hRs; have T33 := Lib.hid hRs; clear hRs; have T34 := Lib.hid (T25.out.below hb32 T25.out.lt); have T35 := Lib.hid (T26.out.below hb32 T26.out.lt); have F36 := Lib.hid (F27.out.below hb32 (Nat.le_refl _)); have F37 := Lib.hid (F28.out.below hb32 (Nat.le_refl _)); have F38 := Lib.hid (F30.out.below hb32 (Nat.le_refl _)); have B39 := Lib.hid (B29.out.trans (hb32.mono B29.out.size)); clear hb32; have M40 := Lib.hid (load_rec T34.out); unfold rv at M40; have C41 := Lib.hid (find_any' recA (some ⟨w.heap.size, 0, none⟩) 1 2 w31 OKa.out F36.out); unfold FindPost Rc.v at C41; unfold rv at C41; rw [FA.out] at C41; dsimp only [Option.getD, Option.isSome, Cel.v] at C41) | ((with_reducible refine wpList_load_by (o := ⟨some 21, .load 28 (.tmp 1), _, _, _, _⟩) ?e1 28 (.tmp 1) ?e2 ⟨(w.heap.size + 1), 0, none⟩ ?e3 _ M40.out ?_); (case e1 => rfl); (case e2 => rfl); (case e3 => rfl)))
  refine C41.out.mono ?_
  rintro e w42 ⟨rfl, hb43⟩
  have T44 := Lib.hid (T34.out.below hb43 T34.out.lt)
  have T45 := Lib.hid (T35.out.below hb43 T35.out.lt)
  have T46 := Lib.hid (T33.out.below hb43 T33.out.lt)
  have F47 := Lib.hid (F36.out.below hb43 (Nat.le_refl _))
  have F48 := Lib.hid (F37.out.below hb43 (Nat.le_refl _))
  have F49 := Lib.hid (F38.out.below hb43 (Nat.le_refl _))
  have B50 := Lib.hid (B39.out.trans (hb43.mono B39.out.size))
  clear hb43
  have hb51 := (Below.refl w42.heap.size w42).alloc (Nat.le_refl _) (.cells #[.int .i64 3, .int .i64 0, .string ⟨#[120]⟩] 32)
  have T52 := Lib.hid (ClAt.new w42 (⟨3, 0, ⟨#[120]⟩⟩ : Cel))
  try dsimp only at T52
  have T53 := Lib.hid (T44.out.below hb51 T44.out.lt)
  have T54 := Lib.hid (T45.out.below hb51 T45.out.lt)
  have T55 := Lib.hid (T46.out.below hb51 T46.out.lt)
  have F56 := Lib.hid (F47.out.below hb51 (Nat.le_refl _))
  have F57 := Lib.hid (F48.out.below hb51 (Nat.le_refl _))
  have F58 := Lib.hid (F49.out.below hb51 (Nat.le_refl _))
  have B59 := Lib.hid (B50.out.trans (hb51.mono B50.out.size))
  clear hb51
  have M60 := Lib.hid (load_rec T55.out)
  unfold rv at M60
  have M61 := Lib.hid (load_rec T54.out)
  unfold rv at M61
  have C62 := Lib.hid (same_any' recB recB A10 none c11 0 (w42.alloc (.cells #[.int .i64 3, .int .i64 0, .string ⟨#[120]⟩] 32)) OKb.out OKb.out F58.out F57.out)
  unfold Rc.v at C62
  unfold rv at C62
  rw [SB.out] at C62
  go_wp2_with (first | ((with_reducible refine wpList_load_by (o := ⟨some 27, .load 28 (.tmp 3), _, _, _, _⟩) ?e1 28 (.tmp 3) ?e2 ⟨w23.heap.size, 0, none⟩ ?e3 _ M60.out ?_); (case e1 => rfl); (case e2 => rfl); (case e3 => rfl)) | ((with_reducible refine wpList_load_by (o := ⟨some 28, .load 28 (.tmp 2), _, _, _, _⟩) ?e1 28 (.tmp 2) ?e2 ⟨w4.heap.size, 0, none⟩ ?e3 _ M61.out ?_); (case e1 => rfl); (case e2 => rfl); (case e3 => rfl)))
  refine C62.out.mono ?_
  rintro e w63 ⟨rfl, hb64⟩
  have T65 := Lib.hid (T53.out.below hb64 T53.out.lt)
  have T66 := Lib.hid (T54.out.below hb64 T54.out.lt)
  have T67 := Lib.hid (T55.out.below hb64 T55.out.lt)
  have T68 := Lib.hid (T52.out.below hb64 T52.out.lt)
  have F69 := Lib.hid (F56.out.below hb64 (Nat.le_refl _))
  have F70 := Lib.hid (F57.out.below hb64 (Nat.le_refl _))
  have F71 := Lib.hid (F58.out.below hb64 (Nat.le_refl _))
  have B72 := Lib.hid (B59.out.trans (hb64.mono B59.out.size))
  clear hb64
  have M73 := Lib.hid (load_rec T65.out)
  unfold rv at M73
  have M74 := Lib.hid (load_rec T66.out)
  unfold rv at M74
  have C75 := Lib.hid (leq_any recA recB (some ⟨w.heap.size, 0, none⟩) none 1 0 w63 (HLA.out _ B72.out) OKa.out OKb.out F69.out F70.out)
  unfold Rc.v at C75
  unfold rv at C75
  rw [LAB.out] at C75
  go_wp2_with (first | ((with_reducible refine wpList_load_by (o := ⟨some 32, .load 28 (.tmp 1), _, _, _, _⟩) ?e1 28 (.tmp 1) ?e2 ⟨(w.heap.size + 1), 0, none⟩ ?e3 _ M73.out ?_); (case e1 => rfl); (case e2 => rfl); (case e3 => rfl)) | ((with_reducible refine wpList_load_by (o := ⟨some 33, .load 28 (.tmp 2), _, _, _, _⟩) ?e1 28 (.tmp 2) ?e2 ⟨w4.heap.size, 0, none⟩ ?e3 _ M74.out ?_); (case e1 => rfl); (case e2 => rfl); (case e3 => rfl)))
  refine C75.out.mono ?_
  rintro e w76 ⟨rfl, hb77⟩
  have T78 := Lib.hid (T65.out.below hb77 T65.out.lt)
  have T79 := Lib.hid (T66.out.below hb77 T66.out.lt)
  have T80 := Lib.hid (T67.out.below hb77 T67.out.lt)
  have T81 := Lib.hid (T68.out.below hb77 T68.out.lt)
  have F82 := Lib.hid (F69.out.below hb77 (Nat.le_refl _))
  have F83 := Lib.hid (F70.out.below hb77 (Nat.le_refl _))
  have F84 := Lib.hid (F71.out.below hb77 (Nat.le_refl _))
  have B85 := Lib.hid (B72.out.trans (hb77.mono B72.out.size))
  clear hb77
  have M86 := Lib.hid (load_rec T79.out)
  unfold rv at M86
  have M87 := Lib.hid (load_rec T78.out)
  unfold rv at M87
  have C88 := Lib.hid (leq_any recB recA none (some ⟨w.heap.size, 0, none⟩) 0 1 w76 (HLA.out _ B85.out) OKb.out OKa.out F83.out F82.out)
  unfold Rc.v at C88
  unfold rv at C88
  rw [LBA.out] at C88
  go_wp2_with (first | ((with_reducible refine wpList_load_by (o := ⟨some 37, .load 28 (.tmp 2), _, _, _, _⟩) ?e1 28 (.tmp 2) ?e2 ⟨w4.heap.size, 0, none⟩ ?e3 _ M86.out ?_); (case e1 => rfl); (case e2 => rfl); (case e3 => rfl)) | ((with_reducible refine wpList_load_by (o := ⟨some 38, .load 28 (.tmp 1), _, _, _, _⟩) ?e1 28 (.tmp 1) ?e2 ⟨(w.heap.size + 1), 0, none⟩ ?e3 _ M87.out ?_); (case e1 => rfl); (case e2 => rfl); (case e3 => rfl)))
  refine C88.out.mono ?_
  rintro e w89 ⟨rfl, hb90⟩
  have T91 := Lib.hid (T78.out.below hb90 T78.out.lt)
  have T92 := Lib.hid (T79.out.below hb90 T79.out.lt)
  have T93 := Lib.hid (T80.out.below hb90 T80.out.lt)
  have T94 := Lib.hid (T81.out.below hb90 T81.out.lt)
  have F95 := Lib.hid (F82.out.below hb90 (Nat.le_refl _))
  have F96 := Lib.hid (F83.out.below hb90 (Nat.le_refl _))
  have F97 := Lib.hid (F84.out.below hb90 (Nat.le_refl _))
  have B98 := Lib.hid (B85.out.trans (hb90.mono B85.out.size))
  clear hb90
  have k2 := T94.out.c2
  have M99 := Lib.hid (load_rec T91.out)
  unfold rv at M99
  have C100 := Lib.hid (may_any' recA (some ⟨w.heap.size, 0, none⟩) 1 w89 OKa.out F95.out)
  unfold Rc.v at C100
  unfold rv at C100
  rw [MA.out] at C100
  go_wp2_with (first | ((with_reducible refine wpList_load_by (o := ⟨some 51, .load 28 (.tmp 1), _, _, _, _⟩) ?e1 28 (.tmp 1) ?e2 ⟨(w.heap.size + 1), 0, none⟩ ?e3 _ M99.out ?_); (case e1 => rfl); (case e2 => rfl); (case e3 => rfl)))
  refine C100.out.mono ?_
  rintro e w101 ⟨rfl, hb102⟩
  have T103 := Lib.hid (T91.out.below hb102 T91.out.lt)
  have T104 := Lib.hid (T92.out.below hb102 T92.out.lt)
  have T105 := Lib.hid (T93.out.below hb102 T93.out.lt)
  have T106 := Lib.hid (T94.out.below hb102 T94.out.lt)
  have F107 := Lib.hid (F95.out.below hb102 (Nat.le_refl _))
  have F108 := Lib.hid (F96.out.below hb102 (Nat.le_refl _))
  have F109 := Lib.hid (F97.out.below hb102 (Nat.le_refl _))
  have B110 := Lib.hid (B98.out.trans (hb102.mono B98.out.size))
  clear hb102
  go_wp2
  go_ret
  exact ⟨rfl, B110.out⟩
end Go.Proofs.YtcmknbdeafcknaaDoor

