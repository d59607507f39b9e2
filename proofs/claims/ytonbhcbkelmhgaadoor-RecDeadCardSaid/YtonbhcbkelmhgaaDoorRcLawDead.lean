/-
  The law RecDead: for every record, every stamp and every field it answers true, and nothing that was there is written.
-/
import Derived.Test.YtonbhcbkelmhgaaDoorRcDead
namespace Go.Proofs.YtonbhcbkelmhgaaDoor
open Go.RowKit WM
set_option linter.unusedVariables false
set_option maxRecDepth 100000
set_option maxHeartbeats 16000000 in
theorem dead_few (a : Rc) (A : Option Addr) (ca : Nat) (n r : Int) (f : Fld) (w : World) (hlaid : Laid w) (wa : IsRec w a A ca) (pa : fewR a.fs = false) :
    Calls Tryd.prog 10 #[a.v A ca, st n r, f.v] w fun e w' => e = .returned (.bool true) ∧ Below w.heap.size w w' := by
  have HLA := Lib.hid (fun (X : World) (hX : Below w.heap.size w X) => hlaid.below hX (Nat.le_refl _))
  have OKa := Lib.hid wa.1
  have OKd : Hid (deadR a.z n r).Ok := Lib.hid (show (deadR a.z n r).Ok from wa.1)
  have OK1 : Hid (oneR a.z f).Ok := Lib.hid (show (oneR a.z f).Ok from wa.1)
  have Fa := Lib.hid wa.2.1
  have hz := zeroRec
  unfold rv at hz
  conv => congr; rfl; rfl; (unfold Rc.v rv Fld.v st)
  clear hlaid wa
  have PA := Lib.hid pa
  clear pa
  have B1 := Lib.hid (Below.refl w.heap.size w)
  have T2n := RcAt.new w OKa.out.len a.n a.r (.slice A a.fs.length ca)
  have T2 := Lib.hid (T2n)
  clear T2n
  have B3 := Lib.hid (B1.out.alloc B1.out.size (.cells (rcells a.z a.n a.r (.slice A a.fs.length ca)) 43))
  have F4 := Lib.hid (Fa.out.below B3.out (Nat.le_refl _))
  have hb5 := (Below.refl (w.alloc (.cells (rcells a.z a.n a.r (.slice A a.fs.length ca)) 43)).heap.size (w.alloc (.cells (rcells a.z a.n a.r (.slice A a.fs.length ca)) 43))).alloc (Nat.le_refl _) (.cells #[.int .i64 n, .int .i64 r] 23)
  have T6n := StAt.new (w.alloc (.cells (rcells a.z a.n a.r (.slice A a.fs.length ca)) 43)) n r
  simp only [World.size_alloc] at T6n
  have T6 := Lib.hid (T6n)
  clear T6n
  have T7 := Lib.hid (T2.out.below hb5 T2.out.lt)
  have F8 := Lib.hid (F4.out.below hb5 (Nat.le_refl _))
  have B9 := Lib.hid (B3.out.trans (hb5.mono B3.out.size))
  clear hb5
  have hb10 := (Below.refl ((w.alloc (.cells (rcells a.z a.n a.r (.slice A a.fs.length ca)) 43)).alloc (.cells #[.int .i64 n, .int .i64 r] 23)).heap.size ((w.alloc (.cells (rcells a.z a.n a.r (.slice A a.fs.length ca)) 43)).alloc (.cells #[.int .i64 n, .int .i64 r] 23))).alloc (Nat.le_refl _) (.cells #[.int .i64 f.no, .int .i64 f.c.n, .int .i64 f.c.r, .string f.c.s] 55)
  have T11n := FlAt.new ((w.alloc (.cells (rcells a.z a.n a.r (.slice A a.fs.length ca)) 43)).alloc (.cells #[.int .i64 n, .int .i64 r] 23)) f
  simp only [World.size_alloc] at T11n
  have T11 := Lib.hid (T11n)
  clear T11n
  have T12 := Lib.hid (T7.out.below hb10 T7.out.lt)
  have T13 := Lib.hid (T6.out.below hb10 T6.out.lt)
  have F14 := Lib.hid (F8.out.below hb10 (Nat.le_refl _))
  have B15 := Lib.hid (B9.out.trans (hb10.mono B9.out.size))
  clear hb10
  go_enter Tryd.func10, Tryd.ntmps10
  have C16 := Lib.hid (rcAwake (((w.alloc (.cells (rcells a.z a.n a.r (.slice A a.fs.length ca)) 43)).alloc (.cells #[.int .i64 n, .int .i64 r] 23)).alloc (.cells #[.int .i64 f.no, .int .i64 f.c.n, .int .i64 f.c.r, .string f.c.s] 55)) (HLA.out _ B15.out))
  go_wp2_with fail
  refine C16.out.mono ?_
  rintro e w17 ⟨rfl, hb18⟩
  have T19 := Lib.hid (T12.out.below hb18 T12.out.lt)
  have T20 := Lib.hid (T13.out.below hb18 T13.out.lt)
  have T21 := Lib.hid (T11.out.below hb18 T11.out.lt)
  have F22 := Lib.hid (F14.out.below hb18 (Nat.le_refl _))
  have B23 := Lib.hid (B15.out.trans (hb18.mono B15.out.size))
  clear hb18
  have M24 := Lib.hid (load_rec T19.out)
  unfold rv at M24
  have C25 := Lib.hid (fewR_any a A ca w17 OKa.out F22.out)
  unfold Rc.v at C25
  unfold rv at C25
  rw [PA.out] at C25
  go_wp2_with (first | ((with_reducible refine wpList_load_by (o := ⟨some 19, .load 43 (.tmp 3), _, _, _, _⟩) ?e1 43 (.tmp 3) ?e2 ⟨w.heap.size, 0, none⟩ ?e3 _ M24.out ?_); (case e1 => rfl); (case e2 => rfl); (case e3 => rfl)))
  refine C25.out.mono ?_
  rintro e w26 ⟨rfl, hb27⟩
  have T28 := Lib.hid (T19.out.below hb27 T19.out.lt)
  have T29 := Lib.hid (T20.out.below hb27 T20.out.lt)
  have T30 := Lib.hid (T21.out.below hb27 T21.out.lt)
  have F31 := Lib.hid (F22.out.below hb27 (Nat.le_refl _))
  have B32 := Lib.hid (B23.out.trans (hb27.mono B23.out.size))
  clear hb27
  have M33 := Lib.hid (load_id T28.out)
  have s0 := T29.out.c0
  have s1 := T29.out.c1
  have D34 := Lib.hid (build_rec OKa.out.len n r w26)
  unfold rv at D34
  go_wp2_with (first | ((with_reducible refine wpList_load_by (o := ⟨some 22, .load 40 (.tmp 21), _, _, _, _⟩) ?e1 40 (.tmp 21) ?e2 ⟨w.heap.size, 0, none⟩ ?e3 _ M33.out ?_); (case e1 => rfl); (case e2 => rfl); (case e3 => rfl)) | ((with_reducible refine wpList_build_by (o := ⟨some 24, .build 43 #[(0, .tmp 22), (1, .tmp 23)], _, _, _, _⟩) ?e1 43 #[(0, .tmp 22), (1, .tmp 23)] ?e2 #[(0, .agg (bvals a.z)), (1, .agg #[.int .i64 n, .int .i64 r])] ?e3 _ D34.out ?_); (case e1 => rfl); (case e2 => rfl); (case e3 => (simp only [List.map_toArray, List.map_cons, List.map_nil]; rfl))) | ((with_reducible refine wpList_store_new (o := ⟨none, .store 43 (.tmp 9) (.tmp 24), _, _, _, _⟩) (w := w26) ?e1 (.tmp 9) (.tmp 24) ?e2 w26.heap.size rfl ?e3 (deadR a.z n r).z (deadR a.z n r).n (deadR a.z n r).r (.slice none (deadR a.z n r).fs.length 0) ?e4 OKd.out.len ?e5 ?_); (case e1 => rfl); (case e2 => rfl); (case e3 => rfl); (case e4 => rfl); (case e5 => rfl); intro w35 hb36 hRs; have T37 := Lib.hid hRs; clear hRs; have T38 := Lib.hid (T28.out.below hb36 T28.out.lt); have T39 := Lib.hid (T29.out.below hb36 T29.out.lt); have T40 := Lib.hid (T30.out.below hb36 T30.out.lt); have F41 := Lib.hid (F31.out.below hb36 (Nat.le_refl _)); have B42 := Lib.hid (B32.out.trans (hb36.mono B32.out.size)); clear hb36; have M43 := Lib.hid (load_id T38.out); clear s0 s1; have f0 := T40.out.c0; have f1 := T40.out.c1; have f2 := T40.out.c2; have f3 := T40.out.c3; have F44 := Lib.hid ((FsAt.nil w35 none 0 (by decide) (fun _ => rfl) : FsAt w35 none 0 (deadR a.z n r).fs)); have hb45 := (Below.refl w35.heap.size w35).alloc (Nat.le_refl _) (.cells #[.int .i64 f.no, .int .i64 f.c.n, .int .i64 f.c.r, .string f.c.s] 55); have T46 := Lib.hid (T38.out.below hb45 T38.out.lt); have T47 := Lib.hid (T37.out.below hb45 T37.out.lt); have T48 := Lib.hid (T39.out.below hb45 T39.out.lt); have T49 := Lib.hid (T40.out.below hb45 T40.out.lt); have F50 := Lib.hid (F41.out.below hb45 (Nat.le_refl _)); have F51 := Lib.hid (F44.out.below hb45 (Nat.le_refl _)); have B52 := Lib.hid (B42.out.trans (hb45.mono B42.out.size)); clear hb45; have F53 := Lib.hid ((fs_one w35 f : FsAt (w35.alloc (.cells #[.int .i64 f.no, .int .i64 f.c.n, .int .i64 f.c.r, .string f.c.s] 55)) (some ⟨w35.heap.size, 0, none⟩) 1 (oneR a.z f).fs)); have D54 := Lib.hid (build_one OKa.out.len (some ⟨w35.heap.size, 0, none⟩) 1 1 (w35.alloc (.cells #[.int .i64 f.no, .int .i64 f.c.n, .int .i64 f.c.r, .string f.c.s] 55))); unfold rv at D54) | ((with_reducible refine wpList_load_by (o := ⟨some 26, .load 40 (.tmp 25), _, _, _, _⟩) ?e1 40 (.tmp 25) ?e2 ⟨w.heap.size, 0, none⟩ ?e3 _ M43.out ?_); (case e1 => rfl); (case e2 => rfl); (case e3 => rfl)) | ((with_reducible refine wpList_build_by (o := ⟨some 29, .build 43 #[(0, .tmp 26), (2, .tmp 28)], _, _, _, _⟩) ?e1 43 #[(0, .tmp 26), (2, .tmp 28)] ?e2 #[(0, .agg (bvals a.z)), (2, .slice (some ⟨w35.heap.size, 0, none⟩) 1 1)] ?e3 _ D54.out ?_); (case e1 => rfl); (case e2 => rfl); (case e3 => (simp only [List.map_toArray, List.map_cons, List.map_nil]; rfl))) | ((with_reducible refine wpList_store_new (o := ⟨none, .store 43 (.tmp 10) (.tmp 29), _, _, _, _⟩) (w := (w35.alloc (.cells #[.int .i64 f.no, .int .i64 f.c.n, .int .i64 f.c.r, .string f.c.s] 55))) ?e1 (.tmp 10) (.tmp 29) ?e2 (w35.heap.size + 1) (by simp) ?e3 (oneR a.z f).z (oneR a.z f).n (oneR a.z f).r (.slice (some ⟨w35.heap.size, 0, none⟩) (oneR a.z f).fs.length 1) ?e4 OK1.out.len ?e5 ?_); (case e1 => rfl); (case e2 => rfl); (case e3 => rfl); (case e4 => rfl); (case e5 => rfl); intro w55 hb56 hRs; have T57 := Lib.hid hRs; clear hRs; have T58 := Lib.hid (T46.out.below hb56 T46.out.lt); have T59 := Lib.hid (T47.out.below hb56 T47.out.lt); have T60 := Lib.hid (T48.out.below hb56 T48.out.lt); have T61 := Lib.hid (T49.out.below hb56 T49.out.lt); have F62 := Lib.hid (F50.out.below hb56 (Nat.le_refl _)); have F63 := Lib.hid (F51.out.below hb56 (Nat.le_refl _)); have F64 := Lib.hid (F53.out.below hb56 (Nat.le_refl _)); have B65 := Lib.hid (B52.out.trans (hb56.mono B52.out.size)); clear hb56; clear f0 f1 f2 f3; have f3 := T61.out.c3))
  go_ret
  exact ⟨rfl, B65.out⟩
set_option maxHeartbeats 16000000 in
theorem dead_long (a : Rc) (A : Option Addr) (ca : Nat) (n r : Int) (f : Fld) (w : World) (hlaid : Laid w) (wa : IsRec w a A ca) (pa : fewR a.fs = true) (h3 : ¬ f.c.s.size ≤ 300) :
    Calls Tryd.prog 10 #[a.v A ca, st n r, f.v] w fun e w' => e = .returned (.bool true) ∧ Below w.heap.size w w' := by
  have HLA := Lib.hid (fun (X : World) (hX : Below w.heap.size w X) => hlaid.below hX (Nat.le_refl _))
  have OKa := Lib.hid wa.1
  have OKd : Hid (deadR a.z n r).Ok := Lib.hid (show (deadR a.z n r).Ok from wa.1)
  have OK1 : Hid (oneR a.z f).Ok := Lib.hid (show (oneR a.z f).Ok from wa.1)
  have Fa := Lib.hid wa.2.1
  have hz := zeroRec
  unfold rv at hz
  conv => congr; rfl; rfl; (unfold Rc.v rv Fld.v st)
  clear hlaid wa
  have PA := Lib.hid pa
  have t2 : 300 < (f.c.s.size : Int) := by omega
  clear pa h3
  have B1 := Lib.hid (Below.refl w.heap.size w)
  have T2n := RcAt.new w OKa.out.len a.n a.r (.slice A a.fs.length ca)
  have T2 := Lib.hid (T2n)
  clear T2n
  have B3 := Lib.hid (B1.out.alloc B1.out.size (.cells (rcells a.z a.n a.r (.slice A a.fs.length ca)) 43))
  have F4 := Lib.hid (Fa.out.below B3.out (Nat.le_refl _))
  have hb5 := (Below.refl (w.alloc (.cells (rcells a.z a.n a.r (.slice A a.fs.length ca)) 43)).heap.size (w.alloc (.cells (rcells a.z a.n a.r (.slice A a.fs.length ca)) 43))).alloc (Nat.le_refl _) (.cells #[.int .i64 n, .int .i64 r] 23)
  have T6n := StAt.new (w.alloc (.cells (rcells a.z a.n a.r (.slice A a.fs.length ca)) 43)) n r
  simp only [World.size_alloc] at T6n
  have T6 := Lib.hid (T6n)
  clear T6n
  have T7 := Lib.hid (T2.out.below hb5 T2.out.lt)
  have F8 := Lib.hid (F4.out.below hb5 (Nat.le_refl _))
  have B9 := Lib.hid (B3.out.trans (hb5.mono B3.out.size))
  clear hb5
  have hb10 := (Below.refl ((w.alloc (.cells (rcells a.z a.n a.r (.slice A a.fs.length ca)) 43)).alloc (.cells #[.int .i64 n, .int .i64 r] 23)).heap.size ((w.alloc (.cells (rcells a.z a.n a.r (.slice A a.fs.length ca)) 43)).alloc (.cells #[.int .i64 n, .int .i64 r] 23))).alloc (Nat.le_refl _) (.cells #[.int .i64 f.no, .int .i64 f.c.n, .int .i64 f.c.r, .string f.c.s] 55)
  have T11n := FlAt.new ((w.alloc (.cells (rcells a.z a.n a.r (.slice A a.fs.length ca)) 43)).alloc (.cells #[.int .i64 n, .int .i64 r] 23)) f
  simp only [World.size_alloc] at T11n
  have T11 := Lib.hid (T11n)
  clear T11n
  have T12 := Lib.hid (T7.out.below hb10 T7.out.lt)
  have T13 := Lib.hid (T6.out.below hb10 T6.out.lt)
  have F14 := Lib.hid (F8.out.below hb10 (Nat.le_refl _))
  have B15 := Lib.hid (B9.out.trans (hb10.mono B9.out.size))
  clear hb10
  go_enter Tryd.func10, Tryd.ntmps10
  have C16 := Lib.hid (rcAwake (((w.alloc (.cells (rcells a.z a.n a.r (.slice A a.fs.length ca)) 43)).alloc (.cells #[.int .i64 n, .int .i64 r] 23)).alloc (.cells #[.int .i64 f.no, .int .i64 f.c.n, .int .i64 f.c.r, .string f.c.s] 55)) (HLA.out _ B15.out))
  go_wp2_with fail
  refine C16.out.mono ?_
  rintro e w17 ⟨rfl, hb18⟩
  have T19 := Lib.hid (T12.out.below hb18 T12.out.lt)
  have T20 := Lib.hid (T13.out.below hb18 T13.out.lt)
  have T21 := Lib.hid (T11.out.below hb18 T11.out.lt)
  have F22 := Lib.hid (F14.out.below hb18 (Nat.le_refl _))
  have B23 := Lib.hid (B15.out.trans (hb18.mono B15.out.size))
  clear hb18
  have M24 := Lib.hid (load_rec T19.out)
  unfold rv at M24
  have C25 := Lib.hid (fewR_any a A ca w17 OKa.out F22.out)
  unfold Rc.v at C25
  unfold rv at C25
  rw [PA.out] at C25
  go_wp2_with (first | ((with_reducible refine wpList_load_by (o := ⟨some 19, .load 43 (.tmp 3), _, _, _, _⟩) ?e1 43 (.tmp 3) ?e2 ⟨w.heap.size, 0, none⟩ ?e3 _ M24.out ?_); (case e1 => rfl); (case e2 => rfl); (case e3 => rfl)))
  refine C25.out.mono ?_
  rintro e w26 ⟨rfl, hb27⟩
  have T28 := Lib.hid (T19.out.below hb27 T19.out.lt)
  have T29 := Lib.hid (T20.out.below hb27 T20.out.lt)
  have T30 := Lib.hid (T21.out.below hb27 T21.out.lt)
  have F31 := Lib.hid (F22.out.below hb27 (Nat.le_refl _))
  have B32 := Lib.hid (B23.out.trans (hb27.mono B23.out.size))
  clear hb27
  have M33 := Lib.hid (load_id T28.out)
  have s0 := T29.out.c0
  have s1 := T29.out.c1
  have D34 := Lib.hid (build_rec OKa.out.len n r w26)
  unfold rv at D34
  go_wp2_with (first | ((with_reducible refine wpList_load_by (o := ⟨some 22, .load 40 (.tmp 21), _, _, _, _⟩) ?e1 40 (.tmp 21) ?e2 ⟨w.heap.size, 0, none⟩ ?e3 _ M33.out ?_); (case e1 => rfl); (case e2 => rfl); (case e3 => rfl)) | ((with_reducible refine wpList_build_by (o := ⟨some 24, .build 43 #[(0, .tmp 22), (1, .tmp 23)], _, _, _, _⟩) ?e1 43 #[(0, .tmp 22), (1, .tmp 23)] ?e2 #[(0, .agg (bvals a.z)), (1, .agg #[.int .i64 n, .int .i64 r])] ?e3 _ D34.out ?_); (case e1 => rfl); (case e2 => rfl); (case e3 => (simp only [List.map_toArray, List.map_cons, List.map_nil]; rfl))) | ((with_reducible refine wpList_store_new (o := ⟨none, .store 43 (.tmp 9) (.tmp 24), _, _, _, _⟩) (w := w26) ?e1 (.tmp 9) (.tmp 24) ?e2 w26.heap.size rfl ?e3 (deadR a.z n r).z (deadR a.z n r).n (deadR a.z n r).r (.slice none (deadR a.z n r).fs.length 0) ?e4 OKd.out.len ?e5 ?_); (case e1 => rfl); (case e2 => rfl); (case e3 => rfl); (case e4 => rfl); (case e5 => rfl); intro w35 hb36 hRs; have T37 := Lib.hid hRs; clear hRs; have T38 := Lib.hid (T28.out.below hb36 T28.out.lt); have T39 := Lib.hid (T29.out.below hb36 T29.out.lt); have T40 := Lib.hid (T30.out.below hb36 T30.out.lt); have F41 := Lib.hid (F31.out.below hb36 (Nat.le_refl _)); have B42 := Lib.hid (B32.out.trans (hb36.mono B32.out.size)); clear hb36; have M43 := Lib.hid (load_id T38.out); clear s0 s1; have f0 := T40.out.c0; have f1 := T40.out.c1; have f2 := T40.out.c2; have f3 := T40.out.c3; have F44 := Lib.hid ((FsAt.nil w35 none 0 (by decide) (fun _ => rfl) : FsAt w35 none 0 (deadR a.z n r).fs)); have hb45 := (Below.refl w35.heap.size w35).alloc (Nat.le_refl _) (.cells #[.int .i64 f.no, .int .i64 f.c.n, .int .i64 f.c.r, .string f.c.s] 55); have T46 := Lib.hid (T38.out.below hb45 T38.out.lt); have T47 := Lib.hid (T37.out.below hb45 T37.out.lt); have T48 := Lib.hid (T39.out.below hb45 T39.out.lt); have T49 := Lib.hid (T40.out.below hb45 T40.out.lt); have F50 := Lib.hid (F41.out.below hb45 (Nat.le_refl _)); have F51 := Lib.hid (F44.out.below hb45 (Nat.le_refl _)); have B52 := Lib.hid (B42.out.trans (hb45.mono B42.out.size)); clear hb45; have F53 := Lib.hid ((fs_one w35 f : FsAt (w35.alloc (.cells #[.int .i64 f.no, .int .i64 f.c.n, .int .i64 f.c.r, .string f.c.s] 55)) (some ⟨w35.heap.size, 0, none⟩) 1 (oneR a.z f).fs)); have D54 := Lib.hid (build_one OKa.out.len (some ⟨w35.heap.size, 0, none⟩) 1 1 (w35.alloc (.cells #[.int .i64 f.no, .int .i64 f.c.n, .int .i64 f.c.r, .string f.c.s] 55))); unfold rv at D54) | ((with_reducible refine wpList_load_by (o := ⟨some 26, .load 40 (.tmp 25), _, _, _, _⟩) ?e1 40 (.tmp 25) ?e2 ⟨w.heap.size, 0, none⟩ ?e3 _ M43.out ?_); (case e1 => rfl); (case e2 => rfl); (case e3 => rfl)) | ((with_reducible refine wpList_build_by (o := ⟨some 29, .build 43 #[(0, .tmp 26), (2, .tmp 28)], _, _, _, _⟩) ?e1 43 #[(0, .tmp 26), (2, .tmp 28)] ?e2 #[(0, .agg (bvals a.z)), (2, .slice (some ⟨w35.heap.size, 0, none⟩) 1 1)] ?e3 _ D54.out ?_); (case e1 => rfl); (case e2 => rfl); (case e3 => (simp only [List.map_toArray, List.map_cons, List.map_nil]; rfl))) | ((with_reducible refine wpList_store_new (o := ⟨none, .store 43 (.tmp 10) (.tmp 29), _, _, _, _⟩) (w := (w35.alloc (.cells #[.int .i64 f.no, .int .i64 f.c.n, .int .i64 f.c.r, .string f.c.s] 55))) ?e1 (.tmp 10) (.tmp 29) ?e2 (w35.heap.size + 1) (by simp) ?e3 (oneR a.z f).z (oneR a.z f).n (oneR a.z f).r (.slice (some ⟨w35.heap.size, 0, none⟩) (oneR a.z f).fs.length 1) ?e4 OK1.out.len ?e5 ?_); (case e1 => rfl); (case e2 => rfl); (case e3 => rfl); (case e4 => rfl); (case e5 => rfl); intro w55 hb56 hRs; have T57 := Lib.hid hRs; clear hRs; have T58 := Lib.hid (T46.out.below hb56 T46.out.lt); have T59 := Lib.hid (T47.out.below hb56 T47.out.lt); have T60 := Lib.hid (T48.out.below hb56 T48.out.lt); have T61 := Lib.hid (T49.out.below hb56 T49.out.lt); have F62 := Lib.hid (F50.out.below hb56 (Nat.le_refl _)); have F63 := Lib.hid (F51.out.below hb56 (Nat.le_refl _)); have F64 := Lib.hid (F53.out.below hb56 (Nat.le_refl _)); have B65 := Lib.hid (B52.out.trans (hb56.mono B52.out.size)); clear hb56; clear f0 f1 f2 f3; have f3 := T61.out.c3))
  go_ret
  exact ⟨rfl, B65.out⟩
set_option maxHeartbeats 16000000 in
theorem dead_ma (a : Rc) (A : Option Addr) (ca : Nat) (n r : Int) (f : Fld) (w : World) (hlaid : Laid w) (wa : IsRec w a A ca) (pa : fewR a.fs = true) (h3 : f.c.s.size ≤ 300) (ma : a.may = false) :
    Calls Tryd.prog 10 #[a.v A ca, st n r, f.v] w fun e w' => e = .returned (.bool true) ∧ Below w.heap.size w w' := by
  have HLA := Lib.hid (fun (X : World) (hX : Below w.heap.size w X) => hlaid.below hX (Nat.le_refl _))
  have OKa := Lib.hid wa.1
  have OKd : Hid (deadR a.z n r).Ok := Lib.hid (show (deadR a.z n r).Ok from wa.1)
  have OK1 : Hid (oneR a.z f).Ok := Lib.hid (show (oneR a.z f).Ok from wa.1)
  have Fa := Lib.hid wa.2.1
  have hz := zeroRec
  unfold rv at hz
  conv => congr; rfl; rfl; (unfold Rc.v rv Fld.v st)
  clear hlaid wa
  have PA := Lib.hid pa
  have t2 : decide (300 < (f.c.s.size : Int)) = false := decide_eq_false (by omega)
  clear pa h3
  have MA := Lib.hid ma
  clear ma
  have B1 := Lib.hid (Below.refl w.heap.size w)
  have T2n := RcAt.new w OKa.out.len a.n a.r (.slice A a.fs.length ca)
  have T2 := Lib.hid (T2n)
  clear T2n
  have B3 := Lib.hid (B1.out.alloc B1.out.size (.cells (rcells a.z a.n a.r (.slice A a.fs.length ca)) 43))
  have F4 := Lib.hid (Fa.out.below B3.out (Nat.le_refl _))
  have hb5 := (Below.refl (w.alloc (.cells (rcells a.z a.n a.r (.slice A a.fs.length ca)) 43)).heap.size (w.alloc (.cells (rcells a.z a.n a.r (.slice A a.fs.length ca)) 43))).alloc (Nat.le_refl _) (.cells #[.int .i64 n, .int .i64 r] 23)
  have T6n := StAt.new (w.alloc (.cells (rcells a.z a.n a.r (.slice A a.fs.length ca)) 43)) n r
  simp only [World.size_alloc] at T6n
  have T6 := Lib.hid (T6n)
  clear T6n
  have T7 := Lib.hid (T2.out.below hb5 T2.out.lt)
  have F8 := Lib.hid (F4.out.below hb5 (Nat.le_refl _))
  have B9 := Lib.hid (B3.out.trans (hb5.mono B3.out.size))
  clear hb5
  have hb10 := (Below.refl ((w.alloc (.cells (rcells a.z a.n a.r (.slice A a.fs.length ca)) 43)).alloc (.cells #[.int .i64 n, .int .i64 r] 23)).heap.size ((w.alloc (.cells (rcells a.z a.n a.r (.slice A a.fs.length ca)) 43)).alloc (.cells #[.int .i64 n, .int .i64 r] 23))).alloc (Nat.le_refl _) (.cells #[.int .i64 f.no, .int .i64 f.c.n, .int .i64 f.c.r, .string f.c.s] 55)
  have T11n := FlAt.new ((w.alloc (.cells (rcells a.z a.n a.r (.slice A a.fs.length ca)) 43)).alloc (.cells #[.int .i64 n, .int .i64 r] 23)) f
  simp only [World.size_alloc] at T11n
  have T11 := Lib.hid (T11n)
  clear T11n
  have T12 := Lib.hid (T7.out.below hb10 T7.out.lt)
  have T13 := Lib.hid (T6.out.below hb10 T6.out.lt)
  have F14 := Lib.hid (F8.out.below hb10 (Nat.le_refl _))
  have B15 := Lib.hid (B9.out.trans (hb10.mono B9.out.size))
  clear hb10
  go_enter Tryd.func10, Tryd.ntmps10
  have C16 := Lib.hid (rcAwake (((w.alloc (.cells (rcells a.z a.n a.r (.slice A a.fs.length ca)) 43)).alloc (.cells #[.int .i64 n, .int .i64 r] 23)).alloc (.cells #[.int .i64 f.no, .int .i64 f.c.n, .int .i64 f.c.r, .string f.c.s] 55)) (HLA.out _ B15.out))
  go_wp2_with fail
  refine C16.out.mono ?_
  rintro e w17 ⟨rfl, hb18⟩
  have T19 := Lib.hid (T12.out.below hb18 T12.out.lt)
  have T20 := Lib.hid (T13.out.below hb18 T13.out.lt)
  have T21 := Lib.hid (T11.out.below hb18 T11.out.lt)
  have F22 := Lib.hid (F14.out.below hb18 (Nat.le_refl _))
  have B23 := Lib.hid (B15.out.trans (hb18.mono B15.out.size))
  clear hb18
  have M24 := Lib.hid (load_rec T19.out)
  unfold rv at M24
  have C25 := Lib.hid (fewR_any a A ca w17 OKa.out F22.out)
  unfold Rc.v at C25
  unfold rv at C25
  rw [PA.out] at C25
  go_wp2_with (first | ((with_reducible refine wpList_load_by (o := ⟨some 19, .load 43 (.tmp 3), _, _, _, _⟩) ?e1 43 (.tmp 3) ?e2 ⟨w.heap.size, 0, none⟩ ?e3 _ M24.out ?_); (case e1 => rfl); (case e2 => rfl); (case e3 => rfl)))
  refine C25.out.mono ?_
  rintro e w26 ⟨rfl, hb27⟩
  have T28 := Lib.hid (T19.out.below hb27 T19.out.lt)
  have T29 := Lib.hid (T20.out.below hb27 T20.out.lt)
  have T30 := Lib.hid (T21.out.below hb27 T21.out.lt)
  have F31 := Lib.hid (F22.out.below hb27 (Nat.le_refl _))
  have B32 := Lib.hid (B23.out.trans (hb27.mono B23.out.size))
  clear hb27
  have M33 := Lib.hid (load_id T28.out)
  have s0 := T29.out.c0
  have s1 := T29.out.c1
  have D34 := Lib.hid (build_rec OKa.out.len n r w26)
  unfold rv at D34
  go_wp2_with (first | ((with_reducible refine wpList_load_by (o := ⟨some 22, .load 40 (.tmp 21), _, _, _, _⟩) ?e1 40 (.tmp 21) ?e2 ⟨w.heap.size, 0, none⟩ ?e3 _ M33.out ?_); (case e1 => rfl); (case e2 => rfl); (case e3 => rfl)) | ((with_reducible refine wpList_build_by (o := ⟨some 24, .build 43 #[(0, .tmp 22), (1, .tmp 23)], _, _, _, _⟩) ?e1 43 #[(0, .tmp 22), (1, .tmp 23)] ?e2 #[(0, .agg (bvals a.z)), (1, .agg #[.int .i64 n, .int .i64 r])] ?e3 _ D34.out ?_); (case e1 => rfl); (case e2 => rfl); (case e3 => (simp only [List.map_toArray, List.map_cons, List.map_nil]; rfl))) | ((with_reducible refine wpList_store_new (o := ⟨none, .store 43 (.tmp 9) (.tmp 24), _, _, _, _⟩) (w := w26) ?e1 (.tmp 9) (.tmp 24) ?e2 w26.heap.size rfl ?e3 (deadR a.z n r).z (deadR a.z n r).n (deadR a.z n r).r (.slice none (deadR a.z n r).fs.length 0) ?e4 OKd.out.len ?e5 ?_); (case e1 => rfl); (case e2 => rfl); (case e3 => rfl); (case e4 => rfl); (case e5 => rfl); intro w35 hb36 hRs; have T37 := Lib.hid hRs; clear hRs; have T38 := Lib.hid (T28.out.below hb36 T28.out.lt); have T39 := Lib.hid (T29.out.below hb36 T29.out.lt); have T40 := Lib.hid (T30.out.below hb36 T30.out.lt); have F41 := Lib.hid (F31.out.below hb36 (Nat.le_refl _)); have B42 := Lib.hid (B32.out.trans (hb36.mono B32.out.size)); clear hb36; have M43 := Lib.hid (load_id T38.out); clear s0 s1; have f0 := T40.out.c0; have f1 := T40.out.c1; have f2 := T40.out.c2; have f3 := T40.out.c3; have F44 := Lib.hid ((FsAt.nil w35 none 0 (by decide) (fun _ => rfl) : FsAt w35 none 0 (deadR a.z n r).fs)); have hb45 := (Below.refl w35.heap.size w35).alloc (Nat.le_refl _) (.cells #[.int .i64 f.no, .int .i64 f.c.n, .int .i64 f.c.r, .string f.c.s] 55); have T46 := Lib.hid (T38.out.below hb45 T38.out.lt); have T47 := Lib.hid (T37.out.below hb45 T37.out.lt); have T48 := Lib.hid (T39.out.below hb45 T39.out.lt); have T49 := Lib.hid (T40.out.below hb45 T40.out.lt); have F50 := Lib.hid (F41.out.below hb45 (Nat.le_refl _)); have F51 := Lib.hid (F44.out.below hb45 (Nat.le_refl _)); have B52 := Lib.hid (B42.out.trans (hb45.mono B42.out.size)); clear hb45; have F53 := Lib.hid ((fs_one w35 f : FsAt (w35.alloc (.cells #[.int .i64 f.no, .int .i64 f.c.n, .int .i64 f.c.r, .string f.c.s] 55)) (some ⟨w35.heap.size, 0, none⟩) 1 (oneR a.z f).fs)); have D54 := Lib.hid (build_one OKa.out.len (some ⟨w35.heap.size, 0, none⟩) 1 1 (w35.alloc (.cells #[.int .i64 f.no, .int .i64 f.c.n, .int .i64 f.c.r, .string f.c.s] 55))); unfold rv at D54) | ((with_reducible refine wpList_load_by (o := ⟨some 26, .load 40 (.tmp 25), _, _, _, _⟩) ?e1 40 (.tmp 25) ?e2 ⟨w.heap.size, 0, none⟩ ?e3 _ M43.out ?_); (case e1 => rfl); (case e2 => rfl); (case e3 => rfl)) | ((with_reducible refine wpList_build_by (o := ⟨some 29, .build 43 #[(0, .tmp 26), (2, .tmp 28)], _, _, _, _⟩) ?e1 43 #[(0, .tmp 26), (2, .tmp 28)] ?e2 #[(0, .agg (bvals a.z)), (2, .slice (some ⟨w35.heap.size, 0, none⟩) 1 1)] ?e3 _ D54.out ?_); (case e1 => rfl); (case e2 => rfl); (case e3 => (simp only [List.map_toArray, List.map_cons, List.map_nil]; rfl))) | ((with_reducible refine wpList_store_new (o := ⟨none, .store 43 (.tmp 10) (.tmp 29), _, _, _, _⟩) (w := (w35.alloc (.cells #[.int .i64 f.no, .int .i64 f.c.n, .int .i64 f.c.r, .string f.c.s] 55))) ?e1 (.tmp 10) (.tmp 29) ?e2 (w35.heap.size + 1) (by simp) ?e3 (oneR a.z f).z (oneR a.z f).n (oneR a.z f).r (.slice (some ⟨w35.heap.size, 0, none⟩) (oneR a.z f).fs.length 1) ?e4 OK1.out.len ?e5 ?_); (case e1 => rfl); (case e2 => rfl); (case e3 => rfl); (case e4 => rfl); (case e5 => rfl); intro w55 hb56 hRs; have T57 := Lib.hid hRs; clear hRs; have T58 := Lib.hid (T46.out.below hb56 T46.out.lt); have T59 := Lib.hid (T47.out.below hb56 T47.out.lt); have T60 := Lib.hid (T48.out.below hb56 T48.out.lt); have T61 := Lib.hid (T49.out.below hb56 T49.out.lt); have F62 := Lib.hid (F50.out.below hb56 (Nat.le_refl _)); have F63 := Lib.hid (F51.out.below hb56 (Nat.le_refl _)); have F64 := Lib.hid (F53.out.below hb56 (Nat.le_refl _)); have B65 := Lib.hid (B52.out.trans (hb56.mono B52.out.size)); clear hb56; clear f0 f1 f2 f3; have f3 := T61.out.c3; have M66 := Lib.hid (load_rec T58.out); unfold rv at M66; have C67 := Lib.hid (may_any' a A ca w55 OKa.out F62.out); unfold Rc.v at C67; unfold rv at C67; rw [MA.out] at C67) | ((with_reducible refine wpList_load_by (o := ⟨some 44, .load 43 (.tmp 3), _, _, _, _⟩) ?e1 43 (.tmp 3) ?e2 ⟨w.heap.size, 0, none⟩ ?e3 _ M66.out ?_); (case e1 => rfl); (case e2 => rfl); (case e3 => rfl)))
  refine C67.out.mono ?_
  rintro e w68 ⟨rfl, hb69⟩
  have T70 := Lib.hid (T58.out.below hb69 T58.out.lt)
  have T71 := Lib.hid (T59.out.below hb69 T59.out.lt)
  have T72 := Lib.hid (T57.out.below hb69 T57.out.lt)
  have T73 := Lib.hid (T60.out.below hb69 T60.out.lt)
  have T74 := Lib.hid (T61.out.below hb69 T61.out.lt)
  have F75 := Lib.hid (F62.out.below hb69 (Nat.le_refl _))
  have F76 := Lib.hid (F63.out.below hb69 (Nat.le_refl _))
  have F77 := Lib.hid (F64.out.below hb69 (Nat.le_refl _))
  have B78 := Lib.hid (B65.out.trans (hb69.mono B65.out.size))
  clear hb69
  go_wp2
  go_ret
  exact ⟨rfl, B78.out⟩
set_option maxHeartbeats 16000000 in
theorem dead_md (a : Rc) (A : Option Addr) (ca : Nat) (n r : Int) (f : Fld) (w : World) (hlaid : Laid w) (wa : IsRec w a A ca) (pa : fewR a.fs = true) (h3 : f.c.s.size ≤ 300) (ma : a.may = true) (md : (deadR a.z n r).may = false) :
    Calls Tryd.prog 10 #[a.v A ca, st n r, f.v] w fun e w' => e = .returned (.bool true) ∧ Below w.heap.size w w' := by
  have HLA := Lib.hid (fun (X : World) (hX : Below w.heap.size w X) => hlaid.below hX (Nat.le_refl _))
  have OKa := Lib.hid wa.1
  have OKd : Hid (deadR a.z n r).Ok := Lib.hid (show (deadR a.z n r).Ok from wa.1)
  have OK1 : Hid (oneR a.z f).Ok := Lib.hid (show (oneR a.z f).Ok from wa.1)
  have Fa := Lib.hid wa.2.1
  have hz := zeroRec
  unfold rv at hz
  conv => congr; rfl; rfl; (unfold Rc.v rv Fld.v st)
  clear hlaid wa
  have PA := Lib.hid pa
  have t2 : decide (300 < (f.c.s.size : Int)) = false := decide_eq_false (by omega)
  clear pa h3
  have MA := Lib.hid ma
  clear ma
  have MD := Lib.hid md
  clear md
  have B1 := Lib.hid (Below.refl w.heap.size w)
  have T2n := RcAt.new w OKa.out.len a.n a.r (.slice A a.fs.length ca)
  have T2 := Lib.hid (T2n)
  clear T2n
  have B3 := Lib.hid (B1.out.alloc B1.out.size (.cells (rcells a.z a.n a.r (.slice A a.fs.length ca)) 43))
  have F4 := Lib.hid (Fa.out.below B3.out (Nat.le_refl _))
  have hb5 := (Below.refl (w.alloc (.cells (rcells a.z a.n a.r (.slice A a.fs.length ca)) 43)).heap.size (w.alloc (.cells (rcells a.z a.n a.r (.slice A a.fs.length ca)) 43))).alloc (Nat.le_refl _) (.cells #[.int .i64 n, .int .i64 r] 23)
  have T6n := StAt.new (w.alloc (.cells (rcells a.z a.n a.r (.slice A a.fs.length ca)) 43)) n r
  simp only [World.size_alloc] at T6n
  have T6 := Lib.hid (T6n)
  clear T6n
  have T7 := Lib.hid (T2.out.below hb5 T2.out.lt)
  have F8 := Lib.hid (F4.out.below hb5 (Nat.le_refl _))
  have B9 := Lib.hid (B3.out.trans (hb5.mono B3.out.size))
  clear hb5
  have hb10 := (Below.refl ((w.alloc (.cells (rcells a.z a.n a.r (.slice A a.fs.length ca)) 43)).alloc (.cells #[.int .i64 n, .int .i64 r] 23)).heap.size ((w.alloc (.cells (rcells a.z a.n a.r (.slice A a.fs.length ca)) 43)).alloc (.cells #[.int .i64 n, .int .i64 r] 23))).alloc (Nat.le_refl _) (.cells #[.int .i64 f.no, .int .i64 f.c.n, .int .i64 f.c.r, .string f.c.s] 55)
  have T11n := FlAt.new ((w.alloc (.cells (rcells a.z a.n a.r (.slice A a.fs.length ca)) 43)).alloc (.cells #[.int .i64 n, .int .i64 r] 23)) f
  simp only [World.size_alloc] at T11n
  have T11 := Lib.hid (T11n)
  clear T11n
  have T12 := Lib.hid (T7.out.below hb10 T7.out.lt)
  have T13 := Lib.hid (T6.out.below hb10 T6.out.lt)
  have F14 := Lib.hid (F8.out.below hb10 (Nat.le_refl _))
  have B15 := Lib.hid (B9.out.trans (hb10.mono B9.out.size))
  clear hb10
  go_enter Tryd.func10, Tryd.ntmps10
  have C16 := Lib.hid (rcAwake (((w.alloc (.cells (rcells a.z a.n a.r (.slice A a.fs.length ca)) 43)).alloc (.cells #[.int .i64 n, .int .i64 r] 23)).alloc (.cells #[.int .i64 f.no, .int .i64 f.c.n, .int .i64 f.c.r, .string f.c.s] 55)) (HLA.out _ B15.out))
  go_wp2_with fail
  refine C16.out.mono ?_
  rintro e w17 ⟨rfl, hb18⟩
  have T19 := Lib.hid (T12.out.below hb18 T12.out.lt)
  have T20 := Lib.hid (T13.out.below hb18 T13.out.lt)
  have T21 := Lib.hid (T11.out.below hb18 T11.out.lt)
  have F22 := Lib.hid (F14.out.below hb18 (Nat.le_refl _))
  have B23 := Lib.hid (B15.out.trans (hb18.mono B15.out.size))
  clear hb18
  have M24 := Lib.hid (load_rec T19.out)
  unfold rv at M24
  have C25 := Lib.hid (fewR_any a A ca w17 OKa.out F22.out)
  unfold Rc.v at C25
  unfold rv at C25
  rw [PA.out] at C25
  go_wp2_with (first | ((with_reducible refine wpList_load_by (o := ⟨some 19, .load 43 (.tmp 3), _, _, _, _⟩) ?e1 43 (.tmp 3) ?e2 ⟨w.heap.size, 0, none⟩ ?e3 _ M24.out ?_); (case e1 => rfl); (case e2 => rfl); (case e3 => rfl)))
  refine C25.out.mono ?_
  rintro e w26 ⟨rfl, hb27⟩
  have T28 := Lib.hid (T19.out.below hb27 T19.out.lt)
  have T29 := Lib.hid (T20.out.below hb27 T20.out.lt)
  have T30 := Lib.hid (T21.out.below hb27 T21.out.lt)
  have F31 := Lib.hid (F22.out.below hb27 (Nat.le_refl _))
  have B32 := Lib.hid (B23.out.trans (hb27.mono B23.out.size))
  clear hb27
  have M33 := Lib.hid (load_id T28.out)
  have s0 := T29.out.c0
  have s1 := T29.out.c1
  have D34 := Lib.hid (build_rec OKa.out.len n r w26)
  unfold rv at D34
  go_wp2_with (first | ((with_reducible refine wpList_load_by (o := ⟨some 22, .load 40 (.tmp 21), _, _, _, _⟩) ?e1 40 (.tmp 21) ?e2 ⟨w.heap.size, 0, none⟩ ?e3 _ M33.out ?_); (case e1 => rfl); (case e2 => rfl); (case e3 => rfl)) | ((with_reducible refine wpList_build_by (o := ⟨some 24, .build 43 #[(0, .tmp 22), (1, .tmp 23)], _, _, _, _⟩) ?e1 43 #[(0, .tmp 22), (1, .tmp 23)] ?e2 #[(0, .agg (bvals a.z)), (1, .agg #[.int .i64 n, .int .i64 r])] ?e3 _ D34.out ?_); (case e1 => rfl); (case e2 => rfl); (case e3 => (simp only [List.map_toArray, List.map_cons, List.map_nil]; rfl))) | ((with_reducible refine wpList_store_new (o := ⟨none, .store 43 (.tmp 9) (.tmp 24), _, _, _, _⟩) (w := w26) ?e1 (.tmp 9) (.tmp 24) ?e2 w26.heap.size rfl ?e3 (deadR a.z n r).z (deadR a.z n r).n (deadR a.z n r).r (.slice none (deadR a.z n r).fs.length 0) ?e4 OKd.out.len ?e5 ?_); (case e1 => rfl); (case e2 => rfl); (case e3 => rfl); (case e4 => rfl); (case e5 => rfl); intro w35 hb36 hRs; have T37 := Lib.hid hRs; clear hRs; have T38 := Lib.hid (T28.out.below hb36 T28.out.lt); have T39 := Lib.hid (T29.out.below hb36 T29.out.lt); have T40 := Lib.hid (T30.out.below hb36 T30.out.lt); have F41 := Lib.hid (F31.out.below hb36 (Nat.le_refl _)); have B42 := Lib.hid (B32.out.trans (hb36.mono B32.out.size)); clear hb36; have M43 := Lib.hid (load_id T38.out); clear s0 s1; have f0 := T40.out.c0; have f1 := T40.out.c1; have f2 := T40.out.c2; have f3 := T40.out.c3; have F44 := Lib.hid ((FsAt.nil w35 none 0 (by decide) (fun _ => rfl) : FsAt w35 none 0 (deadR a.z n r).fs)); have hb45 := (Below.refl w35.heap.size w35).alloc (Nat.le_refl _) (.cells #[.int .i64 f.no, .int .i64 f.c.n, .int .i64 f.c.r, .string f.c.s] 55); have T46 := Lib.hid (T38.out.below hb45 T38.out.lt); have T47 := Lib.hid (T37.out.below hb45 T37.out.lt); have T48 := Lib.hid (T39.out.below hb45 T39.out.lt); have T49 := Lib.hid (T40.out.below hb45 T40.out.lt); have F50 := Lib.hid (F41.out.below hb45 (Nat.le_refl _)); have F51 := Lib.hid (F44.out.below hb45 (Nat.le_refl _)); have B52 := Lib.hid (B42.out.trans (hb45.mono B42.out.size)); clear hb45; have F53 := Lib.hid ((fs_one w35 f : FsAt (w35.alloc (.cells #[.int .i64 f.no, .int .i64 f.c.n, .int .i64 f.c.r, .string f.c.s] 55)) (some ⟨w35.heap.size, 0, none⟩) 1 (oneR a.z f).fs)); have D54 := Lib.hid (build_one OKa.out.len (some ⟨w35.heap.size, 0, none⟩) 1 1 (w35.alloc (.cells #[.int .i64 f.no, .int .i64 f.c.n, .int .i64 f.c.r, .string f.c.s] 55))); unfold rv at D54) | ((with_reducible refine wpList_load_by (o := ⟨some 26, .load 40 (.tmp 25), _, _, _, _⟩) ?e1 40 (.tmp 25) ?e2 ⟨w.heap.size, 0, none⟩ ?e3 _ M43.out ?_); (case e1 => rfl); (case e2 => rfl); (case e3 => rfl)) | ((with_reducible refine wpList_build_by (o := ⟨some 29, .build 43 #[(0, .tmp 26), (2, .tmp 28)], _, _, _, _⟩) ?e1 43 #[(0, .tmp 26), (2, .tmp 28)] ?e2 #[(0, .agg (bvals a.z)), (2, .slice (some ⟨w35.heap.size, 0, none⟩) 1 1)] ?e3 _ D54.out ?_); (case e1 => rfl); (case e2 => rfl); (case e3 => (simp only [List.map_toArray, List.map_cons, List.map_nil]; rfl))) | ((with_reducible refine wpList_store_new (o := ⟨none, .store 43 (.tmp 10) (.tmp 29), _, _, _, _⟩) (w := (w35.alloc (.cells #[.int .i64 f.no, .int .i64 f.c.n, .int .i64 f.c.r, .string f.c.s] 55))) ?e1 (.tmp 10) (.tmp 29) ?e2 (w35.heap.size + 1) (by simp) ?e3 (oneR a.z f).z (oneR a.z f).n (oneR a.z f).r (.slice (some ⟨w35.heap.size, 0, none⟩) (oneR a.z f).fs.length 1) ?e4 OK1.out.len ?e5 ?_); (case e1 => rfl); (case e2 => rfl); (case e3 => rfl); (case e4 => rfl); (case e5 => rfl); intro w55 hb56 hRs; have T57 := Lib.hid hRs; clear hRs; have T58 := Lib.hid (T46.out.below hb56 T46.out.lt); have T59 := Lib.hid (T47.out.below hb56 T47.out.lt); have T60 := Lib.hid (T48.out.below hb56 T48.out.lt); have T61 := Lib.hid (T49.out.below hb56 T49.out.lt); have F62 := Lib.hid (F50.out.below hb56 (Nat.le_refl _)); have F63 := Lib.hid (F51.out.below hb56 (Nat.le_refl _)); have F64 := Lib.hid (F53.out.below hb56 (Nat.le_refl _)); have B65 := Lib.hid (B52.out.trans (hb56.mono B52.out.size)); clear hb56; clear f0 f1 f2 f3; have f3 := T61.out.c3; have M66 := Lib.hid (load_rec T58.out); unfold rv at M66; have C67 := Lib.hid (may_any' a A ca w55 OKa.out F62.out); unfold Rc.v at C67; unfold rv at C67; rw [MA.out] at C67) | ((with_reducible refine wpList_load_by (o := ⟨some 44, .load 43 (.tmp 3), _, _, _, _⟩) ?e1 43 (.tmp 3) ?e2 ⟨w.heap.size, 0, none⟩ ?e3 _ M66.out ?_); (case e1 => rfl); (case e2 => rfl); (case e3 => rfl)))
  refine C67.out.mono ?_
  rintro e w68 ⟨rfl, hb69⟩
  have T70 := Lib.hid (T58.out.below hb69 T58.out.lt)
  have T71 := Lib.hid (T59.out.below hb69 T59.out.lt)
  have T72 := Lib.hid (T57.out.below hb69 T57.out.lt)
  have T73 := Lib.hid (T60.out.below hb69 T60.out.lt)
  have T74 := Lib.hid (T61.out.below hb69 T61.out.lt)
  have F75 := Lib.hid (F62.out.below hb69 (Nat.le_refl _))
  have F76 := Lib.hid (F63.out.below hb69 (Nat.le_refl _))
  have F77 := Lib.hid (F64.out.below hb69 (Nat.le_refl _))
  have B78 := Lib.hid (B65.out.trans (hb69.mono B65.out.size))
  clear hb69
  have M79 := Lib.hid (load_rec T71.out)
  unfold rv at M79
  have C80 := Lib.hid (may_any' (deadR a.z n r) none 0 w68 OKd.out F76.out)
  unfold Rc.v at C80
  unfold rv at C80
  rw [MD.out] at C80
  go_wp2_with (first | ((with_reducible refine wpList_load_by (o := ⟨some 49, .load 43 (.tmp 9), _, _, _, _⟩) ?e1 43 (.tmp 9) ?e2 ⟨w26.heap.size, 0, none⟩ ?e3 _ M79.out ?_); (case e1 => rfl); (case e2 => rfl); (case e3 => rfl)))
  refine C80.out.mono ?_
  rintro e w81 ⟨rfl, hb82⟩
  have T83 := Lib.hid (T70.out.below hb82 T70.out.lt)
  have T84 := Lib.hid (T71.out.below hb82 T71.out.lt)
  have T85 := Lib.hid (T72.out.below hb82 T72.out.lt)
  have T86 := Lib.hid (T73.out.below hb82 T73.out.lt)
  have T87 := Lib.hid (T74.out.below hb82 T74.out.lt)
  have F88 := Lib.hid (F75.out.below hb82 (Nat.le_refl _))
  have F89 := Lib.hid (F76.out.below hb82 (Nat.le_refl _))
  have F90 := Lib.hid (F77.out.below hb82 (Nat.le_refl _))
  have B91 := Lib.hid (B78.out.trans (hb82.mono B78.out.size))
  clear hb82
  go_wp2
  go_ret
  exact ⟨rfl, B91.out⟩
set_option maxHeartbeats 16000000 in
theorem dead_mo (a : Rc) (A : Option Addr) (ca : Nat) (n r : Int) (f : Fld) (w : World) (hlaid : Laid w) (wa : IsRec w a A ca) (pa : fewR a.fs = true) (h3 : f.c.s.size ≤ 300) (ma : a.may = true) (md : (deadR a.z n r).may = true) (mo : (oneR a.z f).may = false) :
    Calls Tryd.prog 10 #[a.v A ca, st n r, f.v] w fun e w' => e = .returned (.bool true) ∧ Below w.heap.size w w' := by
  have HLA := Lib.hid (fun (X : World) (hX : Below w.heap.size w X) => hlaid.below hX (Nat.le_refl _))
  have OKa := Lib.hid wa.1
  have OKd : Hid (deadR a.z n r).Ok := Lib.hid (show (deadR a.z n r).Ok from wa.1)
  have OK1 : Hid (oneR a.z f).Ok := Lib.hid (show (oneR a.z f).Ok from wa.1)
  have Fa := Lib.hid wa.2.1
  have hz := zeroRec
  unfold rv at hz
  conv => congr; rfl; rfl; (unfold Rc.v rv Fld.v st)
  clear hlaid wa
  have PA := Lib.hid pa
  have t2 : decide (300 < (f.c.s.size : Int)) = false := decide_eq_false (by omega)
  clear pa h3
  have MA := Lib.hid ma
  clear ma
  have MD := Lib.hid md
  clear md
  have MO := Lib.hid mo
  clear mo
  have B1 := Lib.hid (Below.refl w.heap.size w)
  have T2n := RcAt.new w OKa.out.len a.n a.r (.slice A a.fs.length ca)
  have T2 := Lib.hid (T2n)
  clear T2n
  have B3 := Lib.hid (B1.out.alloc B1.out.size (.cells (rcells a.z a.n a.r (.slice A a.fs.length ca)) 43))
  have F4 := Lib.hid (Fa.out.below B3.out (Nat.le_refl _))
  have hb5 := (Below.refl (w.alloc (.cells (rcells a.z a.n a.r (.slice A a.fs.length ca)) 43)).heap.size (w.alloc (.cells (rcells a.z a.n a.r (.slice A a.fs.length ca)) 43))).alloc (Nat.le_refl _) (.cells #[.int .i64 n, .int .i64 r] 23)
  have T6n := StAt.new (w.alloc (.cells (rcells a.z a.n a.r (.slice A a.fs.length ca)) 43)) n r
  simp only [World.size_alloc] at T6n
  have T6 := Lib.hid (T6n)
  clear T6n
  have T7 := Lib.hid (T2.out.below hb5 T2.out.lt)
  have F8 := Lib.hid (F4.out.below hb5 (Nat.le_refl _))
  have B9 := Lib.hid (B3.out.trans (hb5.mono B3.out.size))
  clear hb5
  have hb10 := (Below.refl ((w.alloc (.cells (rcells a.z a.n a.r (.slice A a.fs.length ca)) 43)).alloc (.cells #[.int .i64 n, .int .i64 r] 23)).heap.size ((w.alloc (.cells (rcells a.z a.n a.r (.slice A a.fs.length ca)) 43)).alloc (.cells #[.int .i64 n, .int .i64 r] 23))).alloc (Nat.le_refl _) (.cells #[.int .i64 f.no, .int .i64 f.c.n, .int .i64 f.c.r, .string f.c.s] 55)
  have T11n := FlAt.new ((w.alloc (.cells (rcells a.z a.n a.r (.slice A a.fs.length ca)) 43)).alloc (.cells #[.int .i64 n, .int .i64 r] 23)) f
  simp only [World.size_alloc] at T11n
  have T11 := Lib.hid (T11n)
  clear T11n
  have T12 := Lib.hid (T7.out.below hb10 T7.out.lt)
  have T13 := Lib.hid (T6.out.below hb10 T6.out.lt)
  have F14 := Lib.hid (F8.out.below hb10 (Nat.le_refl _))
  have B15 := Lib.hid (B9.out.trans (hb10.mono B9.out.size))
  clear hb10
  go_enter Tryd.func10, Tryd.ntmps10
  have C16 := Lib.hid (rcAwake (((w.alloc (.cells (rcells a.z a.n a.r (.slice A a.fs.length ca)) 43)).alloc (.cells #[.int .i64 n, .int .i64 r] 23)).alloc (.cells #[.int .i64 f.no, .int .i64 f.c.n, .int .i64 f.c.r, .string f.c.s] 55)) (HLA.out _ B15.out))
  go_wp2_with fail
  refine C16.out.mono ?_
  rintro e w17 ⟨rfl, hb18⟩
  have T19 := Lib.hid (T12.out.below hb18 T12.out.lt)
  have T20 := Lib.hid (T13.out.below hb18 T13.out.lt)
  have T21 := Lib.hid (T11.out.below hb18 T11.out.lt)
  have F22 := Lib.hid (F14.out.below hb18 (Nat.le_refl _))
  have B23 := Lib.hid (B15.out.trans (hb18.mono B15.out.size))
  clear hb18
  have M24 := Lib.hid (load_rec T19.out)
  unfold rv at M24
  have C25 := Lib.hid (fewR_any a A ca w17 OKa.out F22.out)
  unfold Rc.v at C25
  unfold rv at C25
  rw [PA.out] at C25
  go_wp2_with (first | ((with_reducible refine wpList_load_by (o := ⟨some 19, .load 43 (.tmp 3), _, _, _, _⟩) ?e1 43 (.tmp 3) ?e2 ⟨w.heap.size, 0, none⟩ ?e3 _ M24.out ?_); (case e1 => rfl); (case e2 => rfl); (case e3 => rfl)))
  refine C25.out.mono ?_
  rintro e w26 ⟨rfl, hb27⟩
  have T28 := Lib.hid (T19.out.below hb27 T19.out.lt)
  have T29 := Lib.hid (T20.out.below hb27 T20.out.lt)
  have T30 := Lib.hid (T21.out.below hb27 T21.out.lt)
  have F31 := Lib.hid (F22.out.below hb27 (Nat.le_refl _))
  have B32 := Lib.hid (B23.out.trans (hb27.mono B23.out.size))
  clear hb27
  have M33 := Lib.hid (load_id T28.out)
  have s0 := T29.out.c0
  have s1 := T29.out.c1
  have D34 := Lib.hid (build_rec OKa.out.len n r w26)
  unfold rv at D34
  go_wp2_with (first | ((with_reducible refine wpList_load_by (o := ⟨some 22, .load 40 (.tmp 21), _, _, _, _⟩) ?e1 40 (.tmp 21) ?e2 ⟨w.heap.size, 0, none⟩ ?e3 _ M33.out ?_); (case e1 => rfl); (case e2 => rfl); (case e3 => rfl)) | ((with_reducible refine wpList_build_by (o := ⟨some 24, .build 43 #[(0, .tmp 22), (1, .tmp 23)], _, _, _, _⟩) ?e1 43 #[(0, .tmp 22), (1, .tmp 23)] ?e2 #[(0, .agg (bvals a.z)), (1, .agg #[.int .i64 n, .int .i64 r])] ?e3 _ D34.out ?_); (case e1 => rfl); (case e2 => rfl); (case e3 => (simp only [List.map_toArray, List.map_cons, List.map_nil]; rfl))) | ((with_reducible refine wpList_store_new (o := ⟨none, .store 43 (.tmp 9) (.tmp 24), _, _, _, _⟩) (w := w26) ?e1 (.tmp 9) (.tmp 24) ?e2 w26.heap.size rfl ?e3 (deadR a.z n r).z (deadR a.z n r).n (deadR a.z n r).r (.slice none (deadR a.z n r).fs.length 0) ?e4 OKd.out.len ?e5 ?_); (case e1 => rfl); (case e2 => rfl); (case e3 => rfl); (case e4 => rfl); (case e5 => rfl); intro w35 hb36 hRs; have T37 := Lib.hid hRs; clear hRs; have T38 := Lib.hid (T28.out.below hb36 T28.out.lt); have T39 := Lib.hid (T29.out.below hb36 T29.out.lt); have T40 := Lib.hid (T30.out.below hb36 T30.out.lt); have F41 := Lib.hid (F31.out.below hb36 (Nat.le_refl _)); have B42 := Lib.hid (B32.out.trans (hb36.mono B32.out.size)); clear hb36; have M43 := Lib.hid (load_id T38.out); clear s0 s1; have f0 := T40.out.c0; have f1 := T40.out.c1; have f2 := T40.out.c2; have f3 := T40.out.c3; have F44 := Lib.hid ((FsAt.nil w35 none 0 (by decide) (fun _ => rfl) : FsAt w35 none 0 (deadR a.z n r).fs)); have hb45 := (Below.refl w35.heap.size w35).alloc (Nat.le_refl _) (.cells #[.int .i64 f.no, .int .i64 f.c.n, .int .i64 f.c.r, .string f.c.s] 55); have T46 := Lib.hid (T38.out.below hb45 T38.out.lt); have T47 := Lib.hid (T37.out.below hb45 T37.out.lt); have T48 := Lib.hid (T39.out.below hb45 T39.out.lt); have T49 := Lib.hid (T40.out.below hb45 T40.out.lt); have F50 := Lib.hid (F41.out.below hb45 (Nat.le_refl _)); have F51 := Lib.hid (F44.out.below hb45 (Nat.le_refl _)); have B52 := Lib.hid (B42.out.trans (hb45.mono B42.out.size)); clear hb45; have F53 := Lib.hid ((fs_one w35 f : FsAt (w35.alloc (.cells #[.int .i64 f.no, .int .i64 f.c.n, .int .i64 f.c.r, .string f.c.s] 55)) (some ⟨w35.heap.size, 0, none⟩) 1 (oneR a.z f).fs)); have D54 := Lib.hid (build_one OKa.out.len (some ⟨w35.heap.size, 0, none⟩) 1 1 (w35.alloc (.cells #[.int .i64 f.no, .int .i64 f.c.n, .int .i64 f.c.r, .string f.c.s] 55))); unfold rv at D54) | ((with_reducible refine wpList_load_by (o := ⟨some 26, .load 40 (.tmp 25), _, _, _, _⟩) ?e1 40 (.tmp 25) ?e2 ⟨w.heap.size, 0, none⟩ ?e3 _ M43.out ?_); (case e1 => rfl); (case e2 => rfl); (case e3 => rfl)) | ((with_reducible refine wpList_build_by (o := ⟨some 29, .build 43 #[(0, .tmp 26), (2, .tmp 28)], _, _, _, _⟩) ?e1 43 #[(0, .tmp 26), (2, .tmp 28)] ?e2 #[(0, .agg (bvals a.z)), (2, .slice (some ⟨w35.heap.size, 0, none⟩) 1 1)] ?e3 _ D54.out ?_); (case e1 => rfl); (case e2 => rfl); (case e3 => (simp only [List.map_toArray, List.map_cons, List.map_nil]; rfl))) | ((with_reducible refine wpList_store_new (o := ⟨none, .store 43 (.tmp 10) (.tmp 29), _, _, _, _⟩) (w := (w35.alloc (.cells #[.int .i64 f.no, .int .i64 f.c.n, .int .i64 f.c.r, .string f.c.s] 55))) ?e1 (.tmp 10) (.tmp 29) ?e2 (w35.heap.size + 1) (by simp) ?e3 (oneR a.z f).z (oneR a.z f).n (oneR a.z f).r (.slice (some ⟨w35.heap.size, 0, none⟩) (oneR a.z f).fs.length 1) ?e4 OK1.out.len ?e5 ?_); (case e1 => rfl); (case e2 => rfl); (case e3 => rfl); (case e4 => rfl); (case e5 => rfl); intro w55 hb56 hRs; have T57 := Lib.hid hRs; clear hRs; have T58 := Lib.hid (T46.out.below hb56 T46.out.lt); have T59 := Lib.hid (T47.out.below hb56 T47.out.lt); have T60 := Lib.hid (T48.out.below hb56 T48.out.lt); have T61 := Lib.hid (T49.out.below hb56 T49.out.lt); have F62 := Lib.hid (F50.out.below hb56 (Nat.le_refl _)); have F63 := Lib.hid (F51.out.below hb56 (Nat.le_refl _)); have F64 := Lib.hid (F53.out.below hb56 (Nat.le_refl _)); have B65 := Lib.hid (B52.out.trans (hb56.mono B52.out.size)); clear hb56; clear f0 f1 f2 f3; have f3 := T61.out.c3; have M66 := Lib.hid (load_rec T58.out); unfold rv at M66; have C67 := Lib.hid (may_any' a A ca w55 OKa.out F62.out); unfold Rc.v at C67; unfold rv at C67; rw [MA.out] at C67) | ((with_reducible refine wpList_load_by (o := ⟨some 44, .load 43 (.tmp 3), _, _, _, _⟩) ?e1 43 (.tmp 3) ?e2 ⟨w.heap.size, 0, none⟩ ?e3 _ M66.out ?_); (case e1 => rfl); (case e2 => rfl); (case e3 => rfl)))
  refine C67.out.mono ?_
  rintro e w68 ⟨rfl, hb69⟩
  have T70 := Lib.hid (T58.out.below hb69 T58.out.lt)
  have T71 := Lib.hid (T59.out.below hb69 T59.out.lt)
  have T72 := Lib.hid (T57.out.below hb69 T57.out.lt)
  have T73 := Lib.hid (T60.out.below hb69 T60.out.lt)
  have T74 := Lib.hid (T61.out.below hb69 T61.out.lt)
  have F75 := Lib.hid (F62.out.below hb69 (Nat.le_refl _))
  have F76 := Lib.hid (F63.out.below hb69 (Nat.le_refl _))
  have F77 := Lib.hid (F64.out.below hb69 (Nat.le_refl _))
  have B78 := Lib.hid (B65.out.trans (hb69.mono B65.out.size))
  clear hb69
  have M79 := Lib.hid (load_rec T71.out)
  unfold rv at M79
  have C80 := Lib.hid (may_any' (deadR a.z n r) none 0 w68 OKd.out F76.out)
  unfold Rc.v at C80
  unfold rv at C80
  rw [MD.out] at C80
  go_wp2_with (first | ((with_reducible refine wpList_load_by (o := ⟨some 49, .load 43 (.tmp 9), _, _, _, _⟩) ?e1 43 (.tmp 9) ?e2 ⟨w26.heap.size, 0, none⟩ ?e3 _ M79.out ?_); (case e1 => rfl); (case e2 => rfl); (case e3 => rfl)))
  refine C80.out.mono ?_
  rintro e w81 ⟨rfl, hb82⟩
  have T83 := Lib.hid (T70.out.below hb82 T70.out.lt)
  have T84 := Lib.hid (T71.out.below hb82 T71.out.lt)
  have T85 := Lib.hid (T72.out.below hb82 T72.out.lt)
  have T86 := Lib.hid (T73.out.below hb82 T73.out.lt)
  have T87 := Lib.hid (T74.out.below hb82 T74.out.lt)
  have F88 := Lib.hid (F75.out.below hb82 (Nat.le_refl _))
  have F89 := Lib.hid (F76.out.below hb82 (Nat.le_refl _))
  have F90 := Lib.hid (F77.out.below hb82 (Nat.le_refl _))
  have B91 := Lib.hid (B78.out.trans (hb82.mono B78.out.size))
  clear hb82
  have M92 := Lib.hid (load_rec T85.out)
  unfold rv at M92
  have C93 := Lib.hid (may_any' (oneR a.z f) (some ⟨w35.heap.size, 0, none⟩) 1 w81 OK1.out F90.out)
  unfold Rc.v at C93
  unfold rv at C93
  rw [MO.out] at C93
  go_wp2_with (first | ((with_reducible refine wpList_load_by (o := ⟨some 54, .load 43 (.tmp 10), _, _, _, _⟩) ?e1 43 (.tmp 10) ?e2 ⟨(w35.heap.size + 1), 0, none⟩ ?e3 _ M92.out ?_); (case e1 => rfl); (case e2 => rfl); (case e3 => rfl)))
  refine C93.out.mono ?_
  rintro e w94 ⟨rfl, hb95⟩
  have T96 := Lib.hid (T83.out.below hb95 T83.out.lt)
  have T97 := Lib.hid (T84.out.below hb95 T84.out.lt)
  have T98 := Lib.hid (T85.out.below hb95 T85.out.lt)
  have T99 := Lib.hid (T86.out.below hb95 T86.out.lt)
  have T100 := Lib.hid (T87.out.below hb95 T87.out.lt)
  have F101 := Lib.hid (F88.out.below hb95 (Nat.le_refl _))
  have F102 := Lib.hid (F89.out.below hb95 (Nat.le_refl _))
  have F103 := Lib.hid (F90.out.below hb95 (Nat.le_refl _))
  have B104 := Lib.hid (B91.out.trans (hb95.mono B91.out.size))
  clear hb95
  go_wp2
  go_ret
  exact ⟨rfl, B104.out⟩
set_option maxHeartbeats 16000000 in
theorem dead_full (a : Rc) (A : Option Addr) (ca : Nat) (n r : Int) (f : Fld) (w : World) (hlaid : Laid w) (wa : IsRec w a A ca) (pa : fewR a.fs = true) (h3 : f.c.s.size ≤ 300) (ma : a.may = true) (md : (deadR a.z n r).may = true) (mo : (oneR a.z f).may = true) :
    Calls Tryd.prog 10 #[a.v A ca, st n r, f.v] w fun e w' => e = .returned (.bool true) ∧ Below w.heap.size w w' := by
  have HLA := Lib.hid (fun (X : World) (hX : Below w.heap.size w X) => hlaid.below hX (Nat.le_refl _))
  have OKa := Lib.hid wa.1
  have OKd : Hid (deadR a.z n r).Ok := Lib.hid (show (deadR a.z n r).Ok from wa.1)
  have OK1 : Hid (oneR a.z f).Ok := Lib.hid (show (oneR a.z f).Ok from wa.1)
  have Fa := Lib.hid wa.2.1
  have hz := zeroRec
  unfold rv at hz
  conv => congr; rfl; rfl; (unfold Rc.v rv Fld.v st)
  clear hlaid wa
  have PA := Lib.hid pa
  have t2 : decide (300 < (f.c.s.size : Int)) = false := decide_eq_false (by omega)
  clear pa h3
  have MA := Lib.hid ma
  clear ma
  have MD := Lib.hid md
  clear md
  have MO := Lib.hid mo
  clear mo
  have B1 := Lib.hid (Below.refl w.heap.size w)
  have T2n := RcAt.new w OKa.out.len a.n a.r (.slice A a.fs.length ca)
  have T2 := Lib.hid (T2n)
  clear T2n
  have B3 := Lib.hid (B1.out.alloc B1.out.size (.cells (rcells a.z a.n a.r (.slice A a.fs.length ca)) 43))
  have F4 := Lib.hid (Fa.out.below B3.out (Nat.le_refl _))
  have hb5 := (Below.refl (w.alloc (.cells (rcells a.z a.n a.r (.slice A a.fs.length ca)) 43)).heap.size (w.alloc (.cells (rcells a.z a.n a.r (.slice A a.fs.length ca)) 43))).alloc (Nat.le_refl _) (.cells #[.int .i64 n, .int .i64 r] 23)
  have T6n := StAt.new (w.alloc (.cells (rcells a.z a.n a.r (.slice A a.fs.length ca)) 43)) n r
  simp only [World.size_alloc] at T6n
  have T6 := Lib.hid (T6n)
  clear T6n
  have T7 := Lib.hid (T2.out.below hb5 T2.out.lt)
  have F8 := Lib.hid (F4.out.below hb5 (Nat.le_refl _))
  have B9 := Lib.hid (B3.out.trans (hb5.mono B3.out.size))
  clear hb5
  have hb10 := (Below.refl ((w.alloc (.cells (rcells a.z a.n a.r (.slice A a.fs.length ca)) 43)).alloc (.cells #[.int .i64 n, .int .i64 r] 23)).heap.size ((w.alloc (.cells (rcells a.z a.n a.r (.slice A a.fs.length ca)) 43)).alloc (.cells #[.int .i64 n, .int .i64 r] 23))).alloc (Nat.le_refl _) (.cells #[.int .i64 f.no, .int .i64 f.c.n, .int .i64 f.c.r, .string f.c.s] 55)
  have T11n := FlAt.new ((w.alloc (.cells (rcells a.z a.n a.r (.slice A a.fs.length ca)) 43)).alloc (.cells #[.int .i64 n, .int .i64 r] 23)) f
  simp only [World.size_alloc] at T11n
  have T11 := Lib.hid (T11n)
  clear T11n
  have T12 := Lib.hid (T7.out.below hb10 T7.out.lt)
  have T13 := Lib.hid (T6.out.below hb10 T6.out.lt)
  have F14 := Lib.hid (F8.out.below hb10 (Nat.le_refl _))
  have B15 := Lib.hid (B9.out.trans (hb10.mono B9.out.size))
  clear hb10
  go_enter Tryd.func10, Tryd.ntmps10
  have C16 := Lib.hid (rcAwake (((w.alloc (.cells (rcells a.z a.n a.r (.slice A a.fs.length ca)) 43)).alloc (.cells #[.int .i64 n, .int .i64 r] 23)).alloc (.cells #[.int .i64 f.no, .int .i64 f.c.n, .int .i64 f.c.r, .string f.c.s] 55)) (HLA.out _ B15.out))
  go_wp2_with fail
  refine C16.out.mono ?_
  rintro e w17 ⟨rfl, hb18⟩
  have T19 := Lib.hid (T12.out.below hb18 T12.out.lt)
  have T20 := Lib.hid (T13.out.below hb18 T13.out.lt)
  have T21 := Lib.hid (T11.out.below hb18 T11.out.lt)
  have F22 := Lib.hid (F14.out.below hb18 (Nat.le_refl _))
  have B23 := Lib.hid (B15.out.trans (hb18.mono B15.out.size))
  clear hb18
  have M24 := Lib.hid (load_rec T19.out)
  unfold rv at M24
  have C25 := Lib.hid (fewR_any a A ca w17 OKa.out F22.out)
  unfold Rc.v at C25
  unfold rv at C25
  rw [PA.out] at C25
  go_wp2_with (first | ((with_reducible refine wpList_load_by (o := ⟨some 19, .load 43 (.tmp 3), _, _, _, _⟩) ?e1 43 (.tmp 3) ?e2 ⟨w.heap.size, 0, none⟩ ?e3 _ M24.out ?_); (case e1 => rfl); (case e2 => rfl); (case e3 => rfl)))
  refine C25.out.mono ?_
  rintro e w26 ⟨rfl, hb27⟩
  have T28 := Lib.hid (T19.out.below hb27 T19.out.lt)
  have T29 := Lib.hid (T20.out.below hb27 T20.out.lt)
  have T30 := Lib.hid (T21.out.below hb27 T21.out.lt)
  have F31 := Lib.hid (F22.out.below hb27 (Nat.le_refl _))
  have B32 := Lib.hid (B23.out.trans (hb27.mono B23.out.size))
  clear hb27
  have M33 := Lib.hid (load_id T28.out)
  have s0 := T29.out.c0
  have s1 := T29.out.c1
  have D34 := Lib.hid (build_rec OKa.out.len n r w26)
  unfold rv at D34
  go_wp2_with (first | ((with_reducible refine wpList_load_by (o := ⟨some 22, .load 40 (.tmp 21), _, _, _, _⟩) ?e1 40 (.tmp 21) ?e2 ⟨w.heap.size, 0, none⟩ ?e3 _ M33.out ?_); (case e1 => rfl); (case e2 => rfl); (case e3 => rfl)) | ((with_reducible refine wpList_build_by (o := ⟨some 24, .build 43 #[(0, .tmp 22), (1, .tmp 23)], _, _, _, _⟩) ?e1 43 #[(0, .tmp 22), (1, .tmp 23)] ?e2 #[(0, .agg (bvals a.z)), (1, .agg #[.int .i64 n, .int .i64 r])] ?e3 _ D34.out ?_); (case e1 => rfl); (case e2 => rfl); (case e3 => (simp only [List.map_toArray, List.map_cons, List.map_nil]; rfl))) | ((with_reducible refine wpList_store_new (o := ⟨none, .store 43 (.tmp 9) (.tmp 24), _, _, _, _⟩) (w := w26) ?e1 (.tmp 9) (.tmp 24) ?e2 w26.heap.size rfl ?e3 (deadR a.z n r).z (deadR a.z n r).n (deadR a.z n r).r (.slice none (deadR a.z n r).fs.length 0) ?e4 OKd.out.len ?e5 ?_); (case e1 => rfl); (case e2 => rfl); (case e3 => rfl); (case e4 => rfl); (case e5 => rfl); intro w35 hb36 hRs; have T37 := Lib.hid hRs; clear hRs; have T38 := Lib.hid (T28.out.below hb36 T28.out.lt); have T39 := Lib.hid (T29.out.below hb36 T29.out.lt); have T40 := Lib.hid (T30.out.below hb36 T30.out.lt); have F41 := Lib.hid (F31.out.below hb36 (Nat.le_refl _)); have B42 := Lib.hid (B32.out.trans (hb36.mono B32.out.size)); clear hb36; have M43 := Lib.hid (load_id T38.out); clear s0 s1; have f0 := T40.out.c0; have f1 := T40.out.c1; have f2 := T40.out.c2; have f3 := T40.out.c3; have F44 := Lib.hid ((FsAt.nil w35 none 0 (by decide) (fun _ => rfl) : FsAt w35 none 0 (deadR a.z n r).fs)); have hb45 := (Below.refl w35.heap.size w35).alloc (Nat.le_refl _) (.cells #[.int .i64 f.no, .int .i64 f.c.n, .int .i64 f.c.r, .string f.c.s] 55); have T46 := Lib.hid (T38.out.below hb45 T38.out.lt); have T47 := Lib.hid (T37.out.below hb45 T37.out.lt); have T48 := Lib.hid (T39.out.below hb45 T39.out.lt); have T49 := Lib.hid (T40.out.below hb45 T40.out.lt); have F50 := Lib.hid (F41.out.below hb45 (Nat.le_refl _)); have F51 := Lib.hid (F44.out.below hb45 (Nat.le_refl _)); have B52 := Lib.hid (B42.out.trans (hb45.mono B42.out.size)); clear hb45; have F53 := Lib.hid ((fs_one w35 f : FsAt (w35.alloc (.cells #[.int .i64 f.no, .int .i64 f.c.n, .int .i64 f.c.r, .string f.c.s] 55)) (some ⟨w35.heap.size, 0, none⟩) 1 (oneR a.z f).fs)); have D54 := Lib.hid (build_one OKa.out.len (some ⟨w35.heap.size, 0, none⟩) 1 1 (w35.alloc (.cells #[.int .i64 f.no, .int .i64 f.c.n, .int .i64 f.c.r, .string f.c.s] 55))); unfold rv at D54) | ((with_reducible refine wpList_load_by (o := ⟨some 26, .load 40 (.tmp 25), _, _, _, _⟩) ?e1 40 (.tmp 25) ?e2 ⟨w.heap.size, 0, none⟩ ?e3 _ M43.out ?_); (case e1 => rfl); (case e2 => rfl); (case e3 => rfl)) | ((with_reducible refine wpList_build_by (o := ⟨some 29, .build 43 #[(0, .tmp 26), (2, .tmp 28)], _, _, _, _⟩) ?e1 43 #[(0, .tmp 26), (2, .tmp 28)] ?e2 #[(0, .agg (bvals a.z)), (2, .slice (some ⟨w35.heap.size, 0, none⟩) 1 1)] ?e3 _ D54.out ?_); (case e1 => rfl); (case e2 => rfl); (case e3 => (simp only [List.map_toArray, List.map_cons, List.map_nil]; rfl))) | ((with_reducible refine wpList_store_new (o := ⟨none, .store 43 (.tmp 10) (.tmp 29), _, _, _, _⟩) (w := (w35.alloc (.cells #[.int .i64 f.no, .int .i64 f.c.n, .int .i64 f.c.r, .string f.c.s] 55))) ?e1 (.tmp 10) (.tmp 29) ?e2 (w35.heap.size + 1) (by simp) ?e3 (oneR a.z f).z (oneR a.z f).n (oneR a.z f).r (.slice (some ⟨w35.heap.size, 0, none⟩) (oneR a.z f).fs.length 1) ?e4 OK1.out.len ?e5 ?_); (case e1 => rfl); (case e2 => rfl); (case e3 => rfl); (case e4 => rfl); (case e5 => rfl); intro w55 hb56 hRs; have T57 := Lib.hid hRs; clear hRs; have T58 := Lib.hid (T46.out.below hb56 T46.out.lt); have T59 := Lib.hid (T47.out.below hb56 T47.out.lt); have T60 := Lib.hid (T48.out.below hb56 T48.out.lt); have T61 := Lib.hid (T49.out.below hb56 T49.out.lt); have F62 := Lib.hid (F50.out.below hb56 (Nat.le_refl _)); have F63 := Lib.hid (F51.out.below hb56 (Nat.le_refl _)); have F64 := Lib.hid (F53.out.below hb56 (Nat.le_refl _)); have B65 := Lib.hid (B52.out.trans (hb56.mono B52.out.size)); clear hb56; clear f0 f1 f2 f3; have f3 := T61.out.c3; have M66 := Lib.hid (load_rec T58.out); unfold rv at M66; have C67 := Lib.hid (may_any' a A ca w55 OKa.out F62.out); unfold Rc.v at C67; unfold rv at C67; rw [MA.out] at C67) | ((with_reducible refine wpList_load_by (o := ⟨some 44, .load 43 (.tmp 3), _, _, _, _⟩) ?e1 43 (.tmp 3) ?e2 ⟨w.heap.size, 0, none⟩ ?e3 _ M66.out ?_); (case e1 => rfl); (case e2 => rfl); (case e3 => rfl)))
  refine C67.out.mono ?_
  rintro e w68 ⟨rfl, hb69⟩
  have T70 := Lib.hid (T58.out.below hb69 T58.out.lt)
  have T71 := Lib.hid (T59.out.below hb69 T59.out.lt)
  have T72 := Lib.hid (T57.out.below hb69 T57.out.lt)
  have T73 := Lib.hid (T60.out.below hb69 T60.out.lt)
  have T74 := Lib.hid (T61.out.below hb69 T61.out.lt)
  have F75 := Lib.hid (F62.out.below hb69 (Nat.le_refl _))
  have F76 := Lib.hid (F63.out.below hb69 (Nat.le_refl _))
  have F77 := Lib.hid (F64.out.below hb69 (Nat.le_refl _))
  have B78 := Lib.hid (B65.out.trans (hb69.mono B65.out.size))
  clear hb69
  have M79 := Lib.hid (load_rec T71.out)
  unfold rv at M79
  have C80 := Lib.hid (may_any' (deadR a.z n r) none 0 w68 OKd.out F76.out)
  unfold Rc.v at C80
  unfold rv at C80
  rw [MD.out] at C80
  go_wp2_with (first | ((with_reducible refine wpList_load_by (o := ⟨some 49, .load 43 (.tmp 9), _, _, _, _⟩) ?e1 43 (.tmp 9) ?e2 ⟨w26.heap.size, 0, none⟩ ?e3 _ M79.out ?_); (case e1 => rfl); (case e2 => rfl); (case e3 => rfl)))
  refine C80.out.mono ?_
  rintro e w81 ⟨rfl, hb82⟩
  have T83 := Lib.hid (T70.out.below hb82 T70.out.lt)
  have T84 := Lib.hid (T71.out.below hb82 T71.out.lt)
  have T85 := Lib.hid (T72.out.below hb82 T72.out.lt)
  have T86 := Lib.hid (T73.out.below hb82 T73.out.lt)
  have T87 := Lib.hid (T74.out.below hb82 T74.out.lt)
  have F88 := Lib.hid (F75.out.below hb82 (Nat.le_refl _))
  have F89 := Lib.hid (F76.out.below hb82 (Nat.le_refl _))
  have F90 := Lib.hid (F77.out.below hb82 (Nat.le_refl _))
  have B91 := Lib.hid (B78.out.trans (hb82.mono B78.out.size))
  clear hb82
  have M92 := Lib.hid (load_rec T85.out)
  unfold rv at M92
  have C93 := Lib.hid (may_any' (oneR a.z f) (some ⟨w35.heap.size, 0, none⟩) 1 w81 OK1.out F90.out)
  unfold Rc.v at C93
  unfold rv at C93
  rw [MO.out] at C93
  go_wp2_with (first | ((with_reducible refine wpList_load_by (o := ⟨some 54, .load 43 (.tmp 10), _, _, _, _⟩) ?e1 43 (.tmp 10) ?e2 ⟨(w35.heap.size + 1), 0, none⟩ ?e3 _ M92.out ?_); (case e1 => rfl); (case e2 => rfl); (case e3 => rfl)))
  refine C93.out.mono ?_
  rintro e w94 ⟨rfl, hb95⟩
  have T96 := Lib.hid (T83.out.below hb95 T83.out.lt)
  have T97 := Lib.hid (T84.out.below hb95 T84.out.lt)
  have T98 := Lib.hid (T85.out.below hb95 T85.out.lt)
  have T99 := Lib.hid (T86.out.below hb95 T86.out.lt)
  have T100 := Lib.hid (T87.out.below hb95 T87.out.lt)
  have F101 := Lib.hid (F88.out.below hb95 (Nat.le_refl _))
  have F102 := Lib.hid (F89.out.below hb95 (Nat.le_refl _))
  have F103 := Lib.hid (F90.out.below hb95 (Nat.le_refl _))
  have B104 := Lib.hid (B91.out.trans (hb95.mono B91.out.size))
  clear hb95
  have HC := Lib.hid F101.out.2.2.2
  have HN1 := F101.out.1
  have HN2 := F101.out.2.1
  simp only [maxLen] at HN2
  go_wp2
  go_loopw [11] (fun i wr => ∃ k : Nat, k ≤ a.fs.length ∧ i = .int .i64 k ∧ Below w94.heap.size w94 wr ∧ ∀ j, j < k → stLess n r (a.fs.getD j fld0).c.n (a.fs.getD j fld0).c.r = false) (fun i _ => a.fs.length - (intOf i).toNat)
  case atStart => exact ⟨0, Nat.zero_le _, rfl, Below.refl _ _, fun j h => by omega⟩
  case round =>
    obtain ⟨k, hk, rfl, hb, hf⟩ := hrel
    have d18 := (T96.out.below hb T96.out.lt).c18
    by_cases hlt : k < a.fs.length
    · obtain ⟨b, off, hA, hbB, hcc⟩ := HC.out (by omega)
      obtain ⟨_, c1, c2, _⟩ := hcc k hlt
      have c1 := (hb.cell (p := ⟨b, off + k * 4 + 1, none⟩) hbB).trans c1
      have c2 := (hb.cell (p := ⟨b, off + k * 4 + 2, none⟩) hbB).trans c2
      have IX := Lib.hid (ix_fld b off a.fs.length ca k hlt k rfl)
      have hB1 := Nat.lt_of_lt_of_le hbB hb.size
      rw [hA] at d18
      have D3 := Lib.hid (T96.out.below hb T96.out.lt)
      have D4 := Lib.hid (T99.out.below hb T99.out.lt)
      have HA := Lib.hid hA
      have HF := Lib.hid hf
      have HBB := Lib.hid hb
      have HLS := Lib.hid (fun (w9 : World) => stLess_any n r (a.fs.getD k fld0).c.n (a.fs.getD k fld0).c.r w9)
      have HS : Hid (∀ v, stLess n r (a.fs.getD k fld0).c.n (a.fs.getD k fld0).c.r = v → v = false → ∀ j, j < k + 1 → stLess n r (a.fs.getD j fld0).c.n (a.fs.getD j fld0).c.r = false) := Lib.hid (fun v h1 h2 j hj => by
        rcases (show j < k ∨ j = k by omega) with h | rfl
        · exact HF.out j h
        · rw [h1, h2])
      generalize a.fs.getD k fld0 = g at c1 c2 HLS HS
      generalize off + k * 4 = o at c1 c2 IX
      cases hv : stLess n r g.c.n g.c.r
      all_goals
        rw [hv] at HLS
        unfold st at HLS
        have HV := Lib.hid hv
        clear hcc hA hf hb hv
        go_wp2_with fail
        refine wp_region_G wr (by kernel_rfl) ?_
        refine wpG_take (i := 0) (oi := ⟨some 66, _, _, _, _, _⟩) (v := ?_) rfl (by kernel_rfl) (by kernel_rfl) (by kernel_rfl) (Or.inl ⟨by rfl, unib_val ?_⟩) ?_; rotate_left; (focus (intro w9 hSw; have q9 := D4.out.below hSw D4.out.lt; have q0 := q9.c0; have q1 := q9.c1; go_simp; try with_reducible rfl)); simp only [Act.put, List.setIfInBounds_toArray, List.set_cons_zero, List.set_cons_succ]
        refine wpG_take (i := 1) (oi := ⟨some 67, _, _, _, _, _⟩) (v := ?_) rfl (by kernel_rfl) (by kernel_rfl) (by kernel_rfl) (Or.inl ⟨by rfl, unib_val ?_⟩) ?_; rotate_left; (focus (intro w9 hSw; go_simp; try with_reducible rfl)); simp only [Act.put, List.setIfInBounds_toArray, List.set_cons_zero, List.set_cons_succ]
        refine wpG_take (i := 2) (oi := ⟨some 68, _, _, _, _, _⟩) (v := ?_) rfl (by kernel_rfl) (by kernel_rfl) (by kernel_rfl) (Or.inl ⟨by rfl, unib_val ?_⟩) ?_; rotate_left; (focus (intro w9 hSw; have q9 := D3.out.below hSw D3.out.lt; have q0 := q9.c18; rw [HA.out] at q0; go_simp; try with_reducible rfl)); simp only [Act.put, List.setIfInBounds_toArray, List.set_cons_zero, List.set_cons_succ]
        refine wpG_take (i := 3) (oi := ⟨some 69, _, _, _, _, _⟩) (v := ?_) rfl (by kernel_rfl) (by kernel_rfl) (by kernel_rfl) (Or.inl ⟨by rfl, unib_val ?_⟩) ?_; rotate_left; (focus (intro w9 hSw; go_simp; try with_reducible rfl)); simp only [Act.put, List.setIfInBounds_toArray, List.set_cons_zero, List.set_cons_succ]
        refine wpG_take (i := 4) (oi := ⟨some 70, _, _, _, _, _⟩) (v := ?_) rfl (by kernel_rfl) (by kernel_rfl) (by kernel_rfl) (Or.inl ⟨by rfl, unib_val ?_⟩) ?_; rotate_left; (focus (intro w9 hSw; have q0 := IX.out w9; go_simp; try with_reducible rfl)); simp only [Act.put, List.setIfInBounds_toArray, List.set_cons_zero, List.set_cons_succ]
        refine wpG_take (i := 5) (oi := ⟨some 71, _, _, _, _, _⟩) (v := ?_) rfl (by kernel_rfl) (by kernel_rfl) (by kernel_rfl) (Or.inl ⟨by rfl, unib_val ?_⟩) ?_; rotate_left; (focus (intro w9 hSw; go_simp; try with_reducible rfl)); simp only [Act.put, List.setIfInBounds_toArray, List.set_cons_zero, List.set_cons_succ]
        refine wpG_take (i := 6) (oi := ⟨some 72, _, _, _, _, _⟩) (v := ?_) rfl (by kernel_rfl) (by kernel_rfl) (by kernel_rfl) (Or.inl ⟨by rfl, unib_val ?_⟩) ?_; rotate_left; (focus (intro w9 hSw; go_simp; try with_reducible rfl)); simp only [Act.put, List.setIfInBounds_toArray, List.set_cons_zero, List.set_cons_succ]
        refine wpG_take (i := 7) (oi := ⟨some 73, _, _, _, _, _⟩) (v := ?_) rfl (by kernel_rfl) (by kernel_rfl) (by kernel_rfl) (Or.inl ⟨by rfl, unib_val ?_⟩) ?_; rotate_left; (focus (intro w9 hSw; have q0 := (hSw.cell (p := ⟨b, o + 1, none⟩) hB1).trans c1; have q1 := (hSw.cell (p := ⟨b, o + 2, none⟩) hB1).trans c2; go_simp; try with_reducible rfl)); simp only [Act.put, List.setIfInBounds_toArray, List.set_cons_zero, List.set_cons_succ]
        refine wpG_take (i := 8) (oi := ⟨some 74, _, _, _, _, _⟩) rfl (by kernel_rfl) (by kernel_rfl) (by kernel_rfl) (Or.inl ⟨by rfl, unib_call ?_ HLS.out⟩) ?_; (focus (intro w9 hSw; go_simp; try with_reducible rfl)); simp only [Act.put, List.setIfInBounds_toArray, List.set_cons_zero, List.set_cons_succ]
        refine wpG_done (by kernel_rfl) ?_ _
        intro w9 hSw _
        have HB9 := Lib.hid (HBB.out.trans (hSw.mono HBB.out.size))
        clear hSw
      · go_wp2
        go_roundw
        case rel => exact ⟨k + 1, by omega, by go_num, HB9.out, HS.out _ HV.out rfl⟩
        case measure => simp [intOf]; omega
      · go_wp2
        go_ret
        exact ⟨rfl, B104.out.trans (HB9.out.mono B104.out.size)⟩
    · obtain rfl : k = a.fs.length := by omega
      have hD := jn_dead (a := a) (n := n) (r := r) (fun g hg => by
        obtain ⟨j, hj, rfl⟩ := List.getElem_of_mem hg
        have := hf j hj
        rwa [List.getD_eq_getElem?_getD, List.getElem?_eq_getElem hj] at this)
      have jx := join_eq MA.out MD.out (rfl : a.z = (deadR a.z n r).z)
      have mx' := jn_may MA.out MD.out
      have okx := Rc.join_ok OKa.out jx
      have hxz : (jn a (deadR a.z n r)).z = a.z := rfl
      clear hf
      generalize jn a (deadR a.z n r) = x at hD jx mx' okx hxz
      have fy := find_one (x := x) (f := f) mx' (by rw [hxz]; exact MO.out) hD
      have jy := join_eq mx' MO.out hxz
      rw [hxz] at fy
      have oky := Rc.join_ok okx jy
      generalize jn x (oneR a.z f) = y at fy jy oky
      have JX := Lib.hid jx
      have JY := Lib.hid jy
      have OKx := Lib.hid okx
      have OKy := Lib.hid oky
      have XL := Lib.hid (show x.fs.length = 0 by rw [hD]; rfl)
      have ES := Lib.hid (cl_same f.c)
      clear jx jy okx oky hD mx' hxz
      cases hs : stLess x.n x.r f.c.n f.c.r
      · rw [if_neg (by rw [hs]; decide)] at fy
        have FY := Lib.hid fy
        have SX := Lib.hid hs
        clear fy hs
        have hb9 : Below w94.heap.size w94 wr := hb
        clear hb
        have T156 := Lib.hid (T96.out.below hb9 T96.out.lt)
        have T157 := Lib.hid (T97.out.below hb9 T97.out.lt)
        have T158 := Lib.hid (T98.out.below hb9 T98.out.lt)
        have T159 := Lib.hid (T99.out.below hb9 T99.out.lt)
        have T160 := Lib.hid (T100.out.below hb9 T100.out.lt)
        have F161 := Lib.hid (F101.out.below hb9 (Nat.le_refl _))
        have F162 := Lib.hid (F102.out.below hb9 (Nat.le_refl _))
        have F163 := Lib.hid (F103.out.below hb9 (Nat.le_refl _))
        have B164 := Lib.hid (B104.out.trans (hb9.mono B104.out.size))
        clear hb9
        obtain ⟨w155, hwx⟩ : ∃ u, u = wr := ⟨_, rfl⟩
        subst hwx
        have M168 := Lib.hid (load_rec T156.out)
        unfold rv at M168
        have M169 := Lib.hid (load_rec T157.out)
        unfold rv at M169
        have C170 := Lib.hid (join_any a (deadR a.z n r) A none ca 0 w155 (HLA.out _ B164.out) OKa.out OKd.out F161.out F162.out)
        unfold JoinPost Rc.v at C170
        unfold rv at C170
        rw [JX.out] at C170
        dsimp only [Option.getD, Option.isSome] at C170
        go_wp2_with (first | ((with_reducible refine wpList_load_by (o := ⟨some 76, .load 43 (.tmp 3), _, _, _, _⟩) ?e1 43 (.tmp 3) ?e2 ⟨w.heap.size, 0, none⟩ ?e3 _ M168.out ?_); (case e1 => rfl); (case e2 => rfl); (case e3 => rfl)) | ((with_reducible refine wpList_load_by (o := ⟨some 77, .load 43 (.tmp 9), _, _, _, _⟩) ?e1 43 (.tmp 9) ?e2 ⟨w26.heap.size, 0, none⟩ ?e3 _ M169.out ?_); (case e1 => rfl); (case e2 => rfl); (case e3 => rfl)))
        refine C170.out.mono ?_
        rintro e w171 ⟨A165, c166, rfl, hf167, hb172⟩
        have T173 := Lib.hid (T156.out.below hb172 T156.out.lt)
        have T174 := Lib.hid (T157.out.below hb172 T157.out.lt)
        have T175 := Lib.hid (T158.out.below hb172 T158.out.lt)
        have T176 := Lib.hid (T159.out.below hb172 T159.out.lt)
        have T177 := Lib.hid (T160.out.below hb172 T160.out.lt)
        have F178 := Lib.hid (F161.out.below hb172 (Nat.le_refl _))
        have F179 := Lib.hid (F162.out.below hb172 (Nat.le_refl _))
        have F180 := Lib.hid (F163.out.below hb172 (Nat.le_refl _))
        have B181 := Lib.hid (B164.out.trans (hb172.mono B164.out.size))
        clear hb172
        have F182 := Lib.hid (hf167)
        clear hf167
        go_wp2_with (first | ((with_reducible refine wpList_store_new (o := ⟨none, .store 43 (.tmp 12) (.tmp 79), _, _, _, _⟩) (w := w171) ?e1 (.tmp 12) (.tmp 79) ?e2 w171.heap.size rfl ?e3 x.z x.n x.r (.slice A165 x.fs.length c166) ?e4 OKx.out.len ?e5 ?_); (case e1 => rfl); (case e2 => rfl); (case e3 => rfl); (case e4 => rfl); (case e5 => rfl); intro w186 hb187 hRs; have T188 := Lib.hid hRs; clear hRs; have T189 := Lib.hid (T173.out.below hb187 T173.out.lt); have T190 := Lib.hid (T174.out.below hb187 T174.out.lt); have T191 := Lib.hid (T175.out.below hb187 T175.out.lt); have T192 := Lib.hid (T176.out.below hb187 T176.out.lt); have T193 := Lib.hid (T177.out.below hb187 T177.out.lt); have F194 := Lib.hid (F178.out.below hb187 (Nat.le_refl _)); have F195 := Lib.hid (F179.out.below hb187 (Nat.le_refl _)); have F196 := Lib.hid (F180.out.below hb187 (Nat.le_refl _)); have F197 := Lib.hid (F182.out.below hb187 (Nat.le_refl _)); have B198 := Lib.hid (B181.out.trans (hb187.mono B181.out.size)); clear hb187; have M199 := Lib.hid (load_rec T188.out); unfold rv at M199; have M200 := Lib.hid (load_rec T191.out); unfold rv at M200; have C201 := Lib.hid (join_any x (oneR a.z f) A165 (some ⟨w35.heap.size, 0, none⟩) c166 1 w186 (HLA.out _ B198.out) OKx.out OK1.out F197.out F196.out); unfold JoinPost Rc.v at C201; unfold rv at C201; rw [JY.out] at C201; dsimp only [Option.getD, Option.isSome] at C201) | ((with_reducible refine wpList_load_by (o := ⟨some 82, .load 43 (.tmp 12), _, _, _, _⟩) ?e1 43 (.tmp 12) ?e2 ⟨w171.heap.size, 0, none⟩ ?e3 _ M199.out ?_); (case e1 => rfl); (case e2 => rfl); (case e3 => rfl)) | ((with_reducible refine wpList_load_by (o := ⟨some 83, .load 43 (.tmp 10), _, _, _, _⟩) ?e1 43 (.tmp 10) ?e2 ⟨(w35.heap.size + 1), 0, none⟩ ?e3 _ M200.out ?_); (case e1 => rfl); (case e2 => rfl); (case e3 => rfl)))
        refine C201.out.mono ?_
        rintro e w202 ⟨A183, c184, rfl, hf185, hb203⟩
        have T204 := Lib.hid (T189.out.below hb203 T189.out.lt)
        have T205 := Lib.hid (T190.out.below hb203 T190.out.lt)
        have T206 := Lib.hid (T191.out.below hb203 T191.out.lt)
        have T207 := Lib.hid (T188.out.below hb203 T188.out.lt)
        have T208 := Lib.hid (T192.out.below hb203 T192.out.lt)
        have T209 := Lib.hid (T193.out.below hb203 T193.out.lt)
        have F210 := Lib.hid (F194.out.below hb203 (Nat.le_refl _))
        have F211 := Lib.hid (F195.out.below hb203 (Nat.le_refl _))
        have F212 := Lib.hid (F196.out.below hb203 (Nat.le_refl _))
        have F213 := Lib.hid (F197.out.below hb203 (Nat.le_refl _))
        have B214 := Lib.hid (B198.out.trans (hb203.mono B198.out.size))
        clear hb203
        have F215 := Lib.hid (hf185)
        clear hf185
        go_wp2_with (first | ((with_reducible refine wpList_store_new (o := ⟨none, .store 43 (.tmp 14) (.tmp 85), _, _, _, _⟩) (w := w202) ?e1 (.tmp 14) (.tmp 85) ?e2 w202.heap.size rfl ?e3 y.z y.n y.r (.slice A183 y.fs.length c184) ?e4 OKy.out.len ?e5 ?_); (case e1 => rfl); (case e2 => rfl); (case e3 => rfl); (case e4 => rfl); (case e5 => rfl); intro w216 hb217 hRs; have T218 := Lib.hid hRs; clear hRs; have T219 := Lib.hid (T204.out.below hb217 T204.out.lt); have T220 := Lib.hid (T205.out.below hb217 T205.out.lt); have T221 := Lib.hid (T206.out.below hb217 T206.out.lt); have T222 := Lib.hid (T207.out.below hb217 T207.out.lt); have T223 := Lib.hid (T208.out.below hb217 T208.out.lt); have T224 := Lib.hid (T209.out.below hb217 T209.out.lt); have F225 := Lib.hid (F210.out.below hb217 (Nat.le_refl _)); have F226 := Lib.hid (F211.out.below hb217 (Nat.le_refl _)); have F227 := Lib.hid (F212.out.below hb217 (Nat.le_refl _)); have F228 := Lib.hid (F213.out.below hb217 (Nat.le_refl _)); have F229 := Lib.hid (F215.out.below hb217 (Nat.le_refl _)); have B230 := Lib.hid (B214.out.trans (hb217.mono B214.out.size)); clear hb217; have M231 := Lib.hid (load_rec T218.out); unfold rv at M231; have C232 := Lib.hid (find_any' y A183 c184 f.no w216 OKy.out F229.out); unfold FindPost Rc.v at C232; unfold rv at C232; rw [FY.out] at C232; dsimp only [Option.getD, Option.isSome, Cel.v, cel00] at C232; have f0 := T224.out.c0) | ((with_reducible refine wpList_load_by (o := ⟨some 88, .load 43 (.tmp 14), _, _, _, _⟩) ?e1 43 (.tmp 14) ?e2 ⟨w202.heap.size, 0, none⟩ ?e3 _ M231.out ?_); (case e1 => rfl); (case e2 => rfl); (case e3 => rfl)))
        refine C232.out.mono ?_
        rintro e w233 ⟨rfl, hb234⟩
        have T235 := Lib.hid (T219.out.below hb234 T219.out.lt)
        have T236 := Lib.hid (T220.out.below hb234 T220.out.lt)
        have T237 := Lib.hid (T221.out.below hb234 T221.out.lt)
        have T238 := Lib.hid (T222.out.below hb234 T222.out.lt)
        have T239 := Lib.hid (T218.out.below hb234 T218.out.lt)
        have T240 := Lib.hid (T223.out.below hb234 T223.out.lt)
        have T241 := Lib.hid (T224.out.below hb234 T224.out.lt)
        have F242 := Lib.hid (F225.out.below hb234 (Nat.le_refl _))
        have F243 := Lib.hid (F226.out.below hb234 (Nat.le_refl _))
        have F244 := Lib.hid (F227.out.below hb234 (Nat.le_refl _))
        have F245 := Lib.hid (F228.out.below hb234 (Nat.le_refl _))
        have F246 := Lib.hid (F229.out.below hb234 (Nat.le_refl _))
        have B247 := Lib.hid (B230.out.trans (hb234.mono B230.out.size))
        clear hb234
        clear f0
        have hb248 := (Below.refl w233.heap.size w233).alloc (Nat.le_refl _) (.cells #[.int .i64 0, .int .i64 0, .string ⟨#[]⟩] 25)
        have T249 := Lib.hid (ClAt.new w233 (⟨0, 0, ⟨#[]⟩⟩ : Cel))
        try dsimp only at T249
        have T250 := Lib.hid (T235.out.below hb248 T235.out.lt)
        have T251 := Lib.hid (T236.out.below hb248 T236.out.lt)
        have T252 := Lib.hid (T237.out.below hb248 T237.out.lt)
        have T253 := Lib.hid (T238.out.below hb248 T238.out.lt)
        have T254 := Lib.hid (T239.out.below hb248 T239.out.lt)
        have T255 := Lib.hid (T240.out.below hb248 T240.out.lt)
        have T256 := Lib.hid (T241.out.below hb248 T241.out.lt)
        have F257 := Lib.hid (F242.out.below hb248 (Nat.le_refl _))
        have F258 := Lib.hid (F243.out.below hb248 (Nat.le_refl _))
        have F259 := Lib.hid (F244.out.below hb248 (Nat.le_refl _))
        have F260 := Lib.hid (F245.out.below hb248 (Nat.le_refl _))
        have F261 := Lib.hid (F246.out.below hb248 (Nat.le_refl _))
        have B262 := Lib.hid (B247.out.trans (hb248.mono B247.out.size))
        clear hb248
        have d16 := T253.out.c16
        have d17 := T253.out.c17
        have d18 := T253.out.c18
        rw [XL.out] at d18
        have f1 := T256.out.c1
        have f2 := T256.out.c2
        have f3 := T256.out.c3
        have k0 := T249.out.c0
        have k1 := T249.out.c1
        have k2 := T249.out.c2
        have C263 := Lib.hid (stLess_any x.n x.r f.c.n f.c.r (w233.alloc (.cells #[.int .i64 0, .int .i64 0, .string ⟨#[]⟩] 25)))
        unfold st at C263
        rw [SX.out] at C263
        go_wp2_with fail
        refine C263.out.mono ?_
        rintro e w264 ⟨rfl, hb265⟩
        have T266 := Lib.hid (T250.out.below hb265 T250.out.lt)
        have T267 := Lib.hid (T251.out.below hb265 T251.out.lt)
        have T268 := Lib.hid (T252.out.below hb265 T252.out.lt)
        have T269 := Lib.hid (T253.out.below hb265 T253.out.lt)
        have T270 := Lib.hid (T254.out.below hb265 T254.out.lt)
        have T271 := Lib.hid (T255.out.below hb265 T255.out.lt)
        have T272 := Lib.hid (T256.out.below hb265 T256.out.lt)
        have T273 := Lib.hid (T249.out.below hb265 T249.out.lt)
        have F274 := Lib.hid (F257.out.below hb265 (Nat.le_refl _))
        have F275 := Lib.hid (F258.out.below hb265 (Nat.le_refl _))
        have F276 := Lib.hid (F259.out.below hb265 (Nat.le_refl _))
        have F277 := Lib.hid (F260.out.below hb265 (Nat.le_refl _))
        have F278 := Lib.hid (F261.out.below hb265 (Nat.le_refl _))
        have B279 := Lib.hid (B262.out.trans (hb265.mono B262.out.size))
        clear hb265
        clear d16 d17 d18 f1 f2 f3 k0 k1 k2
        have d16 := T269.out.c16
        have d17 := T269.out.c17
        have d18 := T269.out.c18
        rw [XL.out] at d18
        have f1 := T272.out.c1
        have f2 := T272.out.c2
        have f3 := T272.out.c3
        have k0 := T273.out.c0
        have k1 := T273.out.c1
        have k2 := T273.out.c2
        have es := ES.out
        go_wp2
        go_ret
        exact ⟨rfl, B279.out⟩
      · rw [if_pos hs] at fy
        have FY := Lib.hid fy
        have SX := Lib.hid hs
        clear fy hs
        have hb9 : Below w94.heap.size w94 wr := hb
        clear hb
        have T156 := Lib.hid (T96.out.below hb9 T96.out.lt)
        have T157 := Lib.hid (T97.out.below hb9 T97.out.lt)
        have T158 := Lib.hid (T98.out.below hb9 T98.out.lt)
        have T159 := Lib.hid (T99.out.below hb9 T99.out.lt)
        have T160 := Lib.hid (T100.out.below hb9 T100.out.lt)
        have F161 := Lib.hid (F101.out.below hb9 (Nat.le_refl _))
        have F162 := Lib.hid (F102.out.below hb9 (Nat.le_refl _))
        have F163 := Lib.hid (F103.out.below hb9 (Nat.le_refl _))
        have B164 := Lib.hid (B104.out.trans (hb9.mono B104.out.size))
        clear hb9
        obtain ⟨w155, hwx⟩ : ∃ u, u = wr := ⟨_, rfl⟩
        subst hwx
        have M168 := Lib.hid (load_rec T156.out)
        unfold rv at M168
        have M169 := Lib.hid (load_rec T157.out)
        unfold rv at M169
        have C170 := Lib.hid (join_any a (deadR a.z n r) A none ca 0 w155 (HLA.out _ B164.out) OKa.out OKd.out F161.out F162.out)
        unfold JoinPost Rc.v at C170
        unfold rv at C170
        rw [JX.out] at C170
        dsimp only [Option.getD, Option.isSome] at C170
        go_wp2_with (first | ((with_reducible refine wpList_load_by (o := ⟨some 76, .load 43 (.tmp 3), _, _, _, _⟩) ?e1 43 (.tmp 3) ?e2 ⟨w.heap.size, 0, none⟩ ?e3 _ M168.out ?_); (case e1 => rfl); (case e2 => rfl); (case e3 => rfl)) | ((with_reducible refine wpList_load_by (o := ⟨some 77, .load 43 (.tmp 9), _, _, _, _⟩) ?e1 43 (.tmp 9) ?e2 ⟨w26.heap.size, 0, none⟩ ?e3 _ M169.out ?_); (case e1 => rfl); (case e2 => rfl); (case e3 => rfl)))
        refine C170.out.mono ?_
        rintro e w171 ⟨A165, c166, rfl, hf167, hb172⟩
        have T173 := Lib.hid (T156.out.below hb172 T156.out.lt)
        have T174 := Lib.hid (T157.out.below hb172 T157.out.lt)
        have T175 := Lib.hid (T158.out.below hb172 T158.out.lt)
        have T176 := Lib.hid (T159.out.below hb172 T159.out.lt)
        have T177 := Lib.hid (T160.out.below hb172 T160.out.lt)
        have F178 := Lib.hid (F161.out.below hb172 (Nat.le_refl _))
        have F179 := Lib.hid (F162.out.below hb172 (Nat.le_refl _))
        have F180 := Lib.hid (F163.out.below hb172 (Nat.le_refl _))
        have B181 := Lib.hid (B164.out.trans (hb172.mono B164.out.size))
        clear hb172
        have F182 := Lib.hid (hf167)
        clear hf167
        go_wp2_with (first | ((with_reducible refine wpList_store_new (o := ⟨none, .store 43 (.tmp 12) (.tmp 79), _, _, _, _⟩) (w := w171) ?e1 (.tmp 12) (.tmp 79) ?e2 w171.heap.size rfl ?e3 x.z x.n x.r (.slice A165 x.fs.length c166) ?e4 OKx.out.len ?e5 ?_); (case e1 => rfl); (case e2 => rfl); (case e3 => rfl); (case e4 => rfl); (case e5 => rfl); intro w186 hb187 hRs; have T188 := Lib.hid hRs; clear hRs; have T189 := Lib.hid (T173.out.below hb187 T173.out.lt); have T190 := Lib.hid (T174.out.below hb187 T174.out.lt); have T191 := Lib.hid (T175.out.below hb187 T175.out.lt); have T192 := Lib.hid (T176.out.below hb187 T176.out.lt); have T193 := Lib.hid (T177.out.below hb187 T177.out.lt); have F194 := Lib.hid (F178.out.below hb187 (Nat.le_refl _)); have F195 := Lib.hid (F179.out.below hb187 (Nat.le_refl _)); have F196 := Lib.hid (F180.out.below hb187 (Nat.le_refl _)); have F197 := Lib.hid (F182.out.below hb187 (Nat.le_refl _)); have B198 := Lib.hid (B181.out.trans (hb187.mono B181.out.size)); clear hb187; have M199 := Lib.hid (load_rec T188.out); unfold rv at M199; have M200 := Lib.hid (load_rec T191.out); unfold rv at M200; have C201 := Lib.hid (join_any x (oneR a.z f) A165 (some ⟨w35.heap.size, 0, none⟩) c166 1 w186 (HLA.out _ B198.out) OKx.out OK1.out F197.out F196.out); unfold JoinPost Rc.v at C201; unfold rv at C201; rw [JY.out] at C201; dsimp only [Option.getD, Option.isSome] at C201) | ((with_reducible refine wpList_load_by (o := ⟨some 82, .load 43 (.tmp 12), _, _, _, _⟩) ?e1 43 (.tmp 12) ?e2 ⟨w171.heap.size, 0, none⟩ ?e3 _ M199.out ?_); (case e1 => rfl); (case e2 => rfl); (case e3 => rfl)) | ((with_reducible refine wpList_load_by (o := ⟨some 83, .load 43 (.tmp 10), _, _, _, _⟩) ?e1 43 (.tmp 10) ?e2 ⟨(w35.heap.size + 1), 0, none⟩ ?e3 _ M200.out ?_); (case e1 => rfl); (case e2 => rfl); (case e3 => rfl)))
        refine C201.out.mono ?_
        rintro e w202 ⟨A183, c184, rfl, hf185, hb203⟩
        have T204 := Lib.hid (T189.out.below hb203 T189.out.lt)
        have T205 := Lib.hid (T190.out.below hb203 T190.out.lt)
        have T206 := Lib.hid (T191.out.below hb203 T191.out.lt)
        have T207 := Lib.hid (T188.out.below hb203 T188.out.lt)
        have T208 := Lib.hid (T192.out.below hb203 T192.out.lt)
        have T209 := Lib.hid (T193.out.below hb203 T193.out.lt)
        have F210 := Lib.hid (F194.out.below hb203 (Nat.le_refl _))
        have F211 := Lib.hid (F195.out.below hb203 (Nat.le_refl _))
        have F212 := Lib.hid (F196.out.below hb203 (Nat.le_refl _))
        have F213 := Lib.hid (F197.out.below hb203 (Nat.le_refl _))
        have B214 := Lib.hid (B198.out.trans (hb203.mono B198.out.size))
        clear hb203
        have F215 := Lib.hid (hf185)
        clear hf185
        go_wp2_with (first | ((with_reducible refine wpList_store_new (o := ⟨none, .store 43 (.tmp 14) (.tmp 85), _, _, _, _⟩) (w := w202) ?e1 (.tmp 14) (.tmp 85) ?e2 w202.heap.size rfl ?e3 y.z y.n y.r (.slice A183 y.fs.length c184) ?e4 OKy.out.len ?e5 ?_); (case e1 => rfl); (case e2 => rfl); (case e3 => rfl); (case e4 => rfl); (case e5 => rfl); intro w216 hb217 hRs; have T218 := Lib.hid hRs; clear hRs; have T219 := Lib.hid (T204.out.below hb217 T204.out.lt); have T220 := Lib.hid (T205.out.below hb217 T205.out.lt); have T221 := Lib.hid (T206.out.below hb217 T206.out.lt); have T222 := Lib.hid (T207.out.below hb217 T207.out.lt); have T223 := Lib.hid (T208.out.below hb217 T208.out.lt); have T224 := Lib.hid (T209.out.below hb217 T209.out.lt); have F225 := Lib.hid (F210.out.below hb217 (Nat.le_refl _)); have F226 := Lib.hid (F211.out.below hb217 (Nat.le_refl _)); have F227 := Lib.hid (F212.out.below hb217 (Nat.le_refl _)); have F228 := Lib.hid (F213.out.below hb217 (Nat.le_refl _)); have F229 := Lib.hid (F215.out.below hb217 (Nat.le_refl _)); have B230 := Lib.hid (B214.out.trans (hb217.mono B214.out.size)); clear hb217; have M231 := Lib.hid (load_rec T218.out); unfold rv at M231; have C232 := Lib.hid (find_any' y A183 c184 f.no w216 OKy.out F229.out); unfold FindPost Rc.v at C232; unfold rv at C232; rw [FY.out] at C232; dsimp only [Option.getD, Option.isSome, Cel.v, cel00] at C232; have f0 := T224.out.c0) | ((with_reducible refine wpList_load_by (o := ⟨some 88, .load 43 (.tmp 14), _, _, _, _⟩) ?e1 43 (.tmp 14) ?e2 ⟨w202.heap.size, 0, none⟩ ?e3 _ M231.out ?_); (case e1 => rfl); (case e2 => rfl); (case e3 => rfl)))
        refine C232.out.mono ?_
        rintro e w233 ⟨rfl, hb234⟩
        have T235 := Lib.hid (T219.out.below hb234 T219.out.lt)
        have T236 := Lib.hid (T220.out.below hb234 T220.out.lt)
        have T237 := Lib.hid (T221.out.below hb234 T221.out.lt)
        have T238 := Lib.hid (T222.out.below hb234 T222.out.lt)
        have T239 := Lib.hid (T218.out.below hb234 T218.out.lt)
        have T240 := Lib.hid (T223.out.below hb234 T223.out.lt)
        have T241 := Lib.hid (T224.out.below hb234 T224.out.lt)
        have F242 := Lib.hid (F225.out.below hb234 (Nat.le_refl _))
        have F243 := Lib.hid (F226.out.below hb234 (Nat.le_refl _))
        have F244 := Lib.hid (F227.out.below hb234 (Nat.le_refl _))
        have F245 := Lib.hid (F228.out.below hb234 (Nat.le_refl _))
        have F246 := Lib.hid (F229.out.below hb234 (Nat.le_refl _))
        have B247 := Lib.hid (B230.out.trans (hb234.mono B230.out.size))
        clear hb234
        clear f0
        have hb248 := (Below.refl w233.heap.size w233).alloc (Nat.le_refl _) (.cells #[.int .i64 f.c.n, .int .i64 f.c.r, .string f.c.s] 25)
        have T249 := Lib.hid (ClAt.new w233 f.c)
        try dsimp only at T249
        have T250 := Lib.hid (T235.out.below hb248 T235.out.lt)
        have T251 := Lib.hid (T236.out.below hb248 T236.out.lt)
        have T252 := Lib.hid (T237.out.below hb248 T237.out.lt)
        have T253 := Lib.hid (T238.out.below hb248 T238.out.lt)
        have T254 := Lib.hid (T239.out.below hb248 T239.out.lt)
        have T255 := Lib.hid (T240.out.below hb248 T240.out.lt)
        have T256 := Lib.hid (T241.out.below hb248 T241.out.lt)
        have F257 := Lib.hid (F242.out.below hb248 (Nat.le_refl _))
        have F258 := Lib.hid (F243.out.below hb248 (Nat.le_refl _))
        have F259 := Lib.hid (F244.out.below hb248 (Nat.le_refl _))
        have F260 := Lib.hid (F245.out.below hb248 (Nat.le_refl _))
        have F261 := Lib.hid (F246.out.below hb248 (Nat.le_refl _))
        have B262 := Lib.hid (B247.out.trans (hb248.mono B247.out.size))
        clear hb248
        have d16 := T253.out.c16
        have d17 := T253.out.c17
        have d18 := T253.out.c18
        rw [XL.out] at d18
        have f1 := T256.out.c1
        have f2 := T256.out.c2
        have f3 := T256.out.c3
        have k0 := T249.out.c0
        have k1 := T249.out.c1
        have k2 := T249.out.c2
        have C263 := Lib.hid (stLess_any x.n x.r f.c.n f.c.r (w233.alloc (.cells #[.int .i64 f.c.n, .int .i64 f.c.r, .string f.c.s] 25)))
        unfold st at C263
        rw [SX.out] at C263
        go_wp2_with fail
        refine C263.out.mono ?_
        rintro e w264 ⟨rfl, hb265⟩
        have T266 := Lib.hid (T250.out.below hb265 T250.out.lt)
        have T267 := Lib.hid (T251.out.below hb265 T251.out.lt)
        have T268 := Lib.hid (T252.out.below hb265 T252.out.lt)
        have T269 := Lib.hid (T253.out.below hb265 T253.out.lt)
        have T270 := Lib.hid (T254.out.below hb265 T254.out.lt)
        have T271 := Lib.hid (T255.out.below hb265 T255.out.lt)
        have T272 := Lib.hid (T256.out.below hb265 T256.out.lt)
        have T273 := Lib.hid (T249.out.below hb265 T249.out.lt)
        have F274 := Lib.hid (F257.out.below hb265 (Nat.le_refl _))
        have F275 := Lib.hid (F258.out.below hb265 (Nat.le_refl _))
        have F276 := Lib.hid (F259.out.below hb265 (Nat.le_refl _))
        have F277 := Lib.hid (F260.out.below hb265 (Nat.le_refl _))
        have F278 := Lib.hid (F261.out.below hb265 (Nat.le_refl _))
        have B279 := Lib.hid (B262.out.trans (hb265.mono B262.out.size))
        clear hb265
        clear d16 d17 d18 f1 f2 f3 k0 k1 k2
        have d16 := T269.out.c16
        have d17 := T269.out.c17
        have d18 := T269.out.c18
        rw [XL.out] at d18
        have f1 := T272.out.c1
        have f2 := T272.out.c2
        have f3 := T272.out.c3
        have k0 := T273.out.c0
        have k1 := T273.out.c1
        have k2 := T273.out.c2
        have es := ES.out
        go_wp2
        go_ret
        exact ⟨rfl, B279.out⟩
theorem walk_recDead (a : Rc) (A : Option Addr) (ca : Nat) (n r : Int) (f : Fld) (w : World) (hlaid : Laid w) (wa : IsRec w a A ca) (_ : (Lit.int .i64 n).wf = true) (_ : IsFld f) :
    Calls Tryd.prog 10 #[a.v A ca, st n r, f.v] w fun e w' => e = .returned (.bool true) ∧ Below w.heap.size w w' := by
  cases pa : fewR a.fs
  · exact dead_few a A ca n r f w hlaid wa pa
  by_cases h3 : f.c.s.size ≤ 300
  case neg => exact dead_long a A ca n r f w hlaid wa pa h3
  cases ma : a.may
  · exact dead_ma a A ca n r f w hlaid wa pa h3 ma
  cases md : (deadR a.z n r).may
  · exact dead_md a A ca n r f w hlaid wa pa h3 ma md
  cases mo : (oneR a.z f).may
  · exact dead_mo a A ca n r f w hlaid wa pa h3 ma md mo
  exact dead_full a A ca n r f w hlaid wa pa h3 ma md mo
end Go.Proofs.YtonbhcbkelmhgaaDoor
