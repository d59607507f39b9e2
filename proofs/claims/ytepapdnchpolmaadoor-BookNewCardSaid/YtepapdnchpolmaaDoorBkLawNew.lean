import Derived.Test.YtepapdnchpolmaaDoorBkAwake
import Derived.Test.YtepapdnchpolmaaDoorGArgs
import Derived.Test.YtepapdnchpolmaaDoorBkFew
import Derived.Test.YtepapdnchpolmaaDoorBkNewMath
/-
  The law BookNew: for every book, name, number, writer and text it answers true, and nothing that was there is written.
-/
namespace Go.Proofs.YtepapdnchpolmaaDoor
open Go.RowKit WM
set_option linter.unusedVariables false
set_option maxRecDepth 100000
theorem bmay_fs {d : Bk} {X : List Rc} (h : d.rs = X) (hm : bmay X = true) : ∀ x ∈ d.xs, x.R.fs.length ≤ 1000 := by
  subst h
  intro x hx
  have := rmay_len ((bmay_iff.1 hm).2.1 x.R (List.mem_map_of_mem hx))
  omega
set_option maxHeartbeats 16000000 in
theorem bnew_few (b : Bk) (z : List Int) (no q : Int) (s : ByteArray) (w : World) (hlaid : Laid w) (wb : BkAt w b) (wz : z.length = 16 ∧ AllBytes z) (ws : s.size ≤ maxLen) (iPB : fewB b.rs = false) :
    Calls Tryd.prog 7 #[.agg #[.slice b.A b.xs.length b.c], .agg (bvals z), .int .i64 no, .int .i64 q, .string s] w fun e w' => e = .returned (.bool true) ∧ Below w.heap.size w w' := by
  have HLA := Lib.hid (fun (X : World) (hX : Below w.heap.size w X) => hlaid.below hX (Nat.le_refl _))
  have Fb := Lib.hid wb
  have ZI := Lib.hid wz
  have hz := zeroX
  have PB := Lib.hid iPB
  clear hlaid wb wz ws iPB
  have B1 := Lib.hid (Below.refl w.heap.size w)
  have T2n := BoAt.new w (.slice b.A b.xs.length b.c)
  have T2 := Lib.hid T2n
  clear T2n
  have B3 := Lib.hid (B1.out.alloc B1.out.size (.cells #[(.slice b.A b.xs.length b.c)] 41))
  have T4 := Lib.hid (T2.out.old (.cells (bvals z) 23))
  have T5n := IdAt.new (w.alloc (.cells #[(.slice b.A b.xs.length b.c)] 41)) ZI.out.1
  simp only [World.size_alloc] at T5n
  have T5 := Lib.hid T5n
  clear T5n
  have B6 := Lib.hid (B3.out.alloc B3.out.size (.cells (bvals z) 23))
  have F7 := Lib.hid (Fb.out.below B6.out (Nat.le_refl _))
  go_enter Tryd.func7, Tryd.ntmps7
  have C8 := Lib.hid (bkAwake ((w.alloc (.cells #[(.slice b.A b.xs.length b.c)] 41)).alloc (.cells (bvals z) 23)) (HLA.out _ B6.out))
  go_wp2_with fail
  refine C8.out.mono ?_
  rintro e w9 ⟨rfl, hb10⟩
  have T11 := Lib.hid (T4.out.below hb10 T4.out.lt)
  have T12 := Lib.hid (T5.out.below hb10 T5.out.lt)
  have F13 := Lib.hid (F7.out.below hb10 (Nat.le_refl _))
  have B14 := Lib.hid (B6.out.trans (hb10.mono B6.out.size))
  clear hb10
  have M15 := Lib.hid (T11.out.load)
  have C16 := Lib.hid (fewB_any b w9 F13.out)
  rw [PB.out] at C16
  go_wp2_with (first | ((with_reducible refine wpList_load_by (o := ⟨some 22, .load 41 (.tmp 5), _, _, _, _⟩) ?e1 41 (.tmp 5) ?e2 ⟨w.heap.size, 0, none⟩ ?e3 _ M15.out ?_); (case e1 => rfl); (case e2 => rfl); (case e3 => rfl)))
  refine C16.out.mono ?_
  rintro e w17 ⟨rfl, hb18⟩
  have T19 := Lib.hid (T11.out.below hb18 T11.out.lt)
  have T20 := Lib.hid (T12.out.below hb18 T12.out.lt)
  have F21 := Lib.hid (F13.out.below hb18 (Nat.le_refl _))
  have B22 := Lib.hid (B14.out.trans (hb18.mono B14.out.size))
  clear hb18
  go_wp2
  go_ret
  exact ⟨rfl, B22.out⟩
set_option maxHeartbeats 16000000 in
theorem bnew_long (b : Bk) (z : List Int) (no q : Int) (s : ByteArray) (w : World) (hlaid : Laid w) (wb : BkAt w b) (wz : z.length = 16 ∧ AllBytes z) (ws : s.size ≤ maxLen) (t1 : 300 < (s.size : Int)) (iPB : fewB b.rs = true) :
    Calls Tryd.prog 7 #[.agg #[.slice b.A b.xs.length b.c], .agg (bvals z), .int .i64 no, .int .i64 q, .string s] w fun e w' => e = .returned (.bool true) ∧ Below w.heap.size w w' := by
  have HLA := Lib.hid (fun (X : World) (hX : Below w.heap.size w X) => hlaid.below hX (Nat.le_refl _))
  have Fb := Lib.hid wb
  have ZI := Lib.hid wz
  have hz := zeroX
  have PB := Lib.hid iPB
  clear hlaid wb wz ws iPB
  have B1 := Lib.hid (Below.refl w.heap.size w)
  have T2n := BoAt.new w (.slice b.A b.xs.length b.c)
  have T2 := Lib.hid T2n
  clear T2n
  have B3 := Lib.hid (B1.out.alloc B1.out.size (.cells #[(.slice b.A b.xs.length b.c)] 41))
  have T4 := Lib.hid (T2.out.old (.cells (bvals z) 23))
  have T5n := IdAt.new (w.alloc (.cells #[(.slice b.A b.xs.length b.c)] 41)) ZI.out.1
  simp only [World.size_alloc] at T5n
  have T5 := Lib.hid T5n
  clear T5n
  have B6 := Lib.hid (B3.out.alloc B3.out.size (.cells (bvals z) 23))
  have F7 := Lib.hid (Fb.out.below B6.out (Nat.le_refl _))
  go_enter Tryd.func7, Tryd.ntmps7
  have C8 := Lib.hid (bkAwake ((w.alloc (.cells #[(.slice b.A b.xs.length b.c)] 41)).alloc (.cells (bvals z) 23)) (HLA.out _ B6.out))
  go_wp2_with fail
  refine C8.out.mono ?_
  rintro e w9 ⟨rfl, hb10⟩
  have T11 := Lib.hid (T4.out.below hb10 T4.out.lt)
  have T12 := Lib.hid (T5.out.below hb10 T5.out.lt)
  have F13 := Lib.hid (F7.out.below hb10 (Nat.le_refl _))
  have B14 := Lib.hid (B6.out.trans (hb10.mono B6.out.size))
  clear hb10
  have M15 := Lib.hid (T11.out.load)
  have C16 := Lib.hid (fewB_any b w9 F13.out)
  rw [PB.out] at C16
  go_wp2_with (first | ((with_reducible refine wpList_load_by (o := ⟨some 22, .load 41 (.tmp 5), _, _, _, _⟩) ?e1 41 (.tmp 5) ?e2 ⟨w.heap.size, 0, none⟩ ?e3 _ M15.out ?_); (case e1 => rfl); (case e2 => rfl); (case e3 => rfl)))
  refine C16.out.mono ?_
  rintro e w17 ⟨rfl, hb18⟩
  have T19 := Lib.hid (T11.out.below hb18 T11.out.lt)
  have T20 := Lib.hid (T12.out.below hb18 T12.out.lt)
  have F21 := Lib.hid (F13.out.below hb18 (Nat.le_refl _))
  have B22 := Lib.hid (B14.out.trans (hb18.mono B14.out.size))
  clear hb18
  go_wp2
  go_ret
  exact ⟨rfl, B22.out⟩
set_option maxHeartbeats 16000000 in
theorem bnew_e1 (b : Bk) (z : List Int) (no q : Int) (s : ByteArray) (w : World) (hlaid : Laid w) (wb : BkAt w b) (wz : z.length = 16 ∧ AllBytes z) (ws : s.size ≤ maxLen) (t1 : ¬ 300 < (s.size : Int)) (iPB : fewB b.rs = true) (iJW : bwrite b.rs z no q s = (1, [])) :
    Calls Tryd.prog 7 #[.agg #[.slice b.A b.xs.length b.c], .agg (bvals z), .int .i64 no, .int .i64 q, .string s] w fun e w' => e = .returned (.bool true) ∧ Below w.heap.size w w' := by
  have HLA := Lib.hid (fun (X : World) (hX : Below w.heap.size w X) => hlaid.below hX (Nat.le_refl _))
  have Fb := Lib.hid wb
  have ZI := Lib.hid wz
  have hz := zeroX
  have PB := Lib.hid iPB
  have JW := Lib.hid iJW
  clear hlaid wb wz ws iPB iJW
  have B1 := Lib.hid (Below.refl w.heap.size w)
  have T2n := BoAt.new w (.slice b.A b.xs.length b.c)
  have T2 := Lib.hid T2n
  clear T2n
  have B3 := Lib.hid (B1.out.alloc B1.out.size (.cells #[(.slice b.A b.xs.length b.c)] 41))
  have T4 := Lib.hid (T2.out.old (.cells (bvals z) 23))
  have T5n := IdAt.new (w.alloc (.cells #[(.slice b.A b.xs.length b.c)] 41)) ZI.out.1
  simp only [World.size_alloc] at T5n
  have T5 := Lib.hid T5n
  clear T5n
  have B6 := Lib.hid (B3.out.alloc B3.out.size (.cells (bvals z) 23))
  have F7 := Lib.hid (Fb.out.below B6.out (Nat.le_refl _))
  go_enter Tryd.func7, Tryd.ntmps7
  have C8 := Lib.hid (bkAwake ((w.alloc (.cells #[(.slice b.A b.xs.length b.c)] 41)).alloc (.cells (bvals z) 23)) (HLA.out _ B6.out))
  go_wp2_with fail
  refine C8.out.mono ?_
  rintro e w9 ⟨rfl, hb10⟩
  have T11 := Lib.hid (T4.out.below hb10 T4.out.lt)
  have T12 := Lib.hid (T5.out.below hb10 T5.out.lt)
  have F13 := Lib.hid (F7.out.below hb10 (Nat.le_refl _))
  have B14 := Lib.hid (B6.out.trans (hb10.mono B6.out.size))
  clear hb10
  have M15 := Lib.hid (T11.out.load)
  have C16 := Lib.hid (fewB_any b w9 F13.out)
  rw [PB.out] at C16
  go_wp2_with (first | ((with_reducible refine wpList_load_by (o := ⟨some 22, .load 41 (.tmp 5), _, _, _, _⟩) ?e1 41 (.tmp 5) ?e2 ⟨w.heap.size, 0, none⟩ ?e3 _ M15.out ?_); (case e1 => rfl); (case e2 => rfl); (case e3 => rfl)))
  refine C16.out.mono ?_
  rintro e w17 ⟨rfl, hb18⟩
  have T19 := Lib.hid (T11.out.below hb18 T11.out.lt)
  have T20 := Lib.hid (T12.out.below hb18 T12.out.lt)
  have F21 := Lib.hid (F13.out.below hb18 (Nat.le_refl _))
  have B22 := Lib.hid (B14.out.trans (hb18.mono B14.out.size))
  clear hb18
  have M28 := Lib.hid (T19.out.load)
  have M29 := Lib.hid (load_arr16 T20.out)
  have C30 := Lib.hid (bwrite_any b z no q s w17 (HLA.out _ B22.out) F21.out ZI.out.1 ZI.out.2)
  unfold BJoinPost at C30
  rw [JW.out] at C30
  dsimp only at C30
  go_wp2_with (first | ((with_reducible refine wpList_load_by (o := ⟨some 37, .load 41 (.tmp 5), _, _, _, _⟩) ?e1 41 (.tmp 5) ?e2 ⟨w.heap.size, 0, none⟩ ?e3 _ M28.out ?_); (case e1 => rfl); (case e2 => rfl); (case e3 => rfl)) | ((with_reducible refine wpList_load_by (o := ⟨some 38, .load 23 (.tmp 6), _, _, _, _⟩) ?e1 23 (.tmp 6) ?e2 ⟨(w.heap.size + 1), 0, none⟩ ?e3 _ M29.out ?_); (case e1 => rfl); (case e2 => rfl); (case e3 => rfl)))
  refine C30.out.mono ?_
  rintro e w31 ⟨d23, he24, hd25, hk26, hb32⟩
  have hl27 : d23.xs.length = 0 := by have h9 := congrArg List.length hd25; simpa [Bk.rs] using h9
  rw [hl27] at he24
  subst he24
  have T33 := Lib.hid (T19.out.below hb32 T19.out.lt)
  have T34 := Lib.hid (T20.out.below hb32 T20.out.lt)
  have F35 := Lib.hid (F21.out.below hb32 (Nat.le_refl _))
  have B36 := Lib.hid (B22.out.trans (hb32.mono B22.out.size))
  clear hb32
  have E37 := Lib.hid (hd25)
  have L38 := Lib.hid (hl27)
  have F39 := Lib.hid (hk26)
  clear hd25 hk26 hl27
  have hb40 := (Below.refl w31.heap.size w31).alloc (Nat.le_refl _) (.cells #[(.slice d23.A 0 d23.c)] 41)
  have T41 := Lib.hid (BoAt.new w31 (.slice d23.A 0 d23.c))
  have T42 := Lib.hid (T33.out.below hb40 T33.out.lt)
  have T43 := Lib.hid (T34.out.below hb40 T34.out.lt)
  have F44 := Lib.hid (F35.out.below hb40 (Nat.le_refl _))
  have F45 := Lib.hid (F39.out.below hb40 (Nat.le_refl _))
  have B46 := Lib.hid (B36.out.trans (hb40.mono B36.out.size))
  clear hb40
  have c0 := T41.out.c0
  go_wp2
  go_ret
  exact ⟨rfl, B46.out⟩
set_option maxHeartbeats 16000000 in
theorem bnew_e4 (b : Bk) (z : List Int) (no q : Int) (s : ByteArray) (w : World) (hlaid : Laid w) (wb : BkAt w b) (wz : z.length = 16 ∧ AllBytes z) (ws : s.size ≤ maxLen) (t1 : ¬ 300 < (s.size : Int)) (iPB : fewB b.rs = true) (iJW : bwrite b.rs z no q s = (4, [])) :
    Calls Tryd.prog 7 #[.agg #[.slice b.A b.xs.length b.c], .agg (bvals z), .int .i64 no, .int .i64 q, .string s] w fun e w' => e = .returned (.bool true) ∧ Below w.heap.size w w' := by
  have HLA := Lib.hid (fun (X : World) (hX : Below w.heap.size w X) => hlaid.below hX (Nat.le_refl _))
  have Fb := Lib.hid wb
  have ZI := Lib.hid wz
  have hz := zeroX
  have PB := Lib.hid iPB
  have JW := Lib.hid iJW
  clear hlaid wb wz ws iPB iJW
  have B1 := Lib.hid (Below.refl w.heap.size w)
  have T2n := BoAt.new w (.slice b.A b.xs.length b.c)
  have T2 := Lib.hid T2n
  clear T2n
  have B3 := Lib.hid (B1.out.alloc B1.out.size (.cells #[(.slice b.A b.xs.length b.c)] 41))
  have T4 := Lib.hid (T2.out.old (.cells (bvals z) 23))
  have T5n := IdAt.new (w.alloc (.cells #[(.slice b.A b.xs.length b.c)] 41)) ZI.out.1
  simp only [World.size_alloc] at T5n
  have T5 := Lib.hid T5n
  clear T5n
  have B6 := Lib.hid (B3.out.alloc B3.out.size (.cells (bvals z) 23))
  have F7 := Lib.hid (Fb.out.below B6.out (Nat.le_refl _))
  go_enter Tryd.func7, Tryd.ntmps7
  have C8 := Lib.hid (bkAwake ((w.alloc (.cells #[(.slice b.A b.xs.length b.c)] 41)).alloc (.cells (bvals z) 23)) (HLA.out _ B6.out))
  go_wp2_with fail
  refine C8.out.mono ?_
  rintro e w9 ⟨rfl, hb10⟩
  have T11 := Lib.hid (T4.out.below hb10 T4.out.lt)
  have T12 := Lib.hid (T5.out.below hb10 T5.out.lt)
  have F13 := Lib.hid (F7.out.below hb10 (Nat.le_refl _))
  have B14 := Lib.hid (B6.out.trans (hb10.mono B6.out.size))
  clear hb10
  have M15 := Lib.hid (T11.out.load)
  have C16 := Lib.hid (fewB_any b w9 F13.out)
  rw [PB.out] at C16
  go_wp2_with (first | ((with_reducible refine wpList_load_by (o := ⟨some 22, .load 41 (.tmp 5), _, _, _, _⟩) ?e1 41 (.tmp 5) ?e2 ⟨w.heap.size, 0, none⟩ ?e3 _ M15.out ?_); (case e1 => rfl); (case e2 => rfl); (case e3 => rfl)))
  refine C16.out.mono ?_
  rintro e w17 ⟨rfl, hb18⟩
  have T19 := Lib.hid (T11.out.below hb18 T11.out.lt)
  have T20 := Lib.hid (T12.out.below hb18 T12.out.lt)
  have F21 := Lib.hid (F13.out.below hb18 (Nat.le_refl _))
  have B22 := Lib.hid (B14.out.trans (hb18.mono B14.out.size))
  clear hb18
  have M28 := Lib.hid (T19.out.load)
  have M29 := Lib.hid (load_arr16 T20.out)
  have C30 := Lib.hid (bwrite_any b z no q s w17 (HLA.out _ B22.out) F21.out ZI.out.1 ZI.out.2)
  unfold BJoinPost at C30
  rw [JW.out] at C30
  dsimp only at C30
  go_wp2_with (first | ((with_reducible refine wpList_load_by (o := ⟨some 37, .load 41 (.tmp 5), _, _, _, _⟩) ?e1 41 (.tmp 5) ?e2 ⟨w.heap.size, 0, none⟩ ?e3 _ M28.out ?_); (case e1 => rfl); (case e2 => rfl); (case e3 => rfl)) | ((with_reducible refine wpList_load_by (o := ⟨some 38, .load 23 (.tmp 6), _, _, _, _⟩) ?e1 23 (.tmp 6) ?e2 ⟨(w.heap.size + 1), 0, none⟩ ?e3 _ M29.out ?_); (case e1 => rfl); (case e2 => rfl); (case e3 => rfl)))
  refine C30.out.mono ?_
  rintro e w31 ⟨d23, he24, hd25, hk26, hb32⟩
  have hl27 : d23.xs.length = 0 := by have h9 := congrArg List.length hd25; simpa [Bk.rs] using h9
  rw [hl27] at he24
  subst he24
  have T33 := Lib.hid (T19.out.below hb32 T19.out.lt)
  have T34 := Lib.hid (T20.out.below hb32 T20.out.lt)
  have F35 := Lib.hid (F21.out.below hb32 (Nat.le_refl _))
  have B36 := Lib.hid (B22.out.trans (hb32.mono B22.out.size))
  clear hb32
  have E37 := Lib.hid (hd25)
  have L38 := Lib.hid (hl27)
  have F39 := Lib.hid (hk26)
  clear hd25 hk26 hl27
  have hb40 := (Below.refl w31.heap.size w31).alloc (Nat.le_refl _) (.cells #[(.slice d23.A 0 d23.c)] 41)
  have T41 := Lib.hid (BoAt.new w31 (.slice d23.A 0 d23.c))
  have T42 := Lib.hid (T33.out.below hb40 T33.out.lt)
  have T43 := Lib.hid (T34.out.below hb40 T34.out.lt)
  have F44 := Lib.hid (F35.out.below hb40 (Nat.le_refl _))
  have F45 := Lib.hid (F39.out.below hb40 (Nat.le_refl _))
  have B46 := Lib.hid (B36.out.trans (hb40.mono B36.out.size))
  clear hb40
  have c0 := T41.out.c0
  go_wp2
  go_ret
  exact ⟨rfl, B46.out⟩
set_option maxHeartbeats 16000000 in
theorem bnew_ok (b : Bk) (z : List Int) (no q : Int) (s : ByteArray) (w : World) (hlaid : Laid w) (wb : BkAt w b) (wz : z.length = 16 ∧ AllBytes z) (ws : s.size ≤ maxLen) (t1 : ¬ 300 < (s.size : Int)) (X : List Rc) (U : Rc) (n2 : Int) (iPB : fewB b.rs = true) (iJW : bwrite b.rs z no q s = (0, X)) (iMX : bmay X = true) (iBX : bat X z = some U) (iFR : rfind U.fs no = some ⟨n2, q, s⟩) (iLX : bleq b.rs X = true) (iLL : ∀ r ∈ b.rs, stLess r.n r.r n2 q = true ∧ ∀ f ∈ r.fs, stLess f.c.n f.c.r n2 q = true) :
    Calls Tryd.prog 7 #[.agg #[.slice b.A b.xs.length b.c], .agg (bvals z), .int .i64 no, .int .i64 q, .string s] w fun e w' => e = .returned (.bool true) ∧ Below w.heap.size w w' := by
  have HLA := Lib.hid (fun (X : World) (hX : Below w.heap.size w X) => hlaid.below hX (Nat.le_refl _))
  have Fb := Lib.hid wb
  have ZI := Lib.hid wz
  have hz := zeroX
  have PB := Lib.hid iPB
  have JW := Lib.hid iJW
  have MX := Lib.hid iMX
  have BX := Lib.hid iBX
  have FR := Lib.hid iFR
  have LX := Lib.hid iLX
  have LL := Lib.hid iLL
  have hlen := (fewB_fs iPB).1
  have HFL := Lib.hid (fun k (hk : k < b.xs.length) => (fewB_fs iPB).2 (b.xs.getD k rcA0) (by rw [List.getD, List.getElem?_eq_getElem hk]; exact List.getElem_mem hk))
  have HRV := Lib.hid (fun i (hi : i < b.xs.length) => RsAt.rv wb hi)
  have HRL : Hid (∀ k, k < b.xs.length → stLess (b.xs.getD k rcA0).R.n (b.xs.getD k rcA0).R.r n2 q = true ∧ ∀ f ∈ (b.xs.getD k rcA0).R.fs, stLess f.c.n f.c.r n2 q = true) := Lib.hid (fun k hk => iLL _ (List.mem_map_of_mem (by rw [List.getD, List.getElem?_eq_getElem hk]; exact List.getElem_mem hk)))
  obtain ⟨-, -, -, hcell, -⟩ := wb
  have HC := Lib.hid hcell
  clear hlaid wz ws hcell iPB iJW iMX iBX iFR iLX iLL
  have B1 := Lib.hid (Below.refl w.heap.size w)
  have T2n := BoAt.new w (.slice b.A b.xs.length b.c)
  have T2 := Lib.hid T2n
  clear T2n
  have B3 := Lib.hid (B1.out.alloc B1.out.size (.cells #[(.slice b.A b.xs.length b.c)] 41))
  have T4 := Lib.hid (T2.out.old (.cells (bvals z) 23))
  have T5n := IdAt.new (w.alloc (.cells #[(.slice b.A b.xs.length b.c)] 41)) ZI.out.1
  simp only [World.size_alloc] at T5n
  have T5 := Lib.hid T5n
  clear T5n
  have B6 := Lib.hid (B3.out.alloc B3.out.size (.cells (bvals z) 23))
  have F7 := Lib.hid (Fb.out.below B6.out (Nat.le_refl _))
  go_enter Tryd.func7, Tryd.ntmps7
  have C8 := Lib.hid (bkAwake ((w.alloc (.cells #[(.slice b.A b.xs.length b.c)] 41)).alloc (.cells (bvals z) 23)) (HLA.out _ B6.out))
  go_wp2_with fail
  refine C8.out.mono ?_
  rintro e w9 ⟨rfl, hb10⟩
  have T11 := Lib.hid (T4.out.below hb10 T4.out.lt)
  have T12 := Lib.hid (T5.out.below hb10 T5.out.lt)
  have F13 := Lib.hid (F7.out.below hb10 (Nat.le_refl _))
  have B14 := Lib.hid (B6.out.trans (hb10.mono B6.out.size))
  clear hb10
  have M15 := Lib.hid (T11.out.load)
  have C16 := Lib.hid (fewB_any b w9 F13.out)
  rw [PB.out] at C16
  go_wp2_with (first | ((with_reducible refine wpList_load_by (o := ⟨some 22, .load 41 (.tmp 5), _, _, _, _⟩) ?e1 41 (.tmp 5) ?e2 ⟨w.heap.size, 0, none⟩ ?e3 _ M15.out ?_); (case e1 => rfl); (case e2 => rfl); (case e3 => rfl)))
  refine C16.out.mono ?_
  rintro e w17 ⟨rfl, hb18⟩
  have T19 := Lib.hid (T11.out.below hb18 T11.out.lt)
  have T20 := Lib.hid (T12.out.below hb18 T12.out.lt)
  have F21 := Lib.hid (F13.out.below hb18 (Nat.le_refl _))
  have B22 := Lib.hid (B14.out.trans (hb18.mono B14.out.size))
  clear hb18
  have M26 := Lib.hid (T19.out.load)
  have M27 := Lib.hid (load_arr16 T20.out)
  have C28 := Lib.hid (bwrite_any b z no q s w17 (HLA.out _ B22.out) F21.out ZI.out.1 ZI.out.2)
  unfold BJoinPost at C28
  rw [JW.out] at C28
  dsimp only at C28
  go_wp2_with (first | ((with_reducible refine wpList_load_by (o := ⟨some 37, .load 41 (.tmp 5), _, _, _, _⟩) ?e1 41 (.tmp 5) ?e2 ⟨w.heap.size, 0, none⟩ ?e3 _ M26.out ?_); (case e1 => rfl); (case e2 => rfl); (case e3 => rfl)) | ((with_reducible refine wpList_load_by (o := ⟨some 38, .load 23 (.tmp 6), _, _, _, _⟩) ?e1 23 (.tmp 6) ?e2 ⟨(w.heap.size + 1), 0, none⟩ ?e3 _ M27.out ?_); (case e1 => rfl); (case e2 => rfl); (case e3 => rfl)))
  refine C28.out.mono ?_
  rintro e w29 ⟨d23, rfl, hd24, hk25, hb30⟩
  have T31 := Lib.hid (T19.out.below hb30 T19.out.lt)
  have T32 := Lib.hid (T20.out.below hb30 T20.out.lt)
  have F33 := Lib.hid (F21.out.below hb30 (Nat.le_refl _))
  have B34 := Lib.hid (B22.out.trans (hb30.mono B22.out.size))
  clear hb30
  have E35 := Lib.hid (hd24)
  have F36 := Lib.hid (hk25)
  clear hd24 hk25
  have hb37 := (Below.refl w29.heap.size w29).alloc (Nat.le_refl _) (.cells #[(.slice d23.A d23.xs.length d23.c)] 41)
  have T38 := Lib.hid (BoAt.new w29 (.slice d23.A d23.xs.length d23.c))
  have T39 := Lib.hid (T31.out.below hb37 T31.out.lt)
  have T40 := Lib.hid (T32.out.below hb37 T32.out.lt)
  have F41 := Lib.hid (F33.out.below hb37 (Nat.le_refl _))
  have F42 := Lib.hid (F36.out.below hb37 (Nat.le_refl _))
  have B43 := Lib.hid (B34.out.trans (hb37.mono B34.out.size))
  clear hb37
  have Z44 := Lib.hid (bmay_fs E35.out MX.out)
  have M48 := Lib.hid (T38.out.load)
  have M49 := Lib.hid (load_arr16 T40.out)
  have C50 := Lib.hid (bfind_any d23 z (w29.alloc (.cells #[(.slice d23.A d23.xs.length d23.c)] 41)) F42.out ZI.out.1 ZI.out.2 Z44.out)
  unfold BFindPost at C50
  try rw [E35.out] at C50
  rw [BX.out] at C50
  try dsimp only [Option.isSome_some, Option.isSome_none, Option.getD_some, Option.getD_none] at C50
  go_wp2_with (first | ((with_reducible refine wpList_load_by (o := ⟨some 52, .load 41 (.tmp 13), _, _, _, _⟩) ?e1 41 (.tmp 13) ?e2 ⟨w29.heap.size, 0, none⟩ ?e3 _ M48.out ?_); (case e1 => rfl); (case e2 => rfl); (case e3 => rfl)) | ((with_reducible refine wpList_load_by (o := ⟨some 53, .load 23 (.tmp 6), _, _, _, _⟩) ?e1 23 (.tmp 6) ?e2 ⟨(w.heap.size + 1), 0, none⟩ ?e3 _ M49.out ?_); (case e1 => rfl); (case e2 => rfl); (case e3 => rfl)))
  refine C50.out.mono ?_
  rintro e w51 ⟨y45, rfl, hd46, hk47, hb52⟩
  have T53 := Lib.hid (T39.out.below hb52 T39.out.lt)
  have T54 := Lib.hid (T40.out.below hb52 T40.out.lt)
  have T55 := Lib.hid (T38.out.below hb52 T38.out.lt)
  have F56 := Lib.hid (F41.out.below hb52 (Nat.le_refl _))
  have F57 := Lib.hid (F42.out.below hb52 (Nat.le_refl _))
  have B58 := Lib.hid (B43.out.trans (hb52.mono B43.out.size))
  clear hb52
  have E59 := Lib.hid (hd46)
  have F60 := Lib.hid (hk47)
  have Z61 := Lib.hid (hk47.len)
  clear hd46 hk47
  go_wp2_with (first | ((with_reducible refine wpList_store_newx (o := ⟨none, .store 28 (.tmp 15) (.tmp 55), _, _, _, _⟩) (w := w51) ?e1 (.tmp 15) (.tmp 55) ?e2 w51.heap.size ?e0 ?e3 y45 ?e4 Z61.out ?_); (case e1 => rfl); (case e2 => rfl); (case e0 => rfl); (case e3 => rfl); (case e4 => rfl); intro w62 hb63 hx64 hs65; have T66 := Lib.hid hx64; clear hx64 hs65; have T67 := Lib.hid (T53.out.below hb63 T53.out.lt); have T68 := Lib.hid (T54.out.below hb63 T54.out.lt); have T69 := Lib.hid (T55.out.below hb63 T55.out.lt); have F70 := Lib.hid (F56.out.below hb63 (Nat.le_refl _)); have F71 := Lib.hid (F57.out.below hb63 (Nat.le_refl _)); have F72 := Lib.hid (F60.out.below hb63 (Nat.le_refl _)); have B73 := Lib.hid (B58.out.trans (hb63.mono B58.out.size)); clear hb63; have M74 := Lib.hid (T66.out.load); have C75 := Lib.hid (xfind_any y45 no w62 F72.out); try rw [E59.out] at C75; rw [FR.out] at C75; try dsimp only [Option.isSome_some, Option.getD_some, Option.isSome_none, Option.getD_none, Cel.v, cel00] at C75) | ((with_reducible refine wpList_load_by (o := ⟨some 58, .load 28 (.tmp 15), _, _, _, _⟩) ?e1 28 (.tmp 15) ?e2 ⟨w51.heap.size, 0, none⟩ ?e3 _ M74.out ?_); (case e1 => rfl); (case e2 => rfl); (case e3 => rfl)))
  refine C75.out.mono ?_
  rintro e w76 ⟨rfl, hb77⟩
  have T78 := Lib.hid (T67.out.below hb77 T67.out.lt)
  have T79 := Lib.hid (T68.out.below hb77 T68.out.lt)
  have T80 := Lib.hid (T69.out.below hb77 T69.out.lt)
  have T81 := Lib.hid (T66.out.below hb77 T66.out.lt)
  have F82 := Lib.hid (F70.out.below hb77 (Nat.le_refl _))
  have F83 := Lib.hid (F71.out.below hb77 (Nat.le_refl _))
  have F84 := Lib.hid (F72.out.below hb77 (Nat.le_refl _))
  have B85 := Lib.hid (B73.out.trans (hb77.mono B73.out.size))
  clear hb77
  have hb86 := (Below.refl w76.heap.size w76).alloc (Nat.le_refl _) (.cells #[.int .i64 n2, .int .i64 q, .string s] 32)
  have T87 := Lib.hid (ClAt.new w76 ⟨n2, q, s⟩)
  have T88 := Lib.hid (T78.out.below hb86 T78.out.lt)
  have T89 := Lib.hid (T79.out.below hb86 T79.out.lt)
  have T90 := Lib.hid (T80.out.below hb86 T80.out.lt)
  have T91 := Lib.hid (T81.out.below hb86 T81.out.lt)
  have F92 := Lib.hid (F82.out.below hb86 (Nat.le_refl _))
  have F93 := Lib.hid (F83.out.below hb86 (Nat.le_refl _))
  have F94 := Lib.hid (F84.out.below hb86 (Nat.le_refl _))
  have B95 := Lib.hid (B85.out.trans (hb86.mono B85.out.size))
  clear hb86
  have M96 := Lib.hid (T88.out.load)
  have M97 := Lib.hid (T90.out.load)
  have s1 := T87.out.c1
  have s2 := T87.out.c2
  have C98 := Lib.hid (bleq_any b d23 (w76.alloc (.cells #[.int .i64 n2, .int .i64 q, .string s] 32)) (HLA.out _ B95.out) F92.out F93.out)
  try rw [E35.out] at C98
  rw [LX.out] at C98
  go_wp2_with (first | ((with_reducible refine wpList_load_by (o := ⟨some 83, .load 41 (.tmp 5), _, _, _, _⟩) ?e1 41 (.tmp 5) ?e2 ⟨w.heap.size, 0, none⟩ ?e3 _ M96.out ?_); (case e1 => rfl); (case e2 => rfl); (case e3 => rfl)) | ((with_reducible refine wpList_load_by (o := ⟨some 84, .load 41 (.tmp 13), _, _, _, _⟩) ?e1 41 (.tmp 13) ?e2 ⟨w29.heap.size, 0, none⟩ ?e3 _ M97.out ?_); (case e1 => rfl); (case e2 => rfl); (case e3 => rfl)))
  refine C98.out.mono ?_
  rintro e w99 ⟨rfl, hb100⟩
  have T101 := Lib.hid (T88.out.below hb100 T88.out.lt)
  have T102 := Lib.hid (T89.out.below hb100 T89.out.lt)
  have T103 := Lib.hid (T90.out.below hb100 T90.out.lt)
  have T104 := Lib.hid (T91.out.below hb100 T91.out.lt)
  have T105 := Lib.hid (T87.out.below hb100 T87.out.lt)
  have F106 := Lib.hid (F92.out.below hb100 (Nat.le_refl _))
  have F107 := Lib.hid (F93.out.below hb100 (Nat.le_refl _))
  have F108 := Lib.hid (F94.out.below hb100 (Nat.le_refl _))
  have B109 := Lib.hid (B95.out.trans (hb100.mono B95.out.size))
  clear hb100
  clear s1 s2
  have M110 := Lib.hid (T103.out.load)
  have C111 := Lib.hid (bmay_any d23 w99 F107.out)
  try rw [E35.out] at C111
  rw [MX.out] at C111
  go_wp2_with (first | ((with_reducible refine wpList_load_by (o := ⟨some 89, .load 41 (.tmp 13), _, _, _, _⟩) ?e1 41 (.tmp 13) ?e2 ⟨w29.heap.size, 0, none⟩ ?e3 _ M110.out ?_); (case e1 => rfl); (case e2 => rfl); (case e3 => rfl)))
  refine C111.out.mono ?_
  rintro e w112 ⟨rfl, hb113⟩
  have T114 := Lib.hid (T101.out.below hb113 T101.out.lt)
  have T115 := Lib.hid (T102.out.below hb113 T102.out.lt)
  have T116 := Lib.hid (T103.out.below hb113 T103.out.lt)
  have T117 := Lib.hid (T104.out.below hb113 T104.out.lt)
  have T118 := Lib.hid (T105.out.below hb113 T105.out.lt)
  have F119 := Lib.hid (F106.out.below hb113 (Nat.le_refl _))
  have F120 := Lib.hid (F107.out.below hb113 (Nat.le_refl _))
  have F121 := Lib.hid (F108.out.below hb113 (Nat.le_refl _))
  have B122 := Lib.hid (B109.out.trans (hb113.mono B109.out.size))
  clear hb113
  go_wp2
  go_loopw [19] (fun i wr => ∃ k : Nat, k ≤ b.xs.length ∧ i = .int .i64 k ∧ BoAt wr w.heap.size (.slice b.A b.xs.length b.c) ∧ ClAt wr w76.heap.size ⟨n2, q, s⟩ ∧ Below w.heap.size w wr) (fun i _ => b.xs.length - (intOf i).toNat)
  case atStart => exact ⟨0, Nat.zero_le _, rfl, T114.out, T118.out, B122.out⟩
  case round =>
    obtain ⟨k, hk, rfl, hs, hc, hb⟩ := hrel
    have hs0 := hs.c0
    by_cases hlt : k < b.xs.length
    · have t1 : (k : Int) < (b.xs.length : Int) := by omega
      obtain ⟨b0, off, hA, hb0, hcc⟩ := HC.out (by omega)
      have hx0 := hcc k hlt
      have X0 := Lib.hid hx0
      have X1 := Lib.hid (hx0.same (hb.block b0 hb0))
      have HFS := Lib.hid (HRV.out k hlt).2
      obtain ⟨r1, r2⟩ := HRL.out k hlt
      have hfl := HFL.out k hlt
      have IXX := Lib.hid (fun w9 => ix_rec b0 off b.xs.length b.c k hlt k rfl w9)
      rw [← hA] at IXX
      have HR2 := Lib.hid r2
      have hb02 := Nat.lt_of_lt_of_le hb0 hb.size
      generalize b.xs.getD k rcA0 = x at *
      generalize off + k * 19 = ox at *
      have HL := Lib.hid (fun (w9 : World) (hS : Below wr.heap.size wr w9) => stLess_any x.R.n x.R.r n2 q w9)
      unfold st at HL
      rw [r1] at HL
      have HS := Lib.hid hs
      have HCl := Lib.hid hc
      have HB := Lib.hid hb
      clear hcc hA r1 r2 hs hc hb hx0
      go_wp2_with fail
      refine wp_region_G wr (by kernel_rfl) ?_
      refine wpG_take (i := 0) (oi := ⟨some 100, _, _, _, _, _⟩) (v := ?_) rfl (by kernel_rfl) (by kernel_rfl) (by kernel_rfl) (Or.inl ⟨by rfl, unib_val ?_⟩) ?_; rotate_left; (focus (intro w9 hSw; go_simp; try with_reducible rfl)); simp only [Act.put, List.setIfInBounds_toArray, List.set_cons_zero, List.set_cons_succ]
      refine wpG_take (i := 1) (oi := ⟨some 101, _, _, _, _, _⟩) (v := ?_) rfl (by kernel_rfl) (by kernel_rfl) (by kernel_rfl) (Or.inl ⟨by rfl, unib_val ?_⟩) ?_; rotate_left; (focus (intro w9 hSw; have q0 := (HS.out.below hSw HS.out.lt).c0; go_simp; try with_reducible rfl)); simp only [Act.put, List.setIfInBounds_toArray, List.set_cons_zero, List.set_cons_succ]
      refine wpG_take (i := 2) (oi := ⟨some 102, _, _, _, _, _⟩) (v := ?_) rfl (by kernel_rfl) (by kernel_rfl) (by kernel_rfl) (Or.inl ⟨by rfl, unib_val ?_⟩) ?_; rotate_left; (focus (intro w9 hSw; go_simp; try with_reducible rfl)); simp only [Act.put, List.setIfInBounds_toArray, List.set_cons_zero, List.set_cons_succ]
      refine wpG_take (i := 3) (oi := ⟨some 103, _, _, _, _, _⟩) (v := ?_) rfl (by kernel_rfl) (by kernel_rfl) (by kernel_rfl) (Or.inl ⟨by rfl, unib_val ?_⟩) ?_; rotate_left; (focus (intro w9 hSw; have q0 := IXX.out w9; go_simp; try with_reducible rfl)); simp only [Act.put, List.setIfInBounds_toArray, List.set_cons_zero, List.set_cons_succ]
      refine wpG_take (i := 4) (oi := ⟨some 104, _, _, _, _, _⟩) (v := ?_) rfl (by kernel_rfl) (by kernel_rfl) (by kernel_rfl) (Or.inl ⟨by rfl, unib_val ?_⟩) ?_; rotate_left; (focus (intro w9 hSw; go_simp; try with_reducible rfl)); simp only [Act.put, List.setIfInBounds_toArray, List.set_cons_zero, List.set_cons_succ]
      refine wpG_take (i := 5) (oi := ⟨some 105, _, _, _, _, _⟩) (v := ?_) rfl (by kernel_rfl) (by kernel_rfl) (by kernel_rfl) (Or.inl ⟨by rfl, unib_val ?_⟩) ?_; rotate_left; (focus (intro w9 hSw; have X9 := X1.out.same (hSw.block b0 hb02); have q0 := X9.c16; have q1 : w9.cell? ⟨b0, ox + 16 + 1, none⟩ = _ := X9.c17; have q2 := X9.c17; go_simp; try with_reducible rfl)); simp only [Act.put, List.setIfInBounds_toArray, List.set_cons_zero, List.set_cons_succ]
      refine wpG_take (i := 6) (oi := ⟨some 106, _, _, _, _, _⟩) (v := ?_) rfl (by kernel_rfl) (by kernel_rfl) (by kernel_rfl) (Or.inl ⟨by rfl, unib_val ?_⟩) ?_; rotate_left; (focus (intro w9 hSw; go_simp; try with_reducible rfl)); simp only [Act.put, List.setIfInBounds_toArray, List.set_cons_zero, List.set_cons_succ]
      refine wpG_take (i := 7) (oi := ⟨some 107, _, _, _, _, _⟩) (v := ?_) rfl (by kernel_rfl) (by kernel_rfl) (by kernel_rfl) (Or.inl ⟨by rfl, unib_val ?_⟩) ?_; rotate_left; (focus (intro w9 hSw; have q0 := (HCl.out.below hSw HCl.out.lt).c0; have q1 := (HCl.out.below hSw HCl.out.lt).c1; go_simp; try with_reducible rfl)); simp only [Act.put, List.setIfInBounds_toArray, List.set_cons_zero, List.set_cons_succ]
      refine wpG_take (i := 8) (oi := ⟨some 108, _, _, _, _, _⟩) rfl (by kernel_rfl) (by kernel_rfl) (by kernel_rfl) (Or.inl ⟨by rfl, unib_call_if ?_ HL.out⟩) ?_; (focus (intro w9 hSw; go_simp; try with_reducible rfl)); simp only [Act.put, List.setIfInBounds_toArray, List.set_cons_zero, List.set_cons_succ]
      refine wpG_take (i := 9) (oi := ⟨some 109, _, _, _, _, _⟩) (v := ?_) rfl (by kernel_rfl) (by kernel_rfl) (by kernel_rfl) (Or.inl ⟨by rfl, unib_val ?_⟩) ?_; rotate_left; (focus (intro w9 hSw; go_simp; try with_reducible rfl)); simp only [Act.put, List.setIfInBounds_toArray, List.set_cons_zero, List.set_cons_succ]
      refine wpG_done (by kernel_rfl) ?_ _
      intro w9 hSw _
      have BO9 := Lib.hid (HS.out.below hSw HS.out.lt)
      have CL9 := Lib.hid (HCl.out.below hSw HCl.out.lt)
      have B9 := Lib.hid (HB.out.trans (hSw.mono HB.out.size))
      clear hSw hs0
      have ct1 : k + 1 ≤ b.xs.length := hlt
      go_wp2
      go_loopw [20] (fun i wi => ∃ j : Nat, j ≤ x.R.fs.length ∧ i = .int .i64 j ∧ BoAt wi w.heap.size (.slice b.A b.xs.length b.c) ∧ ClAt wi w76.heap.size ⟨n2, q, s⟩ ∧ Below w.heap.size w wi) (fun i _ => x.R.fs.length - (intOf i).toNat)
      case atStart => exact ⟨0, Nat.zero_le _, rfl, BO9.out, CL9.out, B9.out⟩
      case round =>
        obtain ⟨j, hj, rfl, hs, hc, hb⟩ := hrel
        have hs0 := hs.c0
        have hx2 := X0.out.same (hb.block b0 hb0)
        have x18 := hx2.c18
        have ix0 := IXX.out wr
        have HS2 := Lib.hid hs
        have HC2 := Lib.hid hc
        have HB2 := Lib.hid hb
        by_cases hlt2 : j < x.R.fs.length
        · have t2 : (j : Int) < (x.R.fs.length : Int) := by omega
          obtain ⟨hq1, hq2, hq3, hq4⟩ := HFS.out
          obtain ⟨b1, off1, hA1, hb1, hcc⟩ := hq4 (by omega)
          obtain ⟨c0, c1, c2, c3⟩ := hcc j hlt2
          have X2 := Lib.hid hx2
          have hb03 := Nat.lt_of_lt_of_le hb0 hb.size
          have hb13 := Nat.lt_of_lt_of_le hb1 hb.size
          have c1 := (hb.cell (p := ⟨b1, off1 + j * 4 + 1, none⟩) hb1).trans c1
          have c2 := (hb.cell (p := ⟨b1, off1 + j * 4 + 2, none⟩) hb1).trans c2
          have IXF := Lib.hid (fun w9 => ix_fld b1 off1 x.R.fs.length x.c j hlt2 j rfl w9)
          rw [← hA1] at IXF
          have r3 := HR2.out (x.R.fs.getD j fld0) (by rw [List.getD, List.getElem?_eq_getElem hlt2]; exact List.getElem_mem hlt2)
          generalize x.R.fs.getD j fld0 = f at *
          generalize off1 + j * 4 = o1 at *
          have G1 := Lib.hid c1
          have G2 := Lib.hid c2
          have HL2 := Lib.hid (fun (w9 : World) (hS : Below wr.heap.size wr w9) => stLess_any f.c.n f.c.r n2 q w9)
          unfold st at HL2
          rw [r3] at HL2
          clear hcc hq1 hq2 hq3 hq4 hA1 r3 c0 c1 c2 c3 hs hc hb hx2
          go_wp2_with fail
          refine wp_region_G wr (by kernel_rfl) ?_
          refine wpG_take (i := 0) (oi := ⟨some 121, _, _, _, _, _⟩) (v := ?_) rfl (by kernel_rfl) (by kernel_rfl) (by kernel_rfl) (Or.inl ⟨by rfl, unib_val ?_⟩) ?_; rotate_left; (focus (intro w9 hSw; go_simp; try with_reducible rfl)); simp only [Act.put, List.setIfInBounds_toArray, List.set_cons_zero, List.set_cons_succ]
          refine wpG_take (i := 1) (oi := ⟨some 122, _, _, _, _, _⟩) (v := ?_) rfl (by kernel_rfl) (by kernel_rfl) (by kernel_rfl) (Or.inl ⟨by rfl, unib_val ?_⟩) ?_; rotate_left; (focus (intro w9 hSw; have q0 := (HS2.out.below hSw HS2.out.lt).c0; go_simp; try with_reducible rfl)); simp only [Act.put, List.setIfInBounds_toArray, List.set_cons_zero, List.set_cons_succ]
          refine wpG_take (i := 2) (oi := ⟨some 123, _, _, _, _, _⟩) (v := ?_) rfl (by kernel_rfl) (by kernel_rfl) (by kernel_rfl) (Or.inl ⟨by rfl, unib_val ?_⟩) ?_; rotate_left; (focus (intro w9 hSw; go_simp; try with_reducible rfl)); simp only [Act.put, List.setIfInBounds_toArray, List.set_cons_zero, List.set_cons_succ]
          refine wpG_take (i := 3) (oi := ⟨some 124, _, _, _, _, _⟩) (v := ?_) rfl (by kernel_rfl) (by kernel_rfl) (by kernel_rfl) (Or.inl ⟨by rfl, unib_val ?_⟩) ?_; rotate_left; (focus (intro w9 hSw; have q0 := IXX.out w9; go_simp; try with_reducible rfl)); simp only [Act.put, List.setIfInBounds_toArray, List.set_cons_zero, List.set_cons_succ]
          refine wpG_take (i := 4) (oi := ⟨some 125, _, _, _, _, _⟩) (v := ?_) rfl (by kernel_rfl) (by kernel_rfl) (by kernel_rfl) (Or.inl ⟨by rfl, unib_val ?_⟩) ?_; rotate_left; (focus (intro w9 hSw; go_simp; try with_reducible rfl)); simp only [Act.put, List.setIfInBounds_toArray, List.set_cons_zero, List.set_cons_succ]
          refine wpG_take (i := 5) (oi := ⟨some 126, _, _, _, _, _⟩) (v := ?_) rfl (by kernel_rfl) (by kernel_rfl) (by kernel_rfl) (Or.inl ⟨by rfl, unib_val ?_⟩) ?_; rotate_left; (focus (intro w9 hSw; have q0 := (X2.out.same (hSw.block b0 hb03)).c18; go_simp; try with_reducible rfl)); simp only [Act.put, List.setIfInBounds_toArray, List.set_cons_zero, List.set_cons_succ]
          refine wpG_take (i := 6) (oi := ⟨some 127, _, _, _, _, _⟩) (v := ?_) rfl (by kernel_rfl) (by kernel_rfl) (by kernel_rfl) (Or.inl ⟨by rfl, unib_val ?_⟩) ?_; rotate_left; (focus (intro w9 hSw; go_simp; try with_reducible rfl)); simp only [Act.put, List.setIfInBounds_toArray, List.set_cons_zero, List.set_cons_succ]
          refine wpG_take (i := 7) (oi := ⟨some 128, _, _, _, _, _⟩) (v := ?_) rfl (by kernel_rfl) (by kernel_rfl) (by kernel_rfl) (Or.inl ⟨by rfl, unib_val ?_⟩) ?_; rotate_left; (focus (intro w9 hSw; have q0 := IXF.out w9; go_simp; try with_reducible rfl)); simp only [Act.put, List.setIfInBounds_toArray, List.set_cons_zero, List.set_cons_succ]
          refine wpG_take (i := 8) (oi := ⟨some 129, _, _, _, _, _⟩) (v := ?_) rfl (by kernel_rfl) (by kernel_rfl) (by kernel_rfl) (Or.inl ⟨by rfl, unib_val ?_⟩) ?_; rotate_left; (focus (intro w9 hSw; go_simp; try with_reducible rfl)); simp only [Act.put, List.setIfInBounds_toArray, List.set_cons_zero, List.set_cons_succ]
          refine wpG_take (i := 9) (oi := ⟨some 130, _, _, _, _, _⟩) (v := ?_) rfl (by kernel_rfl) (by kernel_rfl) (by kernel_rfl) (Or.inl ⟨by rfl, unib_val ?_⟩) ?_; rotate_left; (focus (intro w9 hSw; go_simp; try with_reducible rfl)); simp only [Act.put, List.setIfInBounds_toArray, List.set_cons_zero, List.set_cons_succ]
          refine wpG_take (i := 10) (oi := ⟨some 131, _, _, _, _, _⟩) (v := ?_) rfl (by kernel_rfl) (by kernel_rfl) (by kernel_rfl) (Or.inl ⟨by rfl, unib_val ?_⟩) ?_; rotate_left; (focus (intro w9 hSw; have q0 := (hSw.cell (p := ⟨b1, o1 + 1, none⟩) hb13).trans G1.out; have q1 := (hSw.cell (p := ⟨b1, o1 + 2, none⟩) hb13).trans G2.out; have q2 : w9.cell? ⟨b1, o1 + 1 + 1, none⟩ = _ := q1; go_simp; try with_reducible rfl)); simp only [Act.put, List.setIfInBounds_toArray, List.set_cons_zero, List.set_cons_succ]
          refine wpG_take (i := 11) (oi := ⟨some 132, _, _, _, _, _⟩) (v := ?_) rfl (by kernel_rfl) (by kernel_rfl) (by kernel_rfl) (Or.inl ⟨by rfl, unib_val ?_⟩) ?_; rotate_left; (focus (intro w9 hSw; go_simp; try with_reducible rfl)); simp only [Act.put, List.setIfInBounds_toArray, List.set_cons_zero, List.set_cons_succ]
          refine wpG_take (i := 12) (oi := ⟨some 133, _, _, _, _, _⟩) (v := ?_) rfl (by kernel_rfl) (by kernel_rfl) (by kernel_rfl) (Or.inl ⟨by rfl, unib_val ?_⟩) ?_; rotate_left; (focus (intro w9 hSw; have q0 := (HC2.out.below hSw HC2.out.lt).c0; have q1 := (HC2.out.below hSw HC2.out.lt).c1; go_simp; try with_reducible rfl)); simp only [Act.put, List.setIfInBounds_toArray, List.set_cons_zero, List.set_cons_succ]
          refine wpG_take (i := 13) (oi := ⟨some 134, _, _, _, _, _⟩) rfl (by kernel_rfl) (by kernel_rfl) (by kernel_rfl) (Or.inl ⟨by rfl, unib_call_if ?_ HL2.out⟩) ?_; (focus (intro w9 hSw; go_simp; try with_reducible rfl)); simp only [Act.put, List.setIfInBounds_toArray, List.set_cons_zero, List.set_cons_succ]
          refine wpG_take (i := 14) (oi := ⟨some 135, _, _, _, _, _⟩) (v := ?_) rfl (by kernel_rfl) (by kernel_rfl) (by kernel_rfl) (Or.inl ⟨by rfl, unib_val ?_⟩) ?_; rotate_left; (focus (intro w9 hSw; go_simp; try with_reducible rfl)); simp only [Act.put, List.setIfInBounds_toArray, List.set_cons_zero, List.set_cons_succ]
          refine wpG_done (by kernel_rfl) ?_ _
          intro w9 hSw _
          have BO8 := Lib.hid (HS2.out.below hSw HS2.out.lt)
          have CL8 := Lib.hid (HC2.out.below hSw HC2.out.lt)
          have B8 := Lib.hid (HB2.out.trans (hSw.mono HB2.out.size))
          clear hSw hs0 x18 ix0
          go_wp2
          go_roundw
          case rel => exact ⟨j + 1, by omega, by go_num, BO8.out, CL8.out, B8.out⟩
          case measure => simp [intOf]; omega
        · have t2 : ¬ (j : Int) < (x.R.fs.length : Int) := by omega
          clear hs hc hb hx2
          go_wp2
          go_roundw
          case rel => exact ⟨k + 1, ct1, by go_num, HS2.out, HC2.out, HB2.out⟩
          case measure => simp [intOf]; omega
    · have t1 : ¬ (k : Int) < (b.xs.length : Int) := by omega
      go_wp2
      go_ret
      exact ⟨rfl, hb⟩
theorem walk_bookNew (b : Bk) (z : List Int) (no q : Int) (s : ByteArray) (w : World) (hlaid : Laid w) (wb : BkAt w b) (wz : z.length = 16 ∧ AllBytes z) (ws : s.size ≤ maxLen) :
    Calls Tryd.prog 7 #[.agg #[.slice b.A b.xs.length b.c], .agg (bvals z), .int .i64 no, .int .i64 q, .string s] w fun e w' => e = .returned (.bool true) ∧ Below w.heap.size w w' := by
  cases p : fewB b.rs
  · exact bnew_few b z no q s w hlaid wb wz ws p
  · by_cases t1 : 300 < (s.size : Int)
    · exact bnew_long b z no q s w hlaid wb wz ws t1 p
    · rcases bwrite_cases b.rs z no q s with h | h | ⟨X, U, n2, h1, h2, h3, h4, h5, h6⟩
      · exact bnew_e1 b z no q s w hlaid wb wz ws t1 p h
      · exact bnew_e4 b z no q s w hlaid wb wz ws t1 p h
      · exact bnew_ok b z no q s w hlaid wb wz ws t1 X U n2 p h1 h2 h3 h4 h5 h6
end Go.Proofs.YtepapdnchpolmaaDoor

