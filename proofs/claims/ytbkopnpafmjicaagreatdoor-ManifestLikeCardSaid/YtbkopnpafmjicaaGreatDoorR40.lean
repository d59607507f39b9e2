import Derived.Test.YtbkopnpafmjicaaGreatDoorR0
import Derived.Test.YtbkopnpafmjicaaGreatDoorR36
import Derived.Test.YtbkopnpafmjicaaGreatDoorR37
import Derived.Test.YtbkopnpafmjicaaGreatDoorR30
import Derived.Test.YtbkopnpafmjicaaGreatDoorR32
import Derived.Test.YtbkopnpafmjicaaGreatDoorR27
import Derived.Test.YtbkopnpafmjicaaGreatDoorR11
import Derived.Test.YtbkopnpafmjicaaGreatDoorR17
/-
  What the functions that a law of this layer reaches answer, part 40. Nothing that was there is written.
-/
namespace Go.Proofs.YtbkopnpafmjicaaGreatDoor
set_option linter.unusedVariables false
set_option linter.unusedSimpArgs false
section
open Go.RowKit Go.Shelf WM
set_option maxRecDepth 100000
theorem idr_size {z : List Int} (h : z.length = 16) : (Tryz.prog.info? 38).map (·.size) = some (bvals z).size := by
 rw [show (bvals z).size = 16 by simp [bvals, h]]
 exact infoIdM
theorem idr_len {z : List Int} (h : z.length = 16) : (bvals z).size = 16 := by simp [bvals, h]
theorem idr0_size : (bvals z16m).size = 16 := by decide
theorem idr_ones (z : List Int) : (bvals z).all (·.oneCell') = true := by
 rw [Array.all_eq_true]
 intro i hi
 simp [bvals, Value.oneCell']
theorem mlike_id {m : MnA} {w : World} (h : m.Ok w) (d : List Int) (n : Int) : (((mlike m.m d n).map (·.1)).getD z16m).length = 16 ∧ AllBytes (((mlike m.m d n).map (·.1)).getD z16m) := by
 cases hl : mlike m.m d n with
 | none => exact ⟨rfl, by show AllBytes z16m; unfold AllBytes z16m; decide⟩
 | some p =>
  obtain ⟨z, no⟩ := p
  obtain ⟨x, hx, e, _, h2, _⟩ := llike_some hl
  obtain ⟨y, hy, rfl⟩ := List.mem_map.1 hx
  show z.length = 16 ∧ AllBytes z
  rw [← h2]
  exact ⟨(h.2.2.2.2.2.2 y hy).1, (h.2.2.2.2.2.2 y hy).2.1⟩
set_option maxHeartbeats 16000000 in
theorem mlk_few (m : MnA) (d : List Int) (n : Int) (w : World) (hlaid : Laid w) (wm : m.Ok w) (wd : d.length = 32 ∧ AllBytes d) (wn : (Lit.int .i64 n).wf = true) (p : mfew m.m = false) :
  Calls Tryz.prog 6 #[.agg m.cs.toArray, .agg (bvals d), .int .i64 n] w fun e w' => e = .returned (.bool true) ∧ Below w.heap.size w w' := by
 have HLA := Lib.hid (fun (X : World) (hX : Below w.heap.size w X) => hlaid.below hX (Nat.le_refl _))
 have Fm := Lib.hid wm
 have LM := Lib.hid (MnA.len wm)
 have LD := Lib.hid wd.1
 have PM := Lib.hid p
 clear hlaid wm wd wn p
 have B1 := Lib.hid (Below.refl w.heap.size w)
 have T2n := RowAt.new w m.cs.toArray 29
 have T2 := Lib.hid T2n
 clear T2n
 have B3 := Lib.hid (B1.out.alloc B1.out.size (.cells m.cs.toArray 29))
 have T4 := Lib.hid (T2.out.old (.cells (bvals d) 26))
 have T5n := RowAt.new (w.alloc (.cells m.cs.toArray 29)) (bvals d) 26
 simp only [World.size_alloc] at T5n
 have T5 := Lib.hid T5n
 clear T5n
 have B6 := Lib.hid (B3.out.alloc B3.out.size (.cells (bvals d) 26))
 have F7 := Lib.hid (Fm.out.below B6.out (Nat.le_refl _))
 go_enter Tryz.func6, Tryz.ntmps6
 have C8 := Lib.hid (mnAwake ((w.alloc (.cells m.cs.toArray 29)).alloc (.cells (bvals d) 26)) (HLA.out _ B6.out))
 go_wp2_with fail
 refine C8.out.mono ?_
 rintro e w9 ⟨rfl, hb10⟩
 have T11 := Lib.hid (T4.out.below hb10 T4.out.lt)
 have T12 := Lib.hid (T5.out.below hb10 T5.out.lt)
 have F13 := Lib.hid (F7.out.below hb10 (Nat.le_refl _))
 have B14 := Lib.hid (B6.out.trans (hb10.mono B6.out.size))
 clear hb10
 have M15 := Lib.hid (T11.out.mn LM.out)
 have C16 := Lib.hid (rfew12_any m w9 F13.out)
 rw [PM.out] at C16
 go_wp2_with (first | ((with_reducible refine wpList_load_at (o := ⟨some 18, .load 29 (.tmp 3), _, _, _, _⟩) ?e1 29 (.tmp 3) ?e2 ⟨w.heap.size, 0, none⟩ ?e3 _ M15.out ?_); (case e1 => rfl); (case e2 => rfl); (case e3 => rfl)))
 refine C16.out.mono ?_
 rintro e w17 ⟨rfl, hb18⟩
 have T19 := Lib.hid (T11.out.below hb18 T11.out.lt)
 have T20 := Lib.hid (T12.out.below hb18 T12.out.lt)
 have F21 := Lib.hid (F13.out.below hb18 (Nat.le_refl _))
 have B22 := Lib.hid (B14.out.trans (hb18.mono B14.out.size))
 clear hb18
 go_wp2
 go_ret
 exact ⟨rfl, B22.out⟩
set_option maxHeartbeats 16000000 in
theorem mlk_may (m : MnA) (d : List Int) (n : Int) (w : World) (hlaid : Laid w) (wm : m.Ok w) (wd : d.length = 32 ∧ AllBytes d) (wn : (Lit.int .i64 n).wf = true) (p : mfew m.m = true) (q : mmay m.m = false) :
  Calls Tryz.prog 6 #[.agg m.cs.toArray, .agg (bvals d), .int .i64 n] w fun e w' => e = .returned (.bool true) ∧ Below w.heap.size w w' := by
 have HLA := Lib.hid (fun (X : World) (hX : Below w.heap.size w X) => hlaid.below hX (Nat.le_refl _))
 have Fm := Lib.hid wm
 have LM := Lib.hid (MnA.len wm)
 have LD := Lib.hid wd.1
 have PM := Lib.hid p
 have PV := Lib.hid q
 clear hlaid wm wd wn p q
 have B1 := Lib.hid (Below.refl w.heap.size w)
 have T2n := RowAt.new w m.cs.toArray 29
 have T2 := Lib.hid T2n
 clear T2n
 have B3 := Lib.hid (B1.out.alloc B1.out.size (.cells m.cs.toArray 29))
 have T4 := Lib.hid (T2.out.old (.cells (bvals d) 26))
 have T5n := RowAt.new (w.alloc (.cells m.cs.toArray 29)) (bvals d) 26
 simp only [World.size_alloc] at T5n
 have T5 := Lib.hid T5n
 clear T5n
 have B6 := Lib.hid (B3.out.alloc B3.out.size (.cells (bvals d) 26))
 have F7 := Lib.hid (Fm.out.below B6.out (Nat.le_refl _))
 go_enter Tryz.func6, Tryz.ntmps6
 have C8 := Lib.hid (mnAwake ((w.alloc (.cells m.cs.toArray 29)).alloc (.cells (bvals d) 26)) (HLA.out _ B6.out))
 go_wp2_with fail
 refine C8.out.mono ?_
 rintro e w9 ⟨rfl, hb10⟩
 have T11 := Lib.hid (T4.out.below hb10 T4.out.lt)
 have T12 := Lib.hid (T5.out.below hb10 T5.out.lt)
 have F13 := Lib.hid (F7.out.below hb10 (Nat.le_refl _))
 have B14 := Lib.hid (B6.out.trans (hb10.mono B6.out.size))
 clear hb10
 have M15 := Lib.hid (T11.out.mn LM.out)
 have C16 := Lib.hid (rfew12_any m w9 F13.out)
 rw [PM.out] at C16
 go_wp2_with (first | ((with_reducible refine wpList_load_at (o := ⟨some 18, .load 29 (.tmp 3), _, _, _, _⟩) ?e1 29 (.tmp 3) ?e2 ⟨w.heap.size, 0, none⟩ ?e3 _ M15.out ?_); (case e1 => rfl); (case e2 => rfl); (case e3 => rfl)))
 refine C16.out.mono ?_
 rintro e w17 ⟨rfl, hb18⟩
 have T19 := Lib.hid (T11.out.below hb18 T11.out.lt)
 have T20 := Lib.hid (T12.out.below hb18 T12.out.lt)
 have F21 := Lib.hid (F13.out.below hb18 (Nat.le_refl _))
 have B22 := Lib.hid (B14.out.trans (hb18.mono B14.out.size))
 clear hb18
 have M23 := Lib.hid (T19.out.mn LM.out)
 have C24 := Lib.hid (pmay12_any m w17 F21.out)
 rw [PV.out] at C24
 go_wp2_with (first | ((with_reducible refine wpList_load_at (o := ⟨some 27, .load 29 (.tmp 3), _, _, _, _⟩) ?e1 29 (.tmp 3) ?e2 ⟨w.heap.size, 0, none⟩ ?e3 _ M23.out ?_); (case e1 => rfl); (case e2 => rfl); (case e3 => rfl)))
 refine C24.out.mono ?_
 rintro e w25 ⟨rfl, hb26⟩
 have T27 := Lib.hid (T19.out.below hb26 T19.out.lt)
 have T28 := Lib.hid (T20.out.below hb26 T20.out.lt)
 have F29 := Lib.hid (F21.out.below hb26 (Nat.le_refl _))
 have B30 := Lib.hid (B22.out.trans (hb26.mono B22.out.size))
 clear hb26
 go_wp2
 go_ret
 exact ⟨rfl, B30.out⟩
set_option maxHeartbeats 16000000 in
theorem mlk_none (m : MnA) (d : List Int) (n : Int) (w : World) (hlaid : Laid w) (wm : m.Ok w) (wd : d.length = 32 ∧ AllBytes d) (wn : (Lit.int .i64 n).wf = true) (p : mfew m.m = true) (q : mmay m.m = true) (r : mlike m.m d n = none) :
  Calls Tryz.prog 6 #[.agg m.cs.toArray, .agg (bvals d), .int .i64 n] w fun e w' => e = .returned (.bool true) ∧ Below w.heap.size w w' := by
 have HLA := Lib.hid (fun (X : World) (hX : Below w.heap.size w X) => hlaid.below hX (Nat.le_refl _))
 have Fm := Lib.hid wm
 have LM := Lib.hid (MnA.len wm)
 have LD := Lib.hid wd.1
 have PM := Lib.hid p
 have PV := Lib.hid q
 have QM := Lib.hid (mfew_bound p)
 have HD := Lib.hid wd
 have HN := Lib.hid wn
 have HL := Lib.hid r
 have HM32 := Lib.hid wm.1
 have HR := Lib.hid (fun h0 => ln_row wm.2.2 h0)
 have HOK := Lib.hid (fun k (hk : k < m.ls.length) => show LnA.Ok w (m.ls.getD k lnA0) from Kind.row_ok wm.2.2 hk)
 have HLS := Lib.hid (fun k (hk : k < m.ls.length) => llike_step (ls := m.ls) d n hk)
 have hnb : m.ls.length ≤ 9223372036854775807 := by
  have a1 := wm.2.2.1
  have a2 := wm.2.2.2.1
  simp only [maxLen] at a2
  omega
 obtain ⟨V9, hV9⟩ : ∃ V, V = mlike m.m d n := ⟨_, rfl⟩
 have HV := Lib.hid (show V9 = llike ((m.ls.drop 0).map (·.x)) d n by rw [hV9, List.drop_zero]; rfl)
 have HV9 := Lib.hid (hV9.trans r)
 obtain ⟨N, hN⟩ : ∃ N, m.ls.length = N := ⟨_, rfl⟩
 have HN9' := Lib.hid hN
 rw [hN] at hnb
 have hze := zeroEn
 rw [show KEn.v enA0 = .agg (KEn.cs enA0).toArray from rfl] at hze
 have hzi := zeroIdM
 have hb0 := buildId0
 have hzne : ¬ (KEn.cs enA0).toArray = #[] := by decide
 have hzne3 : ¬ (bvals z16m) = #[] := by decide
 obtain ⟨q9, hq9⟩ : ∃ q, z16m = q := ⟨_, rfl⟩
 have HQZ := Lib.hid hq9
 have HQQ := Lib.hid (show q9.length = 16 ∧ AllBytes q9 from by rw [← hq9]; exact ⟨rfl, by unfold AllBytes z16m; decide⟩)
 have HQ16 := Lib.hid HQQ.out.1
 obtain ⟨bf, hbf⟩ : ∃ b, (findA m.ls q9 0).isSome = b := ⟨_, rfl⟩
 have FA := Lib.hid hbf
 clear hlaid wm wd wn p q r hV9 hN hbf hq9
 have B1 := Lib.hid (Below.refl w.heap.size w)
 have T2n := RowAt.new w m.cs.toArray 29
 have T2 := Lib.hid T2n
 clear T2n
 have B3 := Lib.hid (B1.out.alloc B1.out.size (.cells m.cs.toArray 29))
 have T4 := Lib.hid (T2.out.old (.cells (bvals d) 26))
 have T5n := RowAt.new (w.alloc (.cells m.cs.toArray 29)) (bvals d) 26
 simp only [World.size_alloc] at T5n
 have T5 := Lib.hid T5n
 clear T5n
 have B6 := Lib.hid (B3.out.alloc B3.out.size (.cells (bvals d) 26))
 have F7 := Lib.hid (Fm.out.below B6.out (Nat.le_refl _))
 go_enter Tryz.func6, Tryz.ntmps6
 have C8 := Lib.hid (mnAwake ((w.alloc (.cells m.cs.toArray 29)).alloc (.cells (bvals d) 26)) (HLA.out _ B6.out))
 go_wp2_with fail
 refine C8.out.mono ?_
 rintro e w9 ⟨rfl, hb10⟩
 have T11 := Lib.hid (T4.out.below hb10 T4.out.lt)
 have T12 := Lib.hid (T5.out.below hb10 T5.out.lt)
 have F13 := Lib.hid (F7.out.below hb10 (Nat.le_refl _))
 have B14 := Lib.hid (B6.out.trans (hb10.mono B6.out.size))
 clear hb10
 have M15 := Lib.hid (T11.out.mn LM.out)
 have C16 := Lib.hid (rfew12_any m w9 F13.out)
 rw [PM.out] at C16
 go_wp2_with (first | ((with_reducible refine wpList_load_at (o := ⟨some 18, .load 29 (.tmp 3), _, _, _, _⟩) ?e1 29 (.tmp 3) ?e2 ⟨w.heap.size, 0, none⟩ ?e3 _ M15.out ?_); (case e1 => rfl); (case e2 => rfl); (case e3 => rfl)))
 refine C16.out.mono ?_
 rintro e w17 ⟨rfl, hb18⟩
 have T19 := Lib.hid (T11.out.below hb18 T11.out.lt)
 have T20 := Lib.hid (T12.out.below hb18 T12.out.lt)
 have F21 := Lib.hid (F13.out.below hb18 (Nat.le_refl _))
 have B22 := Lib.hid (B14.out.trans (hb18.mono B14.out.size))
 clear hb18
 have M23 := Lib.hid (T19.out.mn LM.out)
 have C24 := Lib.hid (pmay12_any m w17 F21.out)
 rw [PV.out] at C24
 go_wp2_with (first | ((with_reducible refine wpList_load_at (o := ⟨some 27, .load 29 (.tmp 3), _, _, _, _⟩) ?e1 29 (.tmp 3) ?e2 ⟨w.heap.size, 0, none⟩ ?e3 _ M23.out ?_); (case e1 => rfl); (case e2 => rfl); (case e3 => rfl)))
 refine C24.out.mono ?_
 rintro e w25 ⟨rfl, hb26⟩
 have T27 := Lib.hid (T19.out.below hb26 T19.out.lt)
 have T28 := Lib.hid (T20.out.below hb26 T20.out.lt)
 have F29 := Lib.hid (F21.out.below hb26 (Nat.le_refl _))
 have B30 := Lib.hid (B22.out.trans (hb26.mono B22.out.size))
 clear hb26
 have M31 := Lib.hid (T27.out.mn LM.out)
 have M32 := Lib.hid (T28.out.dg LD.out)
 have C33 := Lib.hid ((show Calls Tryz.prog 22 #[.agg m.cs.toArray, .agg (bvals d), .int .i64 n] w25 (fun e w' => e = .returned (.tuple #[.agg (bvals q9), .int .i64 0, .bool false]) ∧ Below (w25).heap.size w25 w') from by have h := plike12_any m d n w25 F29.out HD.out HN.out QM.out.2.2.1; rw [HL.out] at h; rw [← HQZ.out]; exact h))
 go_wp2_with (first | ((with_reducible refine wpList_load_at (o := ⟨some 33, .load 29 (.tmp 3), _, _, _, _⟩) ?e1 29 (.tmp 3) ?e2 ⟨w.heap.size, 0, none⟩ ?e3 _ M31.out ?_); (case e1 => rfl); (case e2 => rfl); (case e3 => rfl)) | ((with_reducible refine wpList_load_at (o := ⟨some 34, .load 26 (.tmp 4), _, _, _, _⟩) ?e1 26 (.tmp 4) ?e2 ⟨(w.heap.size + 1), 0, none⟩ ?e3 _ M32.out ?_); (case e1 => rfl); (case e2 => rfl); (case e3 => rfl)))
 refine C33.out.mono ?_
 rintro e w34 ⟨rfl, hb35⟩
 have T36 := Lib.hid (T27.out.below hb35 T27.out.lt)
 have T37 := Lib.hid (T28.out.below hb35 T28.out.lt)
 have F38 := Lib.hid (F29.out.below hb35 (Nat.le_refl _))
 have B39 := Lib.hid (B30.out.trans (hb35.mono B30.out.size))
 clear hb35
 have SZ39 := Lib.hid (idr_size HQ16.out)
 have SQ39 := Lib.hid (show (bvals z16m).size = (bvals q9).size by rw [idr0_size, idr_len HQ16.out])
 have SO39 := Lib.hid (idr_ones q9)
 have hb41 := (Below.refl w34.heap.size w34).alloc (Nat.le_refl _) (.cells (bvals q9) 38)
 have T42 := Lib.hid (RowAt.new w34 (bvals q9) 38)
 have T43 := Lib.hid (T36.out.below hb41 T36.out.lt)
 have T44 := Lib.hid (T37.out.below hb41 T37.out.lt)
 have F45 := Lib.hid (F38.out.below hb41 (Nat.le_refl _))
 have B46 := Lib.hid (B39.out.trans (hb41.mono B39.out.size))
 clear hb41
 have M50 := Lib.hid (T43.out.mn LM.out)
 have M51 := Lib.hid (T42.out.id HQ16.out)
 have C52 := Lib.hid ((show Calls Tryz.prog 20 #[.agg m.cs.toArray, .agg (bvals q9), .int .i64 0] (w34.alloc (.cells (bvals q9) 38)) (FindN (w34.alloc (.cells (bvals q9) 38)) (findA m.ls q9 0)) from pfind12_any m q9 0 (w34.alloc (.cells (bvals q9) 38)) F45.out HQQ.out QM.out.1))
 unfold FindN at C52
 rw [FA.out] at C52
 go_wp2_with (first | ((with_reducible refine wpList_load_at (o := ⟨some 41, .load 29 (.tmp 3), _, _, _, _⟩) ?e1 29 (.tmp 3) ?e2 ⟨w.heap.size, 0, none⟩ ?e3 _ M50.out ?_); (case e1 => rfl); (case e2 => rfl); (case e3 => rfl)) | ((with_reducible refine wpList_load_at (o := ⟨some 42, .load 38 (.tmp 9), _, _, _, _⟩) ?e1 38 (.tmp 9) ?e2 ⟨w34.heap.size, 0, none⟩ ?e3 _ M51.out ?_); (case e1 => rfl); (case e2 => rfl); (case e3 => rfl)) | ((with_reducible refine wpList_store_new (o := ⟨none, .store 38 (.tmp 9) (.tmp 37), _, _, _, _⟩) ?e1 38 (.tmp 9) (.tmp 37) ?e2 ?e3 (bvals z16m) (bvals q9) ?e4 SZ39.out SQ39.out SO39.out ?_); (case e1 => rfl); (case e2 => rfl); (case e3 => (first | rfl | exact congrArg (fun q => Value.pointer (some ⟨q, 0, none⟩)) (World.size_alloc _ _).symm)); (case e4 => rfl)))
 refine C52.out.mono ?_
 rintro e w53 ⟨d47, rfl, hd48, hk49, hb54⟩
 have T55 := Lib.hid (T43.out.below hb54 T43.out.lt)
 have T56 := Lib.hid (T44.out.below hb54 T44.out.lt)
 have T57 := Lib.hid (T42.out.below hb54 T42.out.lt)
 have F58 := Lib.hid (F45.out.below hb54 (Nat.le_refl _))
 have B59 := Lib.hid (B46.out.trans (hb54.mono B46.out.size))
 clear hb54
 have E60 := Lib.hid (hd48)
 have F61 := Lib.hid (hk49)
 clear hd48 hk49
 have SZ61 := Lib.hid (en_size F61.out)
 have SQ61 := Lib.hid (show (KEn.cs enA0).toArray.size = (KEn.cs d47).toArray.size by rw [enA0_size, List.size_toArray]; exact (EnA.len F61.out).symm)
 have SO61 := Lib.hid (en_ones d47)
 have L63 := Lib.hid (EnA.len F61.out)
 have hb64 := (Below.refl w53.heap.size w53).alloc (Nat.le_refl _) (.cells (KEn.cs d47).toArray 48)
 have T65 := Lib.hid (RowAt.new w53 (KEn.cs d47).toArray 48)
 have T66 := Lib.hid (T55.out.below hb64 T55.out.lt)
 have T67 := Lib.hid (T56.out.below hb64 T56.out.lt)
 have T68 := Lib.hid (T57.out.below hb64 T57.out.lt)
 have F69 := Lib.hid (F58.out.below hb64 (Nat.le_refl _))
 have F70 := Lib.hid (F61.out.below hb64 (Nat.le_refl _))
 have B71 := Lib.hid (B59.out.trans (hb64.mono B59.out.size))
 clear hb64
 have T3 := Lib.hid T66.out
 have T4 := Lib.hid T67.out
 have T9 := Lib.hid T68.out
 have HB1 := Lib.hid B71.out
 have FC32 := Lib.hid (fun X (hX : Below ((w53.alloc (.cells (KEn.cs d47).toArray 48))).heap.size (w53.alloc (.cells (KEn.cs d47).toArray 48)) X) => MnAt.c32 (show MnAt X w.heap.size m from T3.out.below hX T3.out.lt) HM32.out)
 rw [HN9'.out] at FC32
 have HDD := Lib.hid (fun X (hX : Below ((w53.alloc (.cells (KEn.cs d47).toArray 48))).heap.size (w53.alloc (.cells (KEn.cs d47).toArray 48)) X) => Kind.at_blk (K := KDig) (x := d) (T4.out.below hX T4.out.lt))
 have HIQ := Lib.hid (fun X (hX : Below ((w53.alloc (.cells (KEn.cs d47).toArray 48))).heap.size (w53.alloc (.cells (KEn.cs d47).toArray 48)) X) => Kind.at_blk (K := KId) (x := q9) (T9.out.below hX T9.out.lt))
 go_wp2_with (first | ((with_reducible refine wpList_store_new (o := ⟨none, .store 48 (.tmp 12) (.tmp 45), _, _, _, _⟩) ?e1 48 (.tmp 12) (.tmp 45) ?e2 ?e3 (KEn.cs enA0).toArray (KEn.cs d47).toArray ?e4 SZ61.out SQ61.out SO61.out ?_); (case e1 => rfl); (case e2 => rfl); (case e3 => (first | rfl | exact congrArg (fun q => Value.pointer (some ⟨q, 0, none⟩)) (World.size_alloc _ _).symm)); (case e4 => rfl)))
 generalize ((w53.alloc (.cells (KEn.cs d47).toArray 48))) = w1 at *
 go_loopw [14] (fun i wr => ∃ k : Nat, k ≤ N ∧ i = .int .i64 k ∧ Below w1.heap.size w1 wr ∧ V9 = llike ((m.ls.drop k).map (·.x)) d n) (fun i _ => N - (intOf i).toNat)
 case atStart => exact ⟨0, Nat.zero_le _, rfl, Below.refl _ _, HV.out⟩
 case round =>
  obtain ⟨k, hk, rfl, hb, hf⟩ := hrel
  have HBB := Lib.hid hb
  have cc1 := FC32.out wr hb
  by_cases hlt : k < N
  ·have t1 : (k : Int) < (N : Int) := by omega
   have hlt' : k < m.ls.length := by rw [HN9'.out]; exact hlt
   obtain ⟨b1, off1, hA1, hb1w, hx1, hi1⟩ := HR.out (by omega)
   have IX1 := Lib.hid (hi1 k hlt' k rfl)
   rw [← hA1] at IX1
   try rw [HN9'.out] at IX1
   have hok := HOK.out k hlt'
   have FLN := Lib.hid (fun X (hX : Below w1.heap.size w1 X) => Kind.at_same (hx1 k hlt') ((HB1.out.trans (hX.mono HB1.out.size)).block b1 hb1w))
   rw [HLS.out k hlt'] at hf
   generalize hrst : llike ((m.ls.drop (k + 1)).map (·.x)) d n = rest at *
   have HRST := Lib.hid hrst
   generalize m.ls.getD k lnA0 = x at *
   have HOKX := Lib.hid hok
   have FLI := Lib.hid (fun X (hX : Below w1.heap.size w1 X) => ln_id (FLN.out X hX) HOKX.out.1)
   have F18 := Lib.hid (fun X (hX : Below w1.heap.size w1 X) => ln_c18 (FLN.out X hX) HOKX.out.1)
   have HE := Lib.hid (fun h0 => en_row hok.2.2.2.2 h0)
   have HEO := Lib.hid (fun j (hj : j < x.es.length) => show EnA.Ok w (x.es.getD j enA0) from Kind.row_ok hok.2.2.2.2 hj)
   have HES := Lib.hid (fun j (hj : j < x.es.length) => elike_step (es := x.es) d n hj)
   have hMb : x.es.length ≤ 9223372036854775807 := by
    have a1 := hok.2.2.2.2.1
    have a2 := hok.2.2.2.2.2.1
    simp only [maxLen] at a2
    omega
   generalize hM : x.es.length = M at *
   have HM := Lib.hid hM
   have HF0 := Lib.hid hf
   clear hx1 hi1 hA1 hok hb hb1w hf hrst hM hlt'
   go_wp2
   clear cc1
   go_loopw [15] (fun i wr => ∃ j : Nat, j ≤ M ∧ i = .int .i64 j ∧ Below w1.heap.size w1 wr ∧ V9 = likeOr x.z (elike ((x.es.drop j).map (·.e)) d n) rest) (fun i _ => M - (intOf i).toNat)
   case atStart => exact ⟨0, Nat.zero_le _, rfl, HBB.out, HF0.out⟩
   case round =>
    obtain ⟨j, hj, rfl, hb2, hf2⟩ := hrel
    have HB2 := Lib.hid hb2
    have HT := Lib.hid (fun w9 (h9 : Below wr.heap.size wr w9) => hb2.trans (h9.mono hb2.size))
    have cc1 := FC32.out wr hb2
    have cx1 := IX1.out wr
    have cc2 := F18.out wr hb2
    by_cases hjt : j < M
    ·have t3 : (j : Int) < (M : Int) := by omega
     obtain ⟨b2, off2, hA2, hb2w, hx2, hi2⟩ := HE.out (by omega)
     have IX2 := Lib.hid (hi2 j hjt j rfl)
     rw [← hA2] at IX2
     have FEN := Lib.hid (fun X (hX : Below w1.heap.size w1 X) => Kind.at_same (hx2 j hjt) ((HB1.out.trans (hX.mono HB1.out.size)).block b2 hb2w))
     have hokE := HEO.out j hjt
     rw [HES.out j hjt] at hf2
     generalize x.es.getD j enA0 = y at *
     have HD32 := Lib.hid hokE.2.2.2.2.1
     have FC3 := Lib.hid (fun X (hX : Below w1.heap.size w1 X) => en_c3 (FEN.out X hX))
     have FC0 := Lib.hid (fun X (hX : Below w1.heap.size w1 X) => en_c0 (FEN.out X hX))
     have HQ := Lib.hid (show ∀ X, (Op.equalIn 10000 26 (.agg (bvals y.e.ds)) (.agg (bvals d))).run Tryz.prog X = .ok (decide (y.e.ds = d)) X from fun X => by
      rw [eq_dig hokE.2.2.2.2.2.1 HD.out.2 hokE.2.2.2.2.1 HD.out.1 X]; congr 1; rw [Bool.eq_iff_iff]; simp)
     clear hx2 hi2 hA2 hokE hb2 hb2w
     by_cases he : y.e.ds = d
     ·rw [decide_eq_true he] at HQ
      by_cases hl : y.e.len = n
      ·skip
       have HF := Lib.hid (show V9 = some (x.z, y.e.no) by rw [hf2, if_pos ⟨he, hl⟩]; rfl)
       exact absurd (HV9.out.symm.trans HF.out) (by simp)
      ·have HF := Lib.hid (show V9 = likeOr x.z (elike ((x.es.drop (j + 1)).map (·.e)) d n) rest by rw [hf2, if_neg (fun h => hl h.2)])
       have HT5 := Lib.hid (show ¬ y.e.len = n from hl)
       clear hf2 he
       go_wp2_with fail
       refine wp_region_G _ (by kernel_rfl) ?_
       refine wpGv (i := 0) (oi := ⟨some 82, _, _, _, _, _⟩) (v := ?_) rfl ?_ ?_; rotate_left; (focus (intro w9 hSw; go_simp; try with_reducible rfl)); simp only [Act.put, Z2, Z3, Z4]
       refine wpGv (i := 1) (oi := ⟨some 83, _, _, _, _, _⟩) (v := ?_) rfl ?_ ?_; rotate_left; (focus (intro w9 hSw; have q0 := FC32.out w9 (HT.out w9 hSw); go_simp; try with_reducible rfl)); simp only [Act.put, Z2, Z3, Z4]
       refine wpGv (i := 2) (oi := ⟨some 84, _, _, _, _, _⟩) (v := ?_) rfl ?_ ?_; rotate_left; (focus (intro w9 hSw; go_simp; try with_reducible rfl)); simp only [Act.put, Z2, Z3, Z4]
       refine wpGv (i := 3) (oi := ⟨some 85, _, _, _, _, _⟩) (v := ?_) rfl ?_ ?_; rotate_left; (focus (intro w9 hSw; have q0 := IX1.out w9; go_simp; try with_reducible rfl)); simp only [Act.put, Z2, Z3, Z4]
       refine wpGv (i := 4) (oi := ⟨some 86, _, _, _, _, _⟩) (v := ?_) rfl ?_ ?_; rotate_left; (focus (intro w9 hSw; go_simp; try with_reducible rfl)); simp only [Act.put, Z2, Z3, Z4]
       refine wpGv (i := 5) (oi := ⟨some 87, _, _, _, _, _⟩) (v := ?_) rfl ?_ ?_; rotate_left; (focus (intro w9 hSw; have q0 := F18.out w9 (HT.out w9 hSw); go_simp; try with_reducible rfl)); simp only [Act.put, Z2, Z3, Z4]
       refine wpGv (i := 6) (oi := ⟨some 88, _, _, _, _, _⟩) (v := ?_) rfl ?_ ?_; rotate_left; (focus (intro w9 hSw; go_simp; try with_reducible rfl)); simp only [Act.put, Z2, Z3, Z4]
       refine wpGv (i := 7) (oi := ⟨some 89, _, _, _, _, _⟩) (v := ?_) rfl ?_ ?_; rotate_left; (focus (intro w9 hSw; have q0 := IX2.out w9; go_simp; try with_reducible rfl)); simp only [Act.put, Z2, Z3, Z4]
       refine wpGv (i := 8) (oi := ⟨some 90, _, _, _, _, _⟩) (v := ?_) rfl ?_ ?_; rotate_left; (focus (intro w9 hSw; go_simp; try with_reducible rfl)); simp only [Act.put, Z2, Z3, Z4]
       refine wpGv (i := 9) (oi := ⟨some 91, _, _, _, _, _⟩) (v := (.agg (bvals y.e.ds))) rfl ?_ ?_; (focus (intro w9 hSw; exact exec_load_at 26 _ rfl _ rfl (load_dig (en_dig (FEN.out w9 (HT.out w9 hSw)) HD32.out) HD32.out))); simp only [Act.put, Z2, Z3, Z4]
       refine wpGv (i := 10) (oi := ⟨some 92, _, _, _, _, _⟩) (v := (.agg (bvals d))) rfl ?_ ?_; (focus (intro w9 hSw; exact exec_load_at 26 _ rfl _ rfl (load_dig (HDD.out w9 (HT.out w9 hSw)) HD.out.1))); simp only [Act.put, Z2, Z3, Z4]
       refine wpGv (i := 11) (oi := ⟨some 93, _, _, _, _, _⟩) (v := (.bool true)) rfl ?_ ?_; (focus (intro w9 hSw; have q0 := HQ.out w9; exact exec_eql_at 26 _ _ _ rfl rfl rfl guardDig q0)); simp only [Act.put, Z2, Z3, Z4]
       refine wpGv (i := 12) (oi := ⟨some 94, _, _, _, _, _⟩) (v := ?_) rfl ?_ ?_; rotate_left; (focus (intro w9 hSw; go_simp; try with_reducible rfl)); simp only [Act.put, Z2, Z3, Z4]
       refine wpGv (i := 13) (oi := ⟨some 95, _, _, _, _, _⟩) (v := ?_) rfl ?_ ?_; rotate_left; (focus (intro w9 hSw; go_simp; try with_reducible rfl)); simp only [Act.put, Z2, Z3, Z4]
       refine wpGv (i := 14) (oi := ⟨some 96, _, _, _, _, _⟩) (v := ?_) rfl ?_ ?_; rotate_left; (focus (intro w9 hSw; have q0 := FC32.out w9 (HT.out w9 hSw); go_simp; try with_reducible rfl)); simp only [Act.put, Z2, Z3, Z4]
       refine wpGv (i := 15) (oi := ⟨some 97, _, _, _, _, _⟩) (v := ?_) rfl ?_ ?_; rotate_left; (focus (intro w9 hSw; go_simp; try with_reducible rfl)); simp only [Act.put, Z2, Z3, Z4]
       refine wpGv (i := 16) (oi := ⟨some 98, _, _, _, _, _⟩) (v := ?_) rfl ?_ ?_; rotate_left; (focus (intro w9 hSw; have q0 := IX1.out w9; go_simp; try with_reducible rfl)); simp only [Act.put, Z2, Z3, Z4]
       refine wpGv (i := 17) (oi := ⟨some 99, _, _, _, _, _⟩) (v := ?_) rfl ?_ ?_; rotate_left; (focus (intro w9 hSw; go_simp; try with_reducible rfl)); simp only [Act.put, Z2, Z3, Z4]
       refine wpGv (i := 18) (oi := ⟨some 100, _, _, _, _, _⟩) (v := ?_) rfl ?_ ?_; rotate_left; (focus (intro w9 hSw; have q0 := F18.out w9 (HT.out w9 hSw); go_simp; try with_reducible rfl)); simp only [Act.put, Z2, Z3, Z4]
       refine wpGv (i := 19) (oi := ⟨some 101, _, _, _, _, _⟩) (v := ?_) rfl ?_ ?_; rotate_left; (focus (intro w9 hSw; go_simp; try with_reducible rfl)); simp only [Act.put, Z2, Z3, Z4]
       refine wpGv (i := 20) (oi := ⟨some 102, _, _, _, _, _⟩) (v := ?_) rfl ?_ ?_; rotate_left; (focus (intro w9 hSw; have q0 := IX2.out w9; go_simp; try with_reducible rfl)); simp only [Act.put, Z2, Z3, Z4]
       refine wpGv (i := 21) (oi := ⟨some 103, _, _, _, _, _⟩) (v := ?_) rfl ?_ ?_; rotate_left; (focus (intro w9 hSw; go_simp; try with_reducible rfl)); simp only [Act.put, Z2, Z3, Z4]
       refine wpGv (i := 22) (oi := ⟨some 104, _, _, _, _, _⟩) (v := ?_) rfl ?_ ?_; rotate_left; (focus (intro w9 hSw; have q0 := FC3.out w9 (HT.out w9 hSw); go_simp; try with_reducible rfl)); simp only [Act.put, Z2, Z3, Z4]
       refine wpGv (i := 23) (oi := ⟨some 105, _, _, _, _, _⟩) (v := ?_) rfl ?_ ?_; rotate_left; (focus (intro w9 hSw; go_simp; try with_reducible rfl)); simp only [Act.put, Z2, Z3, Z4]
       refine wpGv (i := 24) (oi := ⟨some 106, _, _, _, _, _⟩) (v := ?_) rfl ?_ ?_; rotate_left; (focus (intro w9 hSw; have q0 := HT5.out; go_simp; try with_reducible rfl)); simp only [Act.put, Z2, Z3, Z4]
       refine wpGv (i := 25) (oi := ⟨some 107, _, _, _, _, _⟩) (v := ?_) rfl ?_ ?_; rotate_left; (focus (intro w9 hSw; go_simp; try with_reducible rfl)); simp only [Act.put, Z2, Z3, Z4]
       refine wpGv (i := 26) (oi := ⟨some 16, _, _, _, _, _⟩) (v := ?_) rfl ?_ ?_; rotate_left; (focus (intro w9 hSw; go_simp; try with_reducible rfl)); simp only [Act.put, Z2, Z3, Z4]
       refine wpG_done (by kernel_rfl) ?_ _
       intro w9 hSw _
       have B9 := Lib.hid (HB2.out.trans (hSw.mono HB2.out.size))
       clear hSw cc1 cx1 cc2
       go_wp2
       go_roundw
       case rel => exact ⟨j + 1, by omega, by go_num, B9.out, HF.out⟩
       case measure => simp [intOf]; omega
     ·rw [decide_eq_false he] at HQ
      have HF := Lib.hid (show V9 = likeOr x.z (elike ((x.es.drop (j + 1)).map (·.e)) d n) rest by rw [hf2, if_neg (fun h => he h.1)])
      clear hf2
      go_wp2_with fail
      refine wp_region_G _ (by kernel_rfl) ?_
      refine wpGv (i := 0) (oi := ⟨some 82, _, _, _, _, _⟩) (v := ?_) rfl ?_ ?_; rotate_left; (focus (intro w9 hSw; go_simp; try with_reducible rfl)); simp only [Act.put, Z2, Z3, Z4]
      refine wpGv (i := 1) (oi := ⟨some 83, _, _, _, _, _⟩) (v := ?_) rfl ?_ ?_; rotate_left; (focus (intro w9 hSw; have q0 := FC32.out w9 (HT.out w9 hSw); go_simp; try with_reducible rfl)); simp only [Act.put, Z2, Z3, Z4]
      refine wpGv (i := 2) (oi := ⟨some 84, _, _, _, _, _⟩) (v := ?_) rfl ?_ ?_; rotate_left; (focus (intro w9 hSw; go_simp; try with_reducible rfl)); simp only [Act.put, Z2, Z3, Z4]
      refine wpGv (i := 3) (oi := ⟨some 85, _, _, _, _, _⟩) (v := ?_) rfl ?_ ?_; rotate_left; (focus (intro w9 hSw; have q0 := IX1.out w9; go_simp; try with_reducible rfl)); simp only [Act.put, Z2, Z3, Z4]
      refine wpGv (i := 4) (oi := ⟨some 86, _, _, _, _, _⟩) (v := ?_) rfl ?_ ?_; rotate_left; (focus (intro w9 hSw; go_simp; try with_reducible rfl)); simp only [Act.put, Z2, Z3, Z4]
      refine wpGv (i := 5) (oi := ⟨some 87, _, _, _, _, _⟩) (v := ?_) rfl ?_ ?_; rotate_left; (focus (intro w9 hSw; have q0 := F18.out w9 (HT.out w9 hSw); go_simp; try with_reducible rfl)); simp only [Act.put, Z2, Z3, Z4]
      refine wpGv (i := 6) (oi := ⟨some 88, _, _, _, _, _⟩) (v := ?_) rfl ?_ ?_; rotate_left; (focus (intro w9 hSw; go_simp; try with_reducible rfl)); simp only [Act.put, Z2, Z3, Z4]
      refine wpGv (i := 7) (oi := ⟨some 89, _, _, _, _, _⟩) (v := ?_) rfl ?_ ?_; rotate_left; (focus (intro w9 hSw; have q0 := IX2.out w9; go_simp; try with_reducible rfl)); simp only [Act.put, Z2, Z3, Z4]
      refine wpGv (i := 8) (oi := ⟨some 90, _, _, _, _, _⟩) (v := ?_) rfl ?_ ?_; rotate_left; (focus (intro w9 hSw; go_simp; try with_reducible rfl)); simp only [Act.put, Z2, Z3, Z4]
      refine wpGv (i := 9) (oi := ⟨some 91, _, _, _, _, _⟩) (v := (.agg (bvals y.e.ds))) rfl ?_ ?_; (focus (intro w9 hSw; exact exec_load_at 26 _ rfl _ rfl (load_dig (en_dig (FEN.out w9 (HT.out w9 hSw)) HD32.out) HD32.out))); simp only [Act.put, Z2, Z3, Z4]
      refine wpGv (i := 10) (oi := ⟨some 92, _, _, _, _, _⟩) (v := (.agg (bvals d))) rfl ?_ ?_; (focus (intro w9 hSw; exact exec_load_at 26 _ rfl _ rfl (load_dig (HDD.out w9 (HT.out w9 hSw)) HD.out.1))); simp only [Act.put, Z2, Z3, Z4]
      refine wpGv (i := 11) (oi := ⟨some 93, _, _, _, _, _⟩) (v := (.bool false)) rfl ?_ ?_; (focus (intro w9 hSw; have q0 := HQ.out w9; exact exec_eql_at 26 _ _ _ rfl rfl rfl guardDig q0)); simp only [Act.put, Z2, Z3, Z4]
      refine wpGv (i := 12) (oi := ⟨some 94, _, _, _, _, _⟩) (v := ?_) rfl ?_ ?_; rotate_left; (focus (intro w9 hSw; go_simp; try with_reducible rfl)); simp only [Act.put, Z2, Z3, Z4]
      refine wpGo (i := 13) (oi := ⟨some 95, _, _, _, _, _⟩) rfl ?_; simp only [Act.put, Z2, Z3, Z4]
      refine wpGo (i := 14) (oi := ⟨some 96, _, _, _, _, _⟩) rfl ?_; simp only [Act.put, Z2, Z3, Z4]
      refine wpGo (i := 15) (oi := ⟨some 97, _, _, _, _, _⟩) rfl ?_; simp only [Act.put, Z2, Z3, Z4]
      refine wpGo (i := 16) (oi := ⟨some 98, _, _, _, _, _⟩) rfl ?_; simp only [Act.put, Z2, Z3, Z4]
      refine wpGo (i := 17) (oi := ⟨some 99, _, _, _, _, _⟩) rfl ?_; simp only [Act.put, Z2, Z3, Z4]
      refine wpGo (i := 18) (oi := ⟨some 100, _, _, _, _, _⟩) rfl ?_; simp only [Act.put, Z2, Z3, Z4]
      refine wpGo (i := 19) (oi := ⟨some 101, _, _, _, _, _⟩) rfl ?_; simp only [Act.put, Z2, Z3, Z4]
      refine wpGo (i := 20) (oi := ⟨some 102, _, _, _, _, _⟩) rfl ?_; simp only [Act.put, Z2, Z3, Z4]
      refine wpGo (i := 21) (oi := ⟨some 103, _, _, _, _, _⟩) rfl ?_; simp only [Act.put, Z2, Z3, Z4]
      refine wpGo (i := 22) (oi := ⟨some 104, _, _, _, _, _⟩) rfl ?_; simp only [Act.put, Z2, Z3, Z4]
      refine wpGo (i := 23) (oi := ⟨some 105, _, _, _, _, _⟩) rfl ?_; simp only [Act.put, Z2, Z3, Z4]
      refine wpGo (i := 24) (oi := ⟨some 106, _, _, _, _, _⟩) rfl ?_; simp only [Act.put, Z2, Z3, Z4]
      refine wpGv (i := 25) (oi := ⟨some 107, _, _, _, _, _⟩) (v := ?_) rfl ?_ ?_; rotate_left; (focus (intro w9 hSw; go_simp; try with_reducible rfl)); simp only [Act.put, Z2, Z3, Z4]
      refine wpGv (i := 26) (oi := ⟨some 16, _, _, _, _, _⟩) (v := ?_) rfl ?_ ?_; rotate_left; (focus (intro w9 hSw; go_simp; try with_reducible rfl)); simp only [Act.put, Z2, Z3, Z4]
      refine wpG_done (by kernel_rfl) ?_ _
      intro w9 hSw _
      have B9 := Lib.hid (HB2.out.trans (hSw.mono HB2.out.size))
      clear hSw cc1 cx1 cc2
      go_wp2
      go_roundw
      case rel => exact ⟨j + 1, by omega, by go_num, B9.out, HF.out⟩
      case measure => simp [intOf]; omega
    ·obtain rfl : j = M := by omega
     have t3 : ¬ (j : Int) < (j : Int) := by omega
     have HF := Lib.hid (show V9 = rest by rw [hf2, List.drop_eq_nil_of_le (by rw [HM.out]; exact Nat.le_refl _)]; rfl)
     clear hf2 hb2
     go_wp2
     go_roundw
     case rel => exact ⟨k + 1, by omega, by go_num, HB2.out, by rw [HRST.out]; exact HF.out⟩
     case measure => simp [intOf]; omega
  ·obtain rfl : k = N := by omega
   have t1 : ¬ (k : Int) < (k : Int) := by omega
   have HF := Lib.hid (show V9 = none by rw [hf, List.drop_eq_nil_of_le (by rw [HN9'.out]; exact Nat.le_refl _)]; rfl)
   have L139 := Lib.hid (load_idM (HIQ.out wr HBB.out) HQ16.out)
   have QI := Lib.hid (show (Op.equalIn 10000 38 (.agg (bvals q9)) (.agg (bvals z16m))).run Tryz.prog wr = .ok true wr from by have h := eq_id HQQ.out.2 HQQ.out.2 HQQ.out.1 HQQ.out.1 wr; rw [beq_self_eq_true] at h; rw [HQZ.out]; exact h)
   clear hf hb
   go_wp2_with (first | ((with_reducible refine wpList_load_at (o := ⟨some 139, .load 38 (.tmp 9), _, _, _, _⟩) ?e1 38 (.tmp 9) ?e2 ⟨w34.heap.size, 0, none⟩ ?e3 _ L139.out ?_); (case e1 => rfl); (case e2 => rfl); (case e3 => rfl)) | ((with_reducible refine wpList_eqlM (o := ⟨some 141, .binOp .eql 38 (.tmp 139) (.tmp 140) 38, _, _, _, _⟩) ?e1 38 (.tmp 139) (.tmp 140) 38 ?e2 (xs := bvals q9) (ys := bvals z16m) ?e3 ?e4 guardIdM QI.out ?_); (case e1 => rfl); (case e2 => rfl); (case e3 => rfl); (case e4 => rfl)))
   go_ret
   exact ⟨rfl, HB1.out.trans (HBB.out.mono HB1.out.size)⟩
set_option maxHeartbeats 16000000 in
theorem mlk_some (m : MnA) (d : List Int) (n : Int) (w : World) (hlaid : Laid w) (wm : m.Ok w) (wd : d.length = 32 ∧ AllBytes d) (wn : (Lit.int .i64 n).wf = true) (q9 : List Int) (n9 : Int) (p : mfew m.m = true) (q : mmay m.m = true) (r : mlike m.m d n = some (q9, n9)) :
  Calls Tryz.prog 6 #[.agg m.cs.toArray, .agg (bvals d), .int .i64 n] w fun e w' => e = .returned (.bool true) ∧ Below w.heap.size w w' := by
 have HLA := Lib.hid (fun (X : World) (hX : Below w.heap.size w X) => hlaid.below hX (Nat.le_refl _))
 have Fm := Lib.hid wm
 have LM := Lib.hid (MnA.len wm)
 have LD := Lib.hid wd.1
 have PM := Lib.hid p
 have PV := Lib.hid q
 have QM := Lib.hid (mfew_bound p)
 have HD := Lib.hid wd
 have HN := Lib.hid wn
 have HL := Lib.hid r
 have HM32 := Lib.hid wm.1
 have HR := Lib.hid (fun h0 => ln_row wm.2.2 h0)
 have HOK := Lib.hid (fun k (hk : k < m.ls.length) => show LnA.Ok w (m.ls.getD k lnA0) from Kind.row_ok wm.2.2 hk)
 have HLS := Lib.hid (fun k (hk : k < m.ls.length) => llike_step (ls := m.ls) d n hk)
 have hnb : m.ls.length ≤ 9223372036854775807 := by
  have a1 := wm.2.2.1
  have a2 := wm.2.2.2.1
  simp only [maxLen] at a2
  omega
 obtain ⟨V9, hV9⟩ : ∃ V, V = mlike m.m d n := ⟨_, rfl⟩
 have HV := Lib.hid (show V9 = llike ((m.ls.drop 0).map (·.x)) d n by rw [hV9, List.drop_zero]; rfl)
 have HV9 := Lib.hid (hV9.trans r)
 obtain ⟨N, hN⟩ : ∃ N, m.ls.length = N := ⟨_, rfl⟩
 have HN9' := Lib.hid hN
 rw [hN] at hnb
 have hze := zeroEn
 rw [show KEn.v enA0 = .agg (KEn.cs enA0).toArray from rfl] at hze
 have hzi := zeroIdM
 have hb0 := buildId0
 have hzne : ¬ (KEn.cs enA0).toArray = #[] := by decide
 have hzne3 : ¬ (bvals z16m) = #[] := by decide
 have HQQ := Lib.hid (show q9.length = 16 ∧ AllBytes q9 by have h := mlike_id wm d n; rw [r] at h; exact h)
 have HQ16 := Lib.hid HQQ.out.1
 obtain ⟨v9, hv9, hvd, hvl⟩ : ∃ v : EnA, findA m.ls q9 n9 = some v ∧ v.e.ds = d ∧ v.e.len = n := by
  obtain ⟨e, h1, h2, h3⟩ := like_find q r
  rw [← findA_e] at h1
  obtain ⟨v, hv, rfl⟩ := Option.map_eq_some_iff.1 h1
  exact ⟨v, hv, h2, h3⟩
 have FA := Lib.hid hv9
 have HVD := Lib.hid hvd
 have HVL := Lib.hid hvl
 clear hlaid wm wd wn p q r hV9 hN hv9 hvd hvl
 have B1 := Lib.hid (Below.refl w.heap.size w)
 have T2n := RowAt.new w m.cs.toArray 29
 have T2 := Lib.hid T2n
 clear T2n
 have B3 := Lib.hid (B1.out.alloc B1.out.size (.cells m.cs.toArray 29))
 have T4 := Lib.hid (T2.out.old (.cells (bvals d) 26))
 have T5n := RowAt.new (w.alloc (.cells m.cs.toArray 29)) (bvals d) 26
 simp only [World.size_alloc] at T5n
 have T5 := Lib.hid T5n
 clear T5n
 have B6 := Lib.hid (B3.out.alloc B3.out.size (.cells (bvals d) 26))
 have F7 := Lib.hid (Fm.out.below B6.out (Nat.le_refl _))
 go_enter Tryz.func6, Tryz.ntmps6
 have C8 := Lib.hid (mnAwake ((w.alloc (.cells m.cs.toArray 29)).alloc (.cells (bvals d) 26)) (HLA.out _ B6.out))
 go_wp2_with fail
 refine C8.out.mono ?_
 rintro e w9 ⟨rfl, hb10⟩
 have T11 := Lib.hid (T4.out.below hb10 T4.out.lt)
 have T12 := Lib.hid (T5.out.below hb10 T5.out.lt)
 have F13 := Lib.hid (F7.out.below hb10 (Nat.le_refl _))
 have B14 := Lib.hid (B6.out.trans (hb10.mono B6.out.size))
 clear hb10
 have M15 := Lib.hid (T11.out.mn LM.out)
 have C16 := Lib.hid (rfew12_any m w9 F13.out)
 rw [PM.out] at C16
 go_wp2_with (first | ((with_reducible refine wpList_load_at (o := ⟨some 18, .load 29 (.tmp 3), _, _, _, _⟩) ?e1 29 (.tmp 3) ?e2 ⟨w.heap.size, 0, none⟩ ?e3 _ M15.out ?_); (case e1 => rfl); (case e2 => rfl); (case e3 => rfl)))
 refine C16.out.mono ?_
 rintro e w17 ⟨rfl, hb18⟩
 have T19 := Lib.hid (T11.out.below hb18 T11.out.lt)
 have T20 := Lib.hid (T12.out.below hb18 T12.out.lt)
 have F21 := Lib.hid (F13.out.below hb18 (Nat.le_refl _))
 have B22 := Lib.hid (B14.out.trans (hb18.mono B14.out.size))
 clear hb18
 have M23 := Lib.hid (T19.out.mn LM.out)
 have C24 := Lib.hid (pmay12_any m w17 F21.out)
 rw [PV.out] at C24
 go_wp2_with (first | ((with_reducible refine wpList_load_at (o := ⟨some 27, .load 29 (.tmp 3), _, _, _, _⟩) ?e1 29 (.tmp 3) ?e2 ⟨w.heap.size, 0, none⟩ ?e3 _ M23.out ?_); (case e1 => rfl); (case e2 => rfl); (case e3 => rfl)))
 refine C24.out.mono ?_
 rintro e w25 ⟨rfl, hb26⟩
 have T27 := Lib.hid (T19.out.below hb26 T19.out.lt)
 have T28 := Lib.hid (T20.out.below hb26 T20.out.lt)
 have F29 := Lib.hid (F21.out.below hb26 (Nat.le_refl _))
 have B30 := Lib.hid (B22.out.trans (hb26.mono B22.out.size))
 clear hb26
 have M31 := Lib.hid (T27.out.mn LM.out)
 have M32 := Lib.hid (T28.out.dg LD.out)
 have C33 := Lib.hid ((show Calls Tryz.prog 22 #[.agg m.cs.toArray, .agg (bvals d), .int .i64 n] w25 (fun e w' => e = .returned (.tuple #[.agg (bvals q9), .int .i64 n9, .bool true]) ∧ Below (w25).heap.size w25 w') from by have h := plike12_any m d n w25 F29.out HD.out HN.out QM.out.2.2.1; rw [HL.out] at h; exact h))
 go_wp2_with (first | ((with_reducible refine wpList_load_at (o := ⟨some 33, .load 29 (.tmp 3), _, _, _, _⟩) ?e1 29 (.tmp 3) ?e2 ⟨w.heap.size, 0, none⟩ ?e3 _ M31.out ?_); (case e1 => rfl); (case e2 => rfl); (case e3 => rfl)) | ((with_reducible refine wpList_load_at (o := ⟨some 34, .load 26 (.tmp 4), _, _, _, _⟩) ?e1 26 (.tmp 4) ?e2 ⟨(w.heap.size + 1), 0, none⟩ ?e3 _ M32.out ?_); (case e1 => rfl); (case e2 => rfl); (case e3 => rfl)))
 refine C33.out.mono ?_
 rintro e w34 ⟨rfl, hb35⟩
 have T36 := Lib.hid (T27.out.below hb35 T27.out.lt)
 have T37 := Lib.hid (T28.out.below hb35 T28.out.lt)
 have F38 := Lib.hid (F29.out.below hb35 (Nat.le_refl _))
 have B39 := Lib.hid (B30.out.trans (hb35.mono B30.out.size))
 clear hb35
 have SZ39 := Lib.hid (idr_size HQ16.out)
 have SQ39 := Lib.hid (show (bvals z16m).size = (bvals q9).size by rw [idr0_size, idr_len HQ16.out])
 have SO39 := Lib.hid (idr_ones q9)
 have hb41 := (Below.refl w34.heap.size w34).alloc (Nat.le_refl _) (.cells (bvals q9) 38)
 have T42 := Lib.hid (RowAt.new w34 (bvals q9) 38)
 have T43 := Lib.hid (T36.out.below hb41 T36.out.lt)
 have T44 := Lib.hid (T37.out.below hb41 T37.out.lt)
 have F45 := Lib.hid (F38.out.below hb41 (Nat.le_refl _))
 have B46 := Lib.hid (B39.out.trans (hb41.mono B39.out.size))
 clear hb41
 have M50 := Lib.hid (T43.out.mn LM.out)
 have M51 := Lib.hid (T42.out.id HQ16.out)
 have C52 := Lib.hid ((show Calls Tryz.prog 20 #[.agg m.cs.toArray, .agg (bvals q9), .int .i64 n9] (w34.alloc (.cells (bvals q9) 38)) (FindN (w34.alloc (.cells (bvals q9) 38)) (findA m.ls q9 n9)) from pfind12_any m q9 n9 (w34.alloc (.cells (bvals q9) 38)) F45.out HQQ.out QM.out.1))
 unfold FindN at C52
 rw [FA.out] at C52
 go_wp2_with (first | ((with_reducible refine wpList_load_at (o := ⟨some 41, .load 29 (.tmp 3), _, _, _, _⟩) ?e1 29 (.tmp 3) ?e2 ⟨w.heap.size, 0, none⟩ ?e3 _ M50.out ?_); (case e1 => rfl); (case e2 => rfl); (case e3 => rfl)) | ((with_reducible refine wpList_load_at (o := ⟨some 42, .load 38 (.tmp 9), _, _, _, _⟩) ?e1 38 (.tmp 9) ?e2 ⟨w34.heap.size, 0, none⟩ ?e3 _ M51.out ?_); (case e1 => rfl); (case e2 => rfl); (case e3 => rfl)) | ((with_reducible refine wpList_store_new (o := ⟨none, .store 38 (.tmp 9) (.tmp 37), _, _, _, _⟩) ?e1 38 (.tmp 9) (.tmp 37) ?e2 ?e3 (bvals z16m) (bvals q9) ?e4 SZ39.out SQ39.out SO39.out ?_); (case e1 => rfl); (case e2 => rfl); (case e3 => (first | rfl | exact congrArg (fun q => Value.pointer (some ⟨q, 0, none⟩)) (World.size_alloc _ _).symm)); (case e4 => rfl)))
 refine C52.out.mono ?_
 rintro e w53 ⟨d47, rfl, hd48, hk49, hb54⟩
 have T55 := Lib.hid (T43.out.below hb54 T43.out.lt)
 have T56 := Lib.hid (T44.out.below hb54 T44.out.lt)
 have T57 := Lib.hid (T42.out.below hb54 T42.out.lt)
 have F58 := Lib.hid (F45.out.below hb54 (Nat.le_refl _))
 have B59 := Lib.hid (B46.out.trans (hb54.mono B46.out.size))
 clear hb54
 have E60 := Lib.hid (hd48)
 have F61 := Lib.hid (hk49)
 clear hd48 hk49
 have E60' := Lib.hid (show d47.e = v9.e from E60.out)
 have SZ61 := Lib.hid (en_size F61.out)
 have SQ61 := Lib.hid (show (KEn.cs enA0).toArray.size = (KEn.cs d47).toArray.size by rw [enA0_size, List.size_toArray]; exact (EnA.len F61.out).symm)
 have SO61 := Lib.hid (en_ones d47)
 have L63 := Lib.hid (EnA.len F61.out)
 have hb64 := (Below.refl w53.heap.size w53).alloc (Nat.le_refl _) (.cells (KEn.cs d47).toArray 48)
 have T65 := Lib.hid (RowAt.new w53 (KEn.cs d47).toArray 48)
 have T66 := Lib.hid (T55.out.below hb64 T55.out.lt)
 have T67 := Lib.hid (T56.out.below hb64 T56.out.lt)
 have T68 := Lib.hid (T57.out.below hb64 T57.out.lt)
 have F69 := Lib.hid (F58.out.below hb64 (Nat.le_refl _))
 have F70 := Lib.hid (F61.out.below hb64 (Nat.le_refl _))
 have B71 := Lib.hid (B59.out.trans (hb64.mono B59.out.size))
 clear hb64
 have K12 := Lib.hid (Kind.at_blk (K := KEn) (x := d47) T65.out)
 have EDS := Lib.hid (show d47.e.ds = d from by rw [E60'.out]; exact HVD.out)
 have ELN := Lib.hid (show d47.e.len = n from by rw [E60'.out]; exact HVL.out)
 have L53 := Lib.hid (load_dig (en_dig K12.out (by rw [EDS.out]; exact HD.out.1)) (by rw [EDS.out]; exact HD.out.1))
 rw [EDS.out] at L53
 have cc59 := en_c3 K12.out
 rw [ELN.out] at cc59
 have L54 := Lib.hid (T67.out.dg LD.out)
 have QD := Lib.hid (show (Op.equalIn 10000 26 (.agg (bvals d)) (.agg (bvals d))).run Tryz.prog (w53.alloc (.cells (KEn.cs d47).toArray 48)) = .ok true (w53.alloc (.cells (KEn.cs d47).toArray 48)) from by rw [eq_dig HD.out.2 HD.out.2 HD.out.1 HD.out.1]; congr 1; simp)
 have T3 := Lib.hid T66.out
 have T4 := Lib.hid T67.out
 have T9 := Lib.hid T68.out
 have HB1 := Lib.hid B71.out
 have FC32 := Lib.hid (fun X (hX : Below ((w53.alloc (.cells (KEn.cs d47).toArray 48))).heap.size (w53.alloc (.cells (KEn.cs d47).toArray 48)) X) => MnAt.c32 (show MnAt X w.heap.size m from T3.out.below hX T3.out.lt) HM32.out)
 rw [HN9'.out] at FC32
 have HDD := Lib.hid (fun X (hX : Below ((w53.alloc (.cells (KEn.cs d47).toArray 48))).heap.size (w53.alloc (.cells (KEn.cs d47).toArray 48)) X) => Kind.at_blk (K := KDig) (x := d) (T4.out.below hX T4.out.lt))
 have HIQ := Lib.hid (fun X (hX : Below ((w53.alloc (.cells (KEn.cs d47).toArray 48))).heap.size (w53.alloc (.cells (KEn.cs d47).toArray 48)) X) => Kind.at_blk (K := KId) (x := q9) (T9.out.below hX T9.out.lt))
 go_wp2_with (first | ((with_reducible refine wpList_store_new (o := ⟨none, .store 48 (.tmp 12) (.tmp 45), _, _, _, _⟩) ?e1 48 (.tmp 12) (.tmp 45) ?e2 ?e3 (KEn.cs enA0).toArray (KEn.cs d47).toArray ?e4 SZ61.out SQ61.out SO61.out ?_); (case e1 => rfl); (case e2 => rfl); (case e3 => (first | rfl | exact congrArg (fun q => Value.pointer (some ⟨q, 0, none⟩)) (World.size_alloc _ _).symm)); (case e4 => rfl)) | ((with_reducible refine wpList_load_at (o := ⟨some 53, .load 26 (.tmp 52), _, _, _, _⟩) ?e1 26 (.tmp 52) ?e2 ⟨w53.heap.size, 4, none⟩ ?e3 _ L53.out ?_); (case e1 => rfl); (case e2 => rfl); (case e3 => rfl)) | ((with_reducible refine wpList_load_at (o := ⟨some 54, .load 26 (.tmp 4), _, _, _, _⟩) ?e1 26 (.tmp 4) ?e2 ⟨(w.heap.size + 1), 0, none⟩ ?e3 _ L54.out ?_); (case e1 => rfl); (case e2 => rfl); (case e3 => rfl)) | ((with_reducible refine wpList_neqM (o := ⟨some 55, .binOp .neq 26 (.tmp 53) (.tmp 54) 26, _, _, _, _⟩) ?e1 26 (.tmp 53) (.tmp 54) 26 ?e2 (xs := bvals d) (ys := bvals d) ?e3 ?e4 guardDig QD.out ?_); (case e1 => rfl); (case e2 => rfl); (case e3 => rfl); (case e4 => rfl)))
 generalize ((w53.alloc (.cells (KEn.cs d47).toArray 48))) = w1 at *
 go_loopw [14] (fun i wr => ∃ k : Nat, k ≤ N ∧ i = .int .i64 k ∧ Below w1.heap.size w1 wr ∧ V9 = llike ((m.ls.drop k).map (·.x)) d n) (fun i _ => N - (intOf i).toNat)
 case atStart => exact ⟨0, Nat.zero_le _, rfl, Below.refl _ _, HV.out⟩
 case round =>
  obtain ⟨k, hk, rfl, hb, hf⟩ := hrel
  have HBB := Lib.hid hb
  have cc1 := FC32.out wr hb
  by_cases hlt : k < N
  ·have t1 : (k : Int) < (N : Int) := by omega
   have hlt' : k < m.ls.length := by rw [HN9'.out]; exact hlt
   obtain ⟨b1, off1, hA1, hb1w, hx1, hi1⟩ := HR.out (by omega)
   have IX1 := Lib.hid (hi1 k hlt' k rfl)
   rw [← hA1] at IX1
   try rw [HN9'.out] at IX1
   have hok := HOK.out k hlt'
   have FLN := Lib.hid (fun X (hX : Below w1.heap.size w1 X) => Kind.at_same (hx1 k hlt') ((HB1.out.trans (hX.mono HB1.out.size)).block b1 hb1w))
   rw [HLS.out k hlt'] at hf
   generalize hrst : llike ((m.ls.drop (k + 1)).map (·.x)) d n = rest at *
   have HRST := Lib.hid hrst
   generalize m.ls.getD k lnA0 = x at *
   have HOKX := Lib.hid hok
   have FLI := Lib.hid (fun X (hX : Below w1.heap.size w1 X) => ln_id (FLN.out X hX) HOKX.out.1)
   have F18 := Lib.hid (fun X (hX : Below w1.heap.size w1 X) => ln_c18 (FLN.out X hX) HOKX.out.1)
   have HE := Lib.hid (fun h0 => en_row hok.2.2.2.2 h0)
   have HEO := Lib.hid (fun j (hj : j < x.es.length) => show EnA.Ok w (x.es.getD j enA0) from Kind.row_ok hok.2.2.2.2 hj)
   have HES := Lib.hid (fun j (hj : j < x.es.length) => elike_step (es := x.es) d n hj)
   have hMb : x.es.length ≤ 9223372036854775807 := by
    have a1 := hok.2.2.2.2.1
    have a2 := hok.2.2.2.2.2.1
    simp only [maxLen] at a2
    omega
   generalize hM : x.es.length = M at *
   have HM := Lib.hid hM
   have HF0 := Lib.hid hf
   clear hx1 hi1 hA1 hok hb hb1w hf hrst hM hlt'
   go_wp2
   clear cc1
   go_loopw [15] (fun i wr => ∃ j : Nat, j ≤ M ∧ i = .int .i64 j ∧ Below w1.heap.size w1 wr ∧ V9 = likeOr x.z (elike ((x.es.drop j).map (·.e)) d n) rest) (fun i _ => M - (intOf i).toNat)
   case atStart => exact ⟨0, Nat.zero_le _, rfl, HBB.out, HF0.out⟩
   case round =>
    obtain ⟨j, hj, rfl, hb2, hf2⟩ := hrel
    have HB2 := Lib.hid hb2
    have HT := Lib.hid (fun w9 (h9 : Below wr.heap.size wr w9) => hb2.trans (h9.mono hb2.size))
    have cc1 := FC32.out wr hb2
    have cx1 := IX1.out wr
    have cc2 := F18.out wr hb2
    by_cases hjt : j < M
    ·have t3 : (j : Int) < (M : Int) := by omega
     obtain ⟨b2, off2, hA2, hb2w, hx2, hi2⟩ := HE.out (by omega)
     have IX2 := Lib.hid (hi2 j hjt j rfl)
     rw [← hA2] at IX2
     have FEN := Lib.hid (fun X (hX : Below w1.heap.size w1 X) => Kind.at_same (hx2 j hjt) ((HB1.out.trans (hX.mono HB1.out.size)).block b2 hb2w))
     have hokE := HEO.out j hjt
     rw [HES.out j hjt] at hf2
     generalize x.es.getD j enA0 = y at *
     have HD32 := Lib.hid hokE.2.2.2.2.1
     have FC3 := Lib.hid (fun X (hX : Below w1.heap.size w1 X) => en_c3 (FEN.out X hX))
     have FC0 := Lib.hid (fun X (hX : Below w1.heap.size w1 X) => en_c0 (FEN.out X hX))
     have HQ := Lib.hid (show ∀ X, (Op.equalIn 10000 26 (.agg (bvals y.e.ds)) (.agg (bvals d))).run Tryz.prog X = .ok (decide (y.e.ds = d)) X from fun X => by
      rw [eq_dig hokE.2.2.2.2.2.1 HD.out.2 hokE.2.2.2.2.1 HD.out.1 X]; congr 1; rw [Bool.eq_iff_iff]; simp)
     clear hx2 hi2 hA2 hokE hb2 hb2w
     by_cases he : y.e.ds = d
     ·rw [decide_eq_true he] at HQ
      by_cases hl : y.e.len = n
      ·skip
       have HF := Lib.hid (show V9 = some (x.z, y.e.no) by rw [hf2, if_pos ⟨he, hl⟩]; rfl)
       have hzq : x.z = q9 := by have h := HF.out; rw [HV9.out] at h; exact (congrArg Prod.fst (Option.some.inj h)).symm
       have hnq : y.e.no = n9 := by have h := HF.out; rw [HV9.out] at h; exact (congrArg Prod.snd (Option.some.inj h)).symm
       have HT5 := Lib.hid (show y.e.len = n from hl)
       have HN9 := Lib.hid hnq
       have HQI := Lib.hid (fun X : World => show (Op.equalIn 10000 38 (.agg (bvals x.z)) (.agg (bvals q9))).run Tryz.prog X = .ok true X from by have h := eq_id HOKX.out.2.1 HOKX.out.2.1 HOKX.out.1 HOKX.out.1 X; rw [beq_self_eq_true] at h; rw [← hzq]; exact h)
       clear hf2 he hl hzq hnq
       go_wp2_with fail
       refine wp_region_G _ (by kernel_rfl) ?_
       refine wpGv (i := 0) (oi := ⟨some 82, _, _, _, _, _⟩) (v := ?_) rfl ?_ ?_; rotate_left; (focus (intro w9 hSw; go_simp; try with_reducible rfl)); simp only [Act.put, Z2, Z3, Z4]
       refine wpGv (i := 1) (oi := ⟨some 83, _, _, _, _, _⟩) (v := ?_) rfl ?_ ?_; rotate_left; (focus (intro w9 hSw; have q0 := FC32.out w9 (HT.out w9 hSw); go_simp; try with_reducible rfl)); simp only [Act.put, Z2, Z3, Z4]
       refine wpGv (i := 2) (oi := ⟨some 84, _, _, _, _, _⟩) (v := ?_) rfl ?_ ?_; rotate_left; (focus (intro w9 hSw; go_simp; try with_reducible rfl)); simp only [Act.put, Z2, Z3, Z4]
       refine wpGv (i := 3) (oi := ⟨some 85, _, _, _, _, _⟩) (v := ?_) rfl ?_ ?_; rotate_left; (focus (intro w9 hSw; have q0 := IX1.out w9; go_simp; try with_reducible rfl)); simp only [Act.put, Z2, Z3, Z4]
       refine wpGv (i := 4) (oi := ⟨some 86, _, _, _, _, _⟩) (v := ?_) rfl ?_ ?_; rotate_left; (focus (intro w9 hSw; go_simp; try with_reducible rfl)); simp only [Act.put, Z2, Z3, Z4]
       refine wpGv (i := 5) (oi := ⟨some 87, _, _, _, _, _⟩) (v := ?_) rfl ?_ ?_; rotate_left; (focus (intro w9 hSw; have q0 := F18.out w9 (HT.out w9 hSw); go_simp; try with_reducible rfl)); simp only [Act.put, Z2, Z3, Z4]
       refine wpGv (i := 6) (oi := ⟨some 88, _, _, _, _, _⟩) (v := ?_) rfl ?_ ?_; rotate_left; (focus (intro w9 hSw; go_simp; try with_reducible rfl)); simp only [Act.put, Z2, Z3, Z4]
       refine wpGv (i := 7) (oi := ⟨some 89, _, _, _, _, _⟩) (v := ?_) rfl ?_ ?_; rotate_left; (focus (intro w9 hSw; have q0 := IX2.out w9; go_simp; try with_reducible rfl)); simp only [Act.put, Z2, Z3, Z4]
       refine wpGv (i := 8) (oi := ⟨some 90, _, _, _, _, _⟩) (v := ?_) rfl ?_ ?_; rotate_left; (focus (intro w9 hSw; go_simp; try with_reducible rfl)); simp only [Act.put, Z2, Z3, Z4]
       refine wpGv (i := 9) (oi := ⟨some 91, _, _, _, _, _⟩) (v := (.agg (bvals y.e.ds))) rfl ?_ ?_; (focus (intro w9 hSw; exact exec_load_at 26 _ rfl _ rfl (load_dig (en_dig (FEN.out w9 (HT.out w9 hSw)) HD32.out) HD32.out))); simp only [Act.put, Z2, Z3, Z4]
       refine wpGv (i := 10) (oi := ⟨some 92, _, _, _, _, _⟩) (v := (.agg (bvals d))) rfl ?_ ?_; (focus (intro w9 hSw; exact exec_load_at 26 _ rfl _ rfl (load_dig (HDD.out w9 (HT.out w9 hSw)) HD.out.1))); simp only [Act.put, Z2, Z3, Z4]
       refine wpGv (i := 11) (oi := ⟨some 93, _, _, _, _, _⟩) (v := (.bool true)) rfl ?_ ?_; (focus (intro w9 hSw; have q0 := HQ.out w9; exact exec_eql_at 26 _ _ _ rfl rfl rfl guardDig q0)); simp only [Act.put, Z2, Z3, Z4]
       refine wpGv (i := 12) (oi := ⟨some 94, _, _, _, _, _⟩) (v := ?_) rfl ?_ ?_; rotate_left; (focus (intro w9 hSw; go_simp; try with_reducible rfl)); simp only [Act.put, Z2, Z3, Z4]
       refine wpGv (i := 13) (oi := ⟨some 95, _, _, _, _, _⟩) (v := ?_) rfl ?_ ?_; rotate_left; (focus (intro w9 hSw; go_simp; try with_reducible rfl)); simp only [Act.put, Z2, Z3, Z4]
       refine wpGv (i := 14) (oi := ⟨some 96, _, _, _, _, _⟩) (v := ?_) rfl ?_ ?_; rotate_left; (focus (intro w9 hSw; have q0 := FC32.out w9 (HT.out w9 hSw); go_simp; try with_reducible rfl)); simp only [Act.put, Z2, Z3, Z4]
       refine wpGv (i := 15) (oi := ⟨some 97, _, _, _, _, _⟩) (v := ?_) rfl ?_ ?_; rotate_left; (focus (intro w9 hSw; go_simp; try with_reducible rfl)); simp only [Act.put, Z2, Z3, Z4]
       refine wpGv (i := 16) (oi := ⟨some 98, _, _, _, _, _⟩) (v := ?_) rfl ?_ ?_; rotate_left; (focus (intro w9 hSw; have q0 := IX1.out w9; go_simp; try with_reducible rfl)); simp only [Act.put, Z2, Z3, Z4]
       refine wpGv (i := 17) (oi := ⟨some 99, _, _, _, _, _⟩) (v := ?_) rfl ?_ ?_; rotate_left; (focus (intro w9 hSw; go_simp; try with_reducible rfl)); simp only [Act.put, Z2, Z3, Z4]
       refine wpGv (i := 18) (oi := ⟨some 100, _, _, _, _, _⟩) (v := ?_) rfl ?_ ?_; rotate_left; (focus (intro w9 hSw; have q0 := F18.out w9 (HT.out w9 hSw); go_simp; try with_reducible rfl)); simp only [Act.put, Z2, Z3, Z4]
       refine wpGv (i := 19) (oi := ⟨some 101, _, _, _, _, _⟩) (v := ?_) rfl ?_ ?_; rotate_left; (focus (intro w9 hSw; go_simp; try with_reducible rfl)); simp only [Act.put, Z2, Z3, Z4]
       refine wpGv (i := 20) (oi := ⟨some 102, _, _, _, _, _⟩) (v := ?_) rfl ?_ ?_; rotate_left; (focus (intro w9 hSw; have q0 := IX2.out w9; go_simp; try with_reducible rfl)); simp only [Act.put, Z2, Z3, Z4]
       refine wpGv (i := 21) (oi := ⟨some 103, _, _, _, _, _⟩) (v := ?_) rfl ?_ ?_; rotate_left; (focus (intro w9 hSw; go_simp; try with_reducible rfl)); simp only [Act.put, Z2, Z3, Z4]
       refine wpGv (i := 22) (oi := ⟨some 104, _, _, _, _, _⟩) (v := ?_) rfl ?_ ?_; rotate_left; (focus (intro w9 hSw; have q0 := FC3.out w9 (HT.out w9 hSw); go_simp; try with_reducible rfl)); simp only [Act.put, Z2, Z3, Z4]
       refine wpGv (i := 23) (oi := ⟨some 105, _, _, _, _, _⟩) (v := ?_) rfl ?_ ?_; rotate_left; (focus (intro w9 hSw; go_simp; try with_reducible rfl)); simp only [Act.put, Z2, Z3, Z4]
       refine wpGv (i := 24) (oi := ⟨some 106, _, _, _, _, _⟩) (v := ?_) rfl ?_ ?_; rotate_left; (focus (intro w9 hSw; have q0 := HT5.out; go_simp; try with_reducible rfl)); simp only [Act.put, Z2, Z3, Z4]
       refine wpGv (i := 25) (oi := ⟨some 107, _, _, _, _, _⟩) (v := ?_) rfl ?_ ?_; rotate_left; (focus (intro w9 hSw; go_simp; try with_reducible rfl)); simp only [Act.put, Z2, Z3, Z4]
       refine wpGv (i := 26) (oi := ⟨some 16, _, _, _, _, _⟩) (v := ?_) rfl ?_ ?_; rotate_left; (focus (intro w9 hSw; go_simp; try with_reducible rfl)); simp only [Act.put, Z2, Z3, Z4]
       refine wpG_done (by kernel_rfl) ?_ _
       intro w9 hSw _
       have B9 := Lib.hid (HB2.out.trans (hSw.mono HB2.out.size))
       have HT := Lib.hid (fun w9' (h9 : Below w9.heap.size w9 w9') => B9.out.trans (h9.mono B9.out.size))
       clear hSw cc1 cx1 cc2
       go_wp2_with fail
       refine wp_region_G _ (by kernel_rfl) ?_
       refine wpGv (i := 0) (oi := ⟨some 114, _, _, _, _, _⟩) (v := ?_) rfl ?_ ?_; rotate_left; (focus (intro w9 hSw; go_simp; try with_reducible rfl)); simp only [Act.put, Z2, Z3, Z4]
       refine wpGv (i := 1) (oi := ⟨some 115, _, _, _, _, _⟩) (v := ?_) rfl ?_ ?_; rotate_left; (focus (intro w9 hSw; have q0 := FC32.out w9 (HT.out w9 hSw); go_simp; try with_reducible rfl)); simp only [Act.put, Z2, Z3, Z4]
       refine wpGv (i := 2) (oi := ⟨some 116, _, _, _, _, _⟩) (v := ?_) rfl ?_ ?_; rotate_left; (focus (intro w9 hSw; go_simp; try with_reducible rfl)); simp only [Act.put, Z2, Z3, Z4]
       refine wpGv (i := 3) (oi := ⟨some 117, _, _, _, _, _⟩) (v := ?_) rfl ?_ ?_; rotate_left; (focus (intro w9 hSw; have q0 := IX1.out w9; go_simp; try with_reducible rfl)); simp only [Act.put, Z2, Z3, Z4]
       refine wpGv (i := 4) (oi := ⟨some 118, _, _, _, _, _⟩) (v := ?_) rfl ?_ ?_; rotate_left; (focus (intro w9 hSw; go_simp; try with_reducible rfl)); simp only [Act.put, Z2, Z3, Z4]
       refine wpGv (i := 5) (oi := ⟨some 119, _, _, _, _, _⟩) (v := (.agg (bvals x.z))) rfl ?_ ?_; (focus (intro w9 hSw; exact exec_load_at 38 _ rfl _ rfl (load_idM (FLI.out w9 (HT.out w9 hSw)) HOKX.out.1))); simp only [Act.put, Z2, Z3, Z4]
       refine wpGv (i := 6) (oi := ⟨some 120, _, _, _, _, _⟩) (v := (.agg (bvals q9))) rfl ?_ ?_; (focus (intro w9 hSw; exact exec_load_at 38 _ rfl _ rfl (load_idM (HIQ.out w9 (HT.out w9 hSw)) HQ16.out))); simp only [Act.put, Z2, Z3, Z4]
       refine wpGv (i := 7) (oi := ⟨some 121, _, _, _, _, _⟩) (v := (.bool true)) rfl ?_ ?_; (focus (intro w9 hSw; have q0 := HQI.out w9; exact exec_eql_at 38 _ _ _ rfl rfl rfl guardIdM q0)); simp only [Act.put, Z2, Z3, Z4]
       refine wpGv (i := 8) (oi := ⟨some 122, _, _, _, _, _⟩) (v := ?_) rfl ?_ ?_; rotate_left; (focus (intro w9 hSw; go_simp; try with_reducible rfl)); simp only [Act.put, Z2, Z3, Z4]
       refine wpGv (i := 9) (oi := ⟨some 123, _, _, _, _, _⟩) (v := ?_) rfl ?_ ?_; rotate_left; (focus (intro w9 hSw; go_simp; try with_reducible rfl)); simp only [Act.put, Z2, Z3, Z4]
       refine wpGv (i := 10) (oi := ⟨some 124, _, _, _, _, _⟩) (v := ?_) rfl ?_ ?_; rotate_left; (focus (intro w9 hSw; have q0 := FC32.out w9 (HT.out w9 hSw); go_simp; try with_reducible rfl)); simp only [Act.put, Z2, Z3, Z4]
       refine wpGv (i := 11) (oi := ⟨some 125, _, _, _, _, _⟩) (v := ?_) rfl ?_ ?_; rotate_left; (focus (intro w9 hSw; go_simp; try with_reducible rfl)); simp only [Act.put, Z2, Z3, Z4]
       refine wpGv (i := 12) (oi := ⟨some 126, _, _, _, _, _⟩) (v := ?_) rfl ?_ ?_; rotate_left; (focus (intro w9 hSw; have q0 := IX1.out w9; go_simp; try with_reducible rfl)); simp only [Act.put, Z2, Z3, Z4]
       refine wpGv (i := 13) (oi := ⟨some 127, _, _, _, _, _⟩) (v := ?_) rfl ?_ ?_; rotate_left; (focus (intro w9 hSw; go_simp; try with_reducible rfl)); simp only [Act.put, Z2, Z3, Z4]
       refine wpGv (i := 14) (oi := ⟨some 128, _, _, _, _, _⟩) (v := ?_) rfl ?_ ?_; rotate_left; (focus (intro w9 hSw; have q0 := F18.out w9 (HT.out w9 hSw); go_simp; try with_reducible rfl)); simp only [Act.put, Z2, Z3, Z4]
       refine wpGv (i := 15) (oi := ⟨some 129, _, _, _, _, _⟩) (v := ?_) rfl ?_ ?_; rotate_left; (focus (intro w9 hSw; go_simp; try with_reducible rfl)); simp only [Act.put, Z2, Z3, Z4]
       refine wpGv (i := 16) (oi := ⟨some 130, _, _, _, _, _⟩) (v := ?_) rfl ?_ ?_; rotate_left; (focus (intro w9 hSw; have q0 := IX2.out w9; go_simp; try with_reducible rfl)); simp only [Act.put, Z2, Z3, Z4]
       refine wpGv (i := 17) (oi := ⟨some 131, _, _, _, _, _⟩) (v := ?_) rfl ?_ ?_; rotate_left; (focus (intro w9 hSw; go_simp; try with_reducible rfl)); simp only [Act.put, Z2, Z3, Z4]
       refine wpGv (i := 18) (oi := ⟨some 132, _, _, _, _, _⟩) (v := ?_) rfl ?_ ?_; rotate_left; (focus (intro w9 hSw; have q0 := FC0.out w9 (HT.out w9 hSw); go_simp; try with_reducible rfl)); simp only [Act.put, Z2, Z3, Z4]
       refine wpGv (i := 19) (oi := ⟨some 133, _, _, _, _, _⟩) (v := ?_) rfl ?_ ?_; rotate_left; (focus (intro w9 hSw; go_simp; try with_reducible rfl)); simp only [Act.put, Z2, Z3, Z4]
       refine wpGv (i := 20) (oi := ⟨some 134, _, _, _, _, _⟩) (v := ?_) rfl ?_ ?_; rotate_left; (focus (intro w9 hSw; have q0 := HN9.out; go_simp; try with_reducible rfl)); simp only [Act.put, Z2, Z3, Z4]
       refine wpGv (i := 21) (oi := ⟨some 135, _, _, _, _, _⟩) (v := ?_) rfl ?_ ?_; rotate_left; (focus (intro w9 hSw; go_simp; try with_reducible rfl)); simp only [Act.put, Z2, Z3, Z4]
       refine wpGv (i := 22) (oi := ⟨some 6, _, _, _, _, _⟩) (v := ?_) rfl ?_ ?_; rotate_left; (focus (intro w9 hSw; go_simp; try with_reducible rfl)); simp only [Act.put, Z2, Z3, Z4]
       refine wpG_done (by kernel_rfl) ?_ _
       intro w10 hSw _
       have B10 := Lib.hid (B9.out.trans (hSw.mono B9.out.size))
       go_wp2
       go_ret
       exact ⟨rfl, HB1.out.trans (B10.out.mono HB1.out.size)⟩
      ·have HF := Lib.hid (show V9 = likeOr x.z (elike ((x.es.drop (j + 1)).map (·.e)) d n) rest by rw [hf2, if_neg (fun h => hl h.2)])
       have HT5 := Lib.hid (show ¬ y.e.len = n from hl)
       clear hf2 he
       go_wp2_with fail
       refine wp_region_G _ (by kernel_rfl) ?_
       refine wpGv (i := 0) (oi := ⟨some 82, _, _, _, _, _⟩) (v := ?_) rfl ?_ ?_; rotate_left; (focus (intro w9 hSw; go_simp; try with_reducible rfl)); simp only [Act.put, Z2, Z3, Z4]
       refine wpGv (i := 1) (oi := ⟨some 83, _, _, _, _, _⟩) (v := ?_) rfl ?_ ?_; rotate_left; (focus (intro w9 hSw; have q0 := FC32.out w9 (HT.out w9 hSw); go_simp; try with_reducible rfl)); simp only [Act.put, Z2, Z3, Z4]
       refine wpGv (i := 2) (oi := ⟨some 84, _, _, _, _, _⟩) (v := ?_) rfl ?_ ?_; rotate_left; (focus (intro w9 hSw; go_simp; try with_reducible rfl)); simp only [Act.put, Z2, Z3, Z4]
       refine wpGv (i := 3) (oi := ⟨some 85, _, _, _, _, _⟩) (v := ?_) rfl ?_ ?_; rotate_left; (focus (intro w9 hSw; have q0 := IX1.out w9; go_simp; try with_reducible rfl)); simp only [Act.put, Z2, Z3, Z4]
       refine wpGv (i := 4) (oi := ⟨some 86, _, _, _, _, _⟩) (v := ?_) rfl ?_ ?_; rotate_left; (focus (intro w9 hSw; go_simp; try with_reducible rfl)); simp only [Act.put, Z2, Z3, Z4]
       refine wpGv (i := 5) (oi := ⟨some 87, _, _, _, _, _⟩) (v := ?_) rfl ?_ ?_; rotate_left; (focus (intro w9 hSw; have q0 := F18.out w9 (HT.out w9 hSw); go_simp; try with_reducible rfl)); simp only [Act.put, Z2, Z3, Z4]
       refine wpGv (i := 6) (oi := ⟨some 88, _, _, _, _, _⟩) (v := ?_) rfl ?_ ?_; rotate_left; (focus (intro w9 hSw; go_simp; try with_reducible rfl)); simp only [Act.put, Z2, Z3, Z4]
       refine wpGv (i := 7) (oi := ⟨some 89, _, _, _, _, _⟩) (v := ?_) rfl ?_ ?_; rotate_left; (focus (intro w9 hSw; have q0 := IX2.out w9; go_simp; try with_reducible rfl)); simp only [Act.put, Z2, Z3, Z4]
       refine wpGv (i := 8) (oi := ⟨some 90, _, _, _, _, _⟩) (v := ?_) rfl ?_ ?_; rotate_left; (focus (intro w9 hSw; go_simp; try with_reducible rfl)); simp only [Act.put, Z2, Z3, Z4]
       refine wpGv (i := 9) (oi := ⟨some 91, _, _, _, _, _⟩) (v := (.agg (bvals y.e.ds))) rfl ?_ ?_; (focus (intro w9 hSw; exact exec_load_at 26 _ rfl _ rfl (load_dig (en_dig (FEN.out w9 (HT.out w9 hSw)) HD32.out) HD32.out))); simp only [Act.put, Z2, Z3, Z4]
       refine wpGv (i := 10) (oi := ⟨some 92, _, _, _, _, _⟩) (v := (.agg (bvals d))) rfl ?_ ?_; (focus (intro w9 hSw; exact exec_load_at 26 _ rfl _ rfl (load_dig (HDD.out w9 (HT.out w9 hSw)) HD.out.1))); simp only [Act.put, Z2, Z3, Z4]
       refine wpGv (i := 11) (oi := ⟨some 93, _, _, _, _, _⟩) (v := (.bool true)) rfl ?_ ?_; (focus (intro w9 hSw; have q0 := HQ.out w9; exact exec_eql_at 26 _ _ _ rfl rfl rfl guardDig q0)); simp only [Act.put, Z2, Z3, Z4]
       refine wpGv (i := 12) (oi := ⟨some 94, _, _, _, _, _⟩) (v := ?_) rfl ?_ ?_; rotate_left; (focus (intro w9 hSw; go_simp; try with_reducible rfl)); simp only [Act.put, Z2, Z3, Z4]
       refine wpGv (i := 13) (oi := ⟨some 95, _, _, _, _, _⟩) (v := ?_) rfl ?_ ?_; rotate_left; (focus (intro w9 hSw; go_simp; try with_reducible rfl)); simp only [Act.put, Z2, Z3, Z4]
       refine wpGv (i := 14) (oi := ⟨some 96, _, _, _, _, _⟩) (v := ?_) rfl ?_ ?_; rotate_left; (focus (intro w9 hSw; have q0 := FC32.out w9 (HT.out w9 hSw); go_simp; try with_reducible rfl)); simp only [Act.put, Z2, Z3, Z4]
       refine wpGv (i := 15) (oi := ⟨some 97, _, _, _, _, _⟩) (v := ?_) rfl ?_ ?_; rotate_left; (focus (intro w9 hSw; go_simp; try with_reducible rfl)); simp only [Act.put, Z2, Z3, Z4]
       refine wpGv (i := 16) (oi := ⟨some 98, _, _, _, _, _⟩) (v := ?_) rfl ?_ ?_; rotate_left; (focus (intro w9 hSw; have q0 := IX1.out w9; go_simp; try with_reducible rfl)); simp only [Act.put, Z2, Z3, Z4]
       refine wpGv (i := 17) (oi := ⟨some 99, _, _, _, _, _⟩) (v := ?_) rfl ?_ ?_; rotate_left; (focus (intro w9 hSw; go_simp; try with_reducible rfl)); simp only [Act.put, Z2, Z3, Z4]
       refine wpGv (i := 18) (oi := ⟨some 100, _, _, _, _, _⟩) (v := ?_) rfl ?_ ?_; rotate_left; (focus (intro w9 hSw; have q0 := F18.out w9 (HT.out w9 hSw); go_simp; try with_reducible rfl)); simp only [Act.put, Z2, Z3, Z4]
       refine wpGv (i := 19) (oi := ⟨some 101, _, _, _, _, _⟩) (v := ?_) rfl ?_ ?_; rotate_left; (focus (intro w9 hSw; go_simp; try with_reducible rfl)); simp only [Act.put, Z2, Z3, Z4]
       refine wpGv (i := 20) (oi := ⟨some 102, _, _, _, _, _⟩) (v := ?_) rfl ?_ ?_; rotate_left; (focus (intro w9 hSw; have q0 := IX2.out w9; go_simp; try with_reducible rfl)); simp only [Act.put, Z2, Z3, Z4]
       refine wpGv (i := 21) (oi := ⟨some 103, _, _, _, _, _⟩) (v := ?_) rfl ?_ ?_; rotate_left; (focus (intro w9 hSw; go_simp; try with_reducible rfl)); simp only [Act.put, Z2, Z3, Z4]
       refine wpGv (i := 22) (oi := ⟨some 104, _, _, _, _, _⟩) (v := ?_) rfl ?_ ?_; rotate_left; (focus (intro w9 hSw; have q0 := FC3.out w9 (HT.out w9 hSw); go_simp; try with_reducible rfl)); simp only [Act.put, Z2, Z3, Z4]
       refine wpGv (i := 23) (oi := ⟨some 105, _, _, _, _, _⟩) (v := ?_) rfl ?_ ?_; rotate_left; (focus (intro w9 hSw; go_simp; try with_reducible rfl)); simp only [Act.put, Z2, Z3, Z4]
       refine wpGv (i := 24) (oi := ⟨some 106, _, _, _, _, _⟩) (v := ?_) rfl ?_ ?_; rotate_left; (focus (intro w9 hSw; have q0 := HT5.out; go_simp; try with_reducible rfl)); simp only [Act.put, Z2, Z3, Z4]
       refine wpGv (i := 25) (oi := ⟨some 107, _, _, _, _, _⟩) (v := ?_) rfl ?_ ?_; rotate_left; (focus (intro w9 hSw; go_simp; try with_reducible rfl)); simp only [Act.put, Z2, Z3, Z4]
       refine wpGv (i := 26) (oi := ⟨some 16, _, _, _, _, _⟩) (v := ?_) rfl ?_ ?_; rotate_left; (focus (intro w9 hSw; go_simp; try with_reducible rfl)); simp only [Act.put, Z2, Z3, Z4]
       refine wpG_done (by kernel_rfl) ?_ _
       intro w9 hSw _
       have B9 := Lib.hid (HB2.out.trans (hSw.mono HB2.out.size))
       clear hSw cc1 cx1 cc2
       go_wp2
       go_roundw
       case rel => exact ⟨j + 1, by omega, by go_num, B9.out, HF.out⟩
       case measure => simp [intOf]; omega
     ·rw [decide_eq_false he] at HQ
      have HF := Lib.hid (show V9 = likeOr x.z (elike ((x.es.drop (j + 1)).map (·.e)) d n) rest by rw [hf2, if_neg (fun h => he h.1)])
      clear hf2
      go_wp2_with fail
      refine wp_region_G _ (by kernel_rfl) ?_
      refine wpGv (i := 0) (oi := ⟨some 82, _, _, _, _, _⟩) (v := ?_) rfl ?_ ?_; rotate_left; (focus (intro w9 hSw; go_simp; try with_reducible rfl)); simp only [Act.put, Z2, Z3, Z4]
      refine wpGv (i := 1) (oi := ⟨some 83, _, _, _, _, _⟩) (v := ?_) rfl ?_ ?_; rotate_left; (focus (intro w9 hSw; have q0 := FC32.out w9 (HT.out w9 hSw); go_simp; try with_reducible rfl)); simp only [Act.put, Z2, Z3, Z4]
      refine wpGv (i := 2) (oi := ⟨some 84, _, _, _, _, _⟩) (v := ?_) rfl ?_ ?_; rotate_left; (focus (intro w9 hSw; go_simp; try with_reducible rfl)); simp only [Act.put, Z2, Z3, Z4]
      refine wpGv (i := 3) (oi := ⟨some 85, _, _, _, _, _⟩) (v := ?_) rfl ?_ ?_; rotate_left; (focus (intro w9 hSw; have q0 := IX1.out w9; go_simp; try with_reducible rfl)); simp only [Act.put, Z2, Z3, Z4]
      refine wpGv (i := 4) (oi := ⟨some 86, _, _, _, _, _⟩) (v := ?_) rfl ?_ ?_; rotate_left; (focus (intro w9 hSw; go_simp; try with_reducible rfl)); simp only [Act.put, Z2, Z3, Z4]
      refine wpGv (i := 5) (oi := ⟨some 87, _, _, _, _, _⟩) (v := ?_) rfl ?_ ?_; rotate_left; (focus (intro w9 hSw; have q0 := F18.out w9 (HT.out w9 hSw); go_simp; try with_reducible rfl)); simp only [Act.put, Z2, Z3, Z4]
      refine wpGv (i := 6) (oi := ⟨some 88, _, _, _, _, _⟩) (v := ?_) rfl ?_ ?_; rotate_left; (focus (intro w9 hSw; go_simp; try with_reducible rfl)); simp only [Act.put, Z2, Z3, Z4]
      refine wpGv (i := 7) (oi := ⟨some 89, _, _, _, _, _⟩) (v := ?_) rfl ?_ ?_; rotate_left; (focus (intro w9 hSw; have q0 := IX2.out w9; go_simp; try with_reducible rfl)); simp only [Act.put, Z2, Z3, Z4]
      refine wpGv (i := 8) (oi := ⟨some 90, _, _, _, _, _⟩) (v := ?_) rfl ?_ ?_; rotate_left; (focus (intro w9 hSw; go_simp; try with_reducible rfl)); simp only [Act.put, Z2, Z3, Z4]
      refine wpGv (i := 9) (oi := ⟨some 91, _, _, _, _, _⟩) (v := (.agg (bvals y.e.ds))) rfl ?_ ?_; (focus (intro w9 hSw; exact exec_load_at 26 _ rfl _ rfl (load_dig (en_dig (FEN.out w9 (HT.out w9 hSw)) HD32.out) HD32.out))); simp only [Act.put, Z2, Z3, Z4]
      refine wpGv (i := 10) (oi := ⟨some 92, _, _, _, _, _⟩) (v := (.agg (bvals d))) rfl ?_ ?_; (focus (intro w9 hSw; exact exec_load_at 26 _ rfl _ rfl (load_dig (HDD.out w9 (HT.out w9 hSw)) HD.out.1))); simp only [Act.put, Z2, Z3, Z4]
      refine wpGv (i := 11) (oi := ⟨some 93, _, _, _, _, _⟩) (v := (.bool false)) rfl ?_ ?_; (focus (intro w9 hSw; have q0 := HQ.out w9; exact exec_eql_at 26 _ _ _ rfl rfl rfl guardDig q0)); simp only [Act.put, Z2, Z3, Z4]
      refine wpGv (i := 12) (oi := ⟨some 94, _, _, _, _, _⟩) (v := ?_) rfl ?_ ?_; rotate_left; (focus (intro w9 hSw; go_simp; try with_reducible rfl)); simp only [Act.put, Z2, Z3, Z4]
      refine wpGo (i := 13) (oi := ⟨some 95, _, _, _, _, _⟩) rfl ?_; simp only [Act.put, Z2, Z3, Z4]
      refine wpGo (i := 14) (oi := ⟨some 96, _, _, _, _, _⟩) rfl ?_; simp only [Act.put, Z2, Z3, Z4]
      refine wpGo (i := 15) (oi := ⟨some 97, _, _, _, _, _⟩) rfl ?_; simp only [Act.put, Z2, Z3, Z4]
      refine wpGo (i := 16) (oi := ⟨some 98, _, _, _, _, _⟩) rfl ?_; simp only [Act.put, Z2, Z3, Z4]
      refine wpGo (i := 17) (oi := ⟨some 99, _, _, _, _, _⟩) rfl ?_; simp only [Act.put, Z2, Z3, Z4]
      refine wpGo (i := 18) (oi := ⟨some 100, _, _, _, _, _⟩) rfl ?_; simp only [Act.put, Z2, Z3, Z4]
      refine wpGo (i := 19) (oi := ⟨some 101, _, _, _, _, _⟩) rfl ?_; simp only [Act.put, Z2, Z3, Z4]
      refine wpGo (i := 20) (oi := ⟨some 102, _, _, _, _, _⟩) rfl ?_; simp only [Act.put, Z2, Z3, Z4]
      refine wpGo (i := 21) (oi := ⟨some 103, _, _, _, _, _⟩) rfl ?_; simp only [Act.put, Z2, Z3, Z4]
      refine wpGo (i := 22) (oi := ⟨some 104, _, _, _, _, _⟩) rfl ?_; simp only [Act.put, Z2, Z3, Z4]
      refine wpGo (i := 23) (oi := ⟨some 105, _, _, _, _, _⟩) rfl ?_; simp only [Act.put, Z2, Z3, Z4]
      refine wpGo (i := 24) (oi := ⟨some 106, _, _, _, _, _⟩) rfl ?_; simp only [Act.put, Z2, Z3, Z4]
      refine wpGv (i := 25) (oi := ⟨some 107, _, _, _, _, _⟩) (v := ?_) rfl ?_ ?_; rotate_left; (focus (intro w9 hSw; go_simp; try with_reducible rfl)); simp only [Act.put, Z2, Z3, Z4]
      refine wpGv (i := 26) (oi := ⟨some 16, _, _, _, _, _⟩) (v := ?_) rfl ?_ ?_; rotate_left; (focus (intro w9 hSw; go_simp; try with_reducible rfl)); simp only [Act.put, Z2, Z3, Z4]
      refine wpG_done (by kernel_rfl) ?_ _
      intro w9 hSw _
      have B9 := Lib.hid (HB2.out.trans (hSw.mono HB2.out.size))
      clear hSw cc1 cx1 cc2
      go_wp2
      go_roundw
      case rel => exact ⟨j + 1, by omega, by go_num, B9.out, HF.out⟩
      case measure => simp [intOf]; omega
    ·obtain rfl : j = M := by omega
     have t3 : ¬ (j : Int) < (j : Int) := by omega
     have HF := Lib.hid (show V9 = rest by rw [hf2, List.drop_eq_nil_of_le (by rw [HM.out]; exact Nat.le_refl _)]; rfl)
     clear hf2 hb2
     go_wp2
     go_roundw
     case rel => exact ⟨k + 1, by omega, by go_num, HB2.out, by rw [HRST.out]; exact HF.out⟩
     case measure => simp [intOf]; omega
  ·obtain rfl : k = N := by omega
   have t1 : ¬ (k : Int) < (k : Int) := by omega
   have HF := Lib.hid (show V9 = none by rw [hf, List.drop_eq_nil_of_le (by rw [HN9'.out]; exact Nat.le_refl _)]; rfl)
   exact absurd (HV9.out.symm.trans HF.out) (by simp)
theorem walk_manifestLike (m : MnA) (d : List Int) (n : Int) (w : World) (hlaid : Laid w) (wm : m.Ok w) (wd : d.length = 32 ∧ AllBytes d) (wn : (Lit.int .i64 n).wf = true) :
  Calls Tryz.prog 6 #[m.v, .agg (bvals d), .int .i64 n] w fun e w' => e = .returned (.bool true) ∧ Below w.heap.size w w' := by
 cases p : mfew m.m
 ·exact mlk_few m d n w hlaid wm wd wn p
 ·cases q : mmay m.m
  ·exact mlk_may m d n w hlaid wm wd wn p q
  ·cases r : mlike m.m d n with
   | none => exact mlk_none m d n w hlaid wm wd wn p q r
   | some z => exact mlk_some m d n w hlaid wm wd wn z.1 z.2 p q r
end
end Go.Proofs.YtbkopnpafmjicaaGreatDoor
