import Derived.Test.YtbkopnpafmjicaaGreatDoorR0
import Derived.Test.YtbkopnpafmjicaaGreatDoorR36
import Derived.Test.YtbkopnpafmjicaaGreatDoorR37
import Derived.Test.YtbkopnpafmjicaaGreatDoorR30
import Derived.Test.YtbkopnpafmjicaaGreatDoorR16
import Derived.Test.YtbkopnpafmjicaaGreatDoorR17
import Derived.Test.YtbkopnpafmjicaaGreatDoorR27
/-
  What the functions that a law of this layer reaches answer, part 38. Nothing that was there is written.
-/
namespace Go.Proofs.YtbkopnpafmjicaaGreatDoor
set_option linter.unusedVariables false
set_option linter.unusedSimpArgs false
section
open Go.RowKit Go.Shelf WM
set_option maxRecDepth 100000
theorem idr_size {z : List Int} (h : z.length = 16) : (Tryz.prog.info? 38).map (·.size) = some (bvals z).size := by
 rw [show (bvals z).size = 16 by simp [bvals, h]]
 exact infoIdM
theorem idr_len {z : List Int} (h : z.length = 16) : (bvals z).size = 16 := by simp [bvals, h]
theorem idr0_size : (bvals z16m).size = 16 := by decide
theorem idr_ones (z : List Int) : (bvals z).all (·.oneCell') = true := by
 rw [Array.all_eq_true]
 intro i hi
 simp [bvals, Value.oneCell']
theorem line_bound {m : MnA} {z : List Int} {y x : LnA} (h : ∀ x ∈ m.ls, x.es.length ≤ 1000000 ∧ ∀ e ∈ x.es, e.e.bs.length ≤ 1000000) (hy : (lineA m.ls z).getD lnA0 = y) (e : x.x = y.x) : x.es.length ≤ 1000000 ∧ ∀ e ∈ x.es, e.e.bs.length ≤ 1000000 := by
 have h1 : y.es.length ≤ 1000000 ∧ ∀ e ∈ y.es, e.e.bs.length ≤ 1000000 := by
  rw [← hy]
  cases p : lineA m.ls z with
  | none => exact ⟨Nat.zero_le _, fun e he => by cases he⟩
  | some a => exact h a (List.mem_of_find?_eq_some p)
 have h2 : x.es.map (·.e) = y.es.map (·.e) := congrArg Ln.es e
 refine ⟨by have := congrArg List.length h2; rw [List.length_map, List.length_map] at this; omega, fun a ha => ?_⟩
 have h3 : a.e ∈ y.es.map (·.e) := by rw [← h2]; exact List.mem_map_of_mem ha
 obtain ⟨b, hb, hb2⟩ := List.mem_map.1 h3
 rw [← hb2]
 exact h1.2 b hb
theorem find_bound {m : MnA} {z : List Int} {no : Int} {v u : EnA} (h : ∀ x ∈ m.ls, x.es.length ≤ 1000000 ∧ ∀ e ∈ x.es, e.e.bs.length ≤ 1000000) (hv : (findA m.ls z no).getD enA0 = v) (e : u.e = v.e) : u.e.bs.length ≤ 1000000 := by
 rw [e, ← hv]
 cases p : findA m.ls z no with
 | none => exact Nat.zero_le _
 | some a => exact (line_bound (z := z) h rfl rfl).2 a (List.mem_of_find?_eq_some p)
theorem findA_ok {w : World} {m : MnA} (h : m.Ok w) (z : List Int) (no : Int) : ((findA m.ls z no).getD enA0).Ok w := by
 have hx : ((lineA m.ls z).getD lnA0).Ok w := lineA_ok h.2.2
 cases p : findA m.ls z no with
 | none => exact enA0_ok w
 | some a => exact hx.2.2.2.2.2.2.2.2 a (List.mem_of_find?_eq_some p)
theorem mlike_id {m : MnA} {w : World} (h : m.Ok w) (d : List Int) (n : Int) : (((mlike m.m d n).map (·.1)).getD z16m).length = 16 ∧ AllBytes (((mlike m.m d n).map (·.1)).getD z16m) := by
 cases hl : mlike m.m d n with
 | none => exact ⟨rfl, by show AllBytes z16m; unfold AllBytes z16m; decide⟩
 | some p =>
  obtain ⟨z, no⟩ := p
  obtain ⟨x, hx, e, _, h2, _⟩ := llike_some hl
  obtain ⟨y, hy, rfl⟩ := List.mem_map.1 hx
  show z.length = 16 ∧ AllBytes z
  rw [← h2]
  exact ⟨(h.2.2.2.2.2.2 y hy).1, (h.2.2.2.2.2.2 y hy).2.1⟩
set_option maxHeartbeats 16000000 in
theorem mfinds_no (m : MnA) (z : List Int) (no : Int) (d : List Int) (n : Int) (w : World) (hlaid : Laid w) (wm : m.Ok w) (wz : z.length = 16 ∧ AllBytes z) (wd : d.length = 32 ∧ AllBytes d) (wn : (Lit.int .i64 n).wf = true) (p : mfew m.m = false) :
  Calls Tryz.prog 4 #[.agg m.cs.toArray, .agg (bvals z), .int .i64 no, .agg (bvals d), .int .i64 n] w fun e w' => e = .returned (.bool true) ∧ Below w.heap.size w w' := by
 have HLA := Lib.hid (fun (X : World) (hX : Below w.heap.size w X) => hlaid.below hX (Nat.le_refl _))
 have Fm := Lib.hid wm
 have LM := Lib.hid (MnA.len wm)
 have LZ := Lib.hid wz.1
 have LD := Lib.hid wd.1
 have Fy := Lib.hid (lineA_ok (z := z) wm.2.2)
 have Fv := Lib.hid (findA_ok wm z no)
 generalize hy9 : (lineA m.ls z).getD lnA0 = y9 at Fy
 generalize hv9 : (findA m.ls z no).getD enA0 = v9 at Fv
 have LY := Lib.hid (LnA.len Fy.out)
 have LV := Lib.hid (EnA.len Fv.out)
 have PM := Lib.hid p
 clear hlaid wm wz wd wn p
 have B1 := Lib.hid (Below.refl w.heap.size w)
 have T2n := RowAt.new w m.cs.toArray 29
 have T2 := Lib.hid T2n
 clear T2n
 have B3 := Lib.hid (B1.out.alloc B1.out.size (.cells m.cs.toArray 29))
 have T4 := Lib.hid (T2.out.old (.cells (bvals z) 38))
 have T5n := RowAt.new (w.alloc (.cells m.cs.toArray 29)) (bvals z) 38
 simp only [World.size_alloc] at T5n
 have T5 := Lib.hid T5n
 clear T5n
 have B6 := Lib.hid (B3.out.alloc B3.out.size (.cells (bvals z) 38))
 have T7 := Lib.hid (T4.out.old (.cells (bvals d) 26))
 have T8 := Lib.hid (T5.out.old (.cells (bvals d) 26))
 have T9n := RowAt.new ((w.alloc (.cells m.cs.toArray 29)).alloc (.cells (bvals z) 38)) (bvals d) 26
 simp only [World.size_alloc] at T9n
 have T9 := Lib.hid T9n
 clear T9n
 have B10 := Lib.hid (B6.out.alloc B6.out.size (.cells (bvals d) 26))
 have F11 := Lib.hid (Fm.out.below B10.out (Nat.le_refl _))
 have F12 := Lib.hid (Fy.out.below B10.out (Nat.le_refl _))
 have F13 := Lib.hid (Fv.out.below B10.out (Nat.le_refl _))
 go_enter Tryz.func4, Tryz.ntmps4
 have C14 := Lib.hid (mnAwake (((w.alloc (.cells m.cs.toArray 29)).alloc (.cells (bvals z) 38)).alloc (.cells (bvals d) 26)) (HLA.out _ B10.out))
 go_wp2_with fail
 refine C14.out.mono ?_
 rintro e w15 ⟨rfl, hb16⟩
 have T17 := Lib.hid (T7.out.below hb16 T7.out.lt)
 have T18 := Lib.hid (T8.out.below hb16 T8.out.lt)
 have T19 := Lib.hid (T9.out.below hb16 T9.out.lt)
 have F20 := Lib.hid (F11.out.below hb16 (Nat.le_refl _))
 have F21 := Lib.hid (F12.out.below hb16 (Nat.le_refl _))
 have F22 := Lib.hid (F13.out.below hb16 (Nat.le_refl _))
 have B23 := Lib.hid (B10.out.trans (hb16.mono B10.out.size))
 clear hb16
 have M24 := Lib.hid (T17.out.mn LM.out)
 have C25 := Lib.hid (rfew12_any m w15 F20.out)
 rw [PM.out] at C25
 go_wp2_with (first | ((with_reducible refine wpList_load_at (o := ⟨some 30, .load 29 (.tmp 5), _, _, _, _⟩) ?e1 29 (.tmp 5) ?e2 ⟨w.heap.size, 0, none⟩ ?e3 _ M24.out ?_); (case e1 => rfl); (case e2 => rfl); (case e3 => rfl)))
 refine C25.out.mono ?_
 rintro e w26 ⟨rfl, hb27⟩
 have T28 := Lib.hid (T17.out.below hb27 T17.out.lt)
 have T29 := Lib.hid (T18.out.below hb27 T18.out.lt)
 have T30 := Lib.hid (T19.out.below hb27 T19.out.lt)
 have F31 := Lib.hid (F20.out.below hb27 (Nat.le_refl _))
 have F32 := Lib.hid (F21.out.below hb27 (Nat.le_refl _))
 have F33 := Lib.hid (F22.out.below hb27 (Nat.le_refl _))
 have B34 := Lib.hid (B23.out.trans (hb27.mono B23.out.size))
 clear hb27
 go_wp2
 go_ret
 exact ⟨rfl, B34.out⟩
set_option maxHeartbeats 16000000 in
theorem mfinds_yes (m : MnA) (z : List Int) (no : Int) (d : List Int) (n : Int) (w : World) (hlaid : Laid w) (wm : m.Ok w) (wz : z.length = 16 ∧ AllBytes z) (wd : d.length = 32 ∧ AllBytes d) (wn : (Lit.int .i64 n).wf = true) (p : mfew m.m = true) :
  Calls Tryz.prog 4 #[.agg m.cs.toArray, .agg (bvals z), .int .i64 no, .agg (bvals d), .int .i64 n] w fun e w' => e = .returned (.bool true) ∧ Below w.heap.size w w' := by
 have HLA := Lib.hid (fun (X : World) (hX : Below w.heap.size w X) => hlaid.below hX (Nat.le_refl _))
 have Fm := Lib.hid wm
 have LM := Lib.hid (MnA.len wm)
 have LZ := Lib.hid wz.1
 have LD := Lib.hid wd.1
 have Fy := Lib.hid (lineA_ok (z := z) wm.2.2)
 have Fv := Lib.hid (findA_ok wm z no)
 generalize hy9 : (lineA m.ls z).getD lnA0 = y9 at Fy
 generalize hv9 : (findA m.ls z no).getD enA0 = v9 at Fv
 have LY := Lib.hid (LnA.len Fy.out)
 have LV := Lib.hid (EnA.len Fv.out)
 have PM := Lib.hid p
 have QM := Lib.hid (mfew_bound p)
 have HZ := Lib.hid wz
 have HD := Lib.hid wd
 have HN := Lib.hid wn
 have LA := Lib.hid hy9
 have FA := Lib.hid hv9
 have HYB := Lib.hid (fun (x : LnA) (e : x.x = y9.x) => line_bound (mfew_bound p).1 hy9 e)
 have HVB := Lib.hid (fun (u : EnA) (e : u.e = v9.e) => find_bound (mfew_bound p).1 hv9 e)
 obtain ⟨bl, hbl⟩ : ∃ b, (lineA m.ls z).isSome = b := ⟨_, rfl⟩
 obtain ⟨bf, hbf⟩ : ∃ b, (findA m.ls z no).isSome = b := ⟨_, rfl⟩
 have LB := Lib.hid hbl
 have FB := Lib.hid hbf
 obtain ⟨q9, hq9, hq16, hqb⟩ : ∃ q, ((mlike m.m d n).map (·.1)).getD z16m = q ∧ q.length = 16 ∧ AllBytes q := ⟨_, rfl, (mlike_id wm d n).1, (mlike_id wm d n).2⟩
 obtain ⟨n9, hn9⟩ : ∃ b, ((mlike m.m d n).map (·.2)).getD 0 = b := ⟨_, rfl⟩
 obtain ⟨bq, hbq⟩ : ∃ b, (mlike m.m d n).isSome = b := ⟨_, rfl⟩
 have QA := Lib.hid hq9
 have QN := Lib.hid hn9
 have QB := Lib.hid hbq
 have HQ16 := Lib.hid hq16
 have HQB := Lib.hid hqb
 have hzl := zeroLn
 rw [show KLn.v lnA0 = .agg (KLn.cs lnA0).toArray from rfl] at hzl
 have hze := zeroEn
 rw [show KEn.v enA0 = .agg (KEn.cs enA0).toArray from rfl] at hze
 have hzi := zeroIdM
 have hzne : ¬ (KEn.cs enA0).toArray = #[] := by decide
 have hzne2 : ¬ (KLn.cs lnA0).toArray = #[] := by decide
 have hzne3 : ¬ (bvals z16m) = #[] := by decide
 clear hlaid wm wz wd wn p hy9 hv9 hbl hbf hq9 hn9 hbq hq16 hqb
 have B1 := Lib.hid (Below.refl w.heap.size w)
 have T2n := RowAt.new w m.cs.toArray 29
 have T2 := Lib.hid T2n
 clear T2n
 have B3 := Lib.hid (B1.out.alloc B1.out.size (.cells m.cs.toArray 29))
 have T4 := Lib.hid (T2.out.old (.cells (bvals z) 38))
 have T5n := RowAt.new (w.alloc (.cells m.cs.toArray 29)) (bvals z) 38
 simp only [World.size_alloc] at T5n
 have T5 := Lib.hid T5n
 clear T5n
 have B6 := Lib.hid (B3.out.alloc B3.out.size (.cells (bvals z) 38))
 have T7 := Lib.hid (T4.out.old (.cells (bvals d) 26))
 have T8 := Lib.hid (T5.out.old (.cells (bvals d) 26))
 have T9n := RowAt.new ((w.alloc (.cells m.cs.toArray 29)).alloc (.cells (bvals z) 38)) (bvals d) 26
 simp only [World.size_alloc] at T9n
 have T9 := Lib.hid T9n
 clear T9n
 have B10 := Lib.hid (B6.out.alloc B6.out.size (.cells (bvals d) 26))
 have F11 := Lib.hid (Fm.out.below B10.out (Nat.le_refl _))
 have F12 := Lib.hid (Fy.out.below B10.out (Nat.le_refl _))
 have F13 := Lib.hid (Fv.out.below B10.out (Nat.le_refl _))
 go_enter Tryz.func4, Tryz.ntmps4
 have C14 := Lib.hid (mnAwake (((w.alloc (.cells m.cs.toArray 29)).alloc (.cells (bvals z) 38)).alloc (.cells (bvals d) 26)) (HLA.out _ B10.out))
 go_wp2_with fail
 refine C14.out.mono ?_
 rintro e w15 ⟨rfl, hb16⟩
 have T17 := Lib.hid (T7.out.below hb16 T7.out.lt)
 have T18 := Lib.hid (T8.out.below hb16 T8.out.lt)
 have T19 := Lib.hid (T9.out.below hb16 T9.out.lt)
 have F20 := Lib.hid (F11.out.below hb16 (Nat.le_refl _))
 have F21 := Lib.hid (F12.out.below hb16 (Nat.le_refl _))
 have F22 := Lib.hid (F13.out.below hb16 (Nat.le_refl _))
 have B23 := Lib.hid (B10.out.trans (hb16.mono B10.out.size))
 clear hb16
 have M24 := Lib.hid (T17.out.mn LM.out)
 have C25 := Lib.hid (rfew12_any m w15 F20.out)
 rw [PM.out] at C25
 go_wp2_with (first | ((with_reducible refine wpList_load_at (o := ⟨some 30, .load 29 (.tmp 5), _, _, _, _⟩) ?e1 29 (.tmp 5) ?e2 ⟨w.heap.size, 0, none⟩ ?e3 _ M24.out ?_); (case e1 => rfl); (case e2 => rfl); (case e3 => rfl)))
 refine C25.out.mono ?_
 rintro e w26 ⟨rfl, hb27⟩
 have T28 := Lib.hid (T17.out.below hb27 T17.out.lt)
 have T29 := Lib.hid (T18.out.below hb27 T18.out.lt)
 have T30 := Lib.hid (T19.out.below hb27 T19.out.lt)
 have F31 := Lib.hid (F20.out.below hb27 (Nat.le_refl _))
 have F32 := Lib.hid (F21.out.below hb27 (Nat.le_refl _))
 have F33 := Lib.hid (F22.out.below hb27 (Nat.le_refl _))
 have B34 := Lib.hid (B23.out.trans (hb27.mono B23.out.size))
 clear hb27
 have M38 := Lib.hid (T28.out.mn LM.out)
 have M39 := Lib.hid (T29.out.id LZ.out)
 have C40 := Lib.hid ((show Calls Tryz.prog 18 #[.agg m.cs.toArray, .agg (bvals z)] w26 (LineN w26 (lineA m.ls z)) from pline12_any m z w26 F31.out HZ.out QM.out.1))
 unfold LineN at C40
 rw [LA.out] at C40
 rw [LB.out] at C40
 go_wp2_with (first | ((with_reducible refine wpList_load_at (o := ⟨some 40, .load 29 (.tmp 5), _, _, _, _⟩) ?e1 29 (.tmp 5) ?e2 ⟨w.heap.size, 0, none⟩ ?e3 _ M38.out ?_); (case e1 => rfl); (case e2 => rfl); (case e3 => rfl)) | ((with_reducible refine wpList_load_at (o := ⟨some 41, .load 38 (.tmp 6), _, _, _, _⟩) ?e1 38 (.tmp 6) ?e2 ⟨(w.heap.size + 1), 0, none⟩ ?e3 _ M39.out ?_); (case e1 => rfl); (case e2 => rfl); (case e3 => rfl)))
 refine C40.out.mono ?_
 rintro e w41 ⟨d35, rfl, hd36, hk37, hb42⟩
 have T43 := Lib.hid (T28.out.below hb42 T28.out.lt)
 have T44 := Lib.hid (T29.out.below hb42 T29.out.lt)
 have T45 := Lib.hid (T30.out.below hb42 T30.out.lt)
 have F46 := Lib.hid (F31.out.below hb42 (Nat.le_refl _))
 have F47 := Lib.hid (F32.out.below hb42 (Nat.le_refl _))
 have F48 := Lib.hid (F33.out.below hb42 (Nat.le_refl _))
 have B49 := Lib.hid (B34.out.trans (hb42.mono B34.out.size))
 clear hb42
 have E50 := Lib.hid (hd36)
 have F51 := Lib.hid (hk37)
 clear hd36 hk37
 have SZ51 := Lib.hid (ln_size F51.out)
 have SQ51 := Lib.hid (show (KLn.cs lnA0).toArray.size = (KLn.cs d35).toArray.size by rw [lnA0_size, List.size_toArray]; exact (LnA.len F51.out).symm)
 have SO51 := Lib.hid (ln_ones d35)
 have L53 := Lib.hid (LnA.len F51.out)
 have hb54 := (Below.refl w41.heap.size w41).alloc (Nat.le_refl _) (.cells (KLn.cs d35).toArray 43)
 have T55 := Lib.hid (RowAt.new w41 (KLn.cs d35).toArray 43)
 have T56 := Lib.hid (T43.out.below hb54 T43.out.lt)
 have T57 := Lib.hid (T44.out.below hb54 T44.out.lt)
 have T58 := Lib.hid (T45.out.below hb54 T45.out.lt)
 have F59 := Lib.hid (F46.out.below hb54 (Nat.le_refl _))
 have F60 := Lib.hid (F47.out.below hb54 (Nat.le_refl _))
 have F61 := Lib.hid (F48.out.below hb54 (Nat.le_refl _))
 have F62 := Lib.hid (F51.out.below hb54 (Nat.le_refl _))
 have B63 := Lib.hid (B49.out.trans (hb54.mono B49.out.size))
 clear hb54
 have M64 := Lib.hid (T56.out.mn LM.out)
 have M65 := Lib.hid (T57.out.id LZ.out)
 have C66 := Lib.hid ((show Calls Tryz.prog 19 #[.agg m.cs.toArray, .agg (bvals z)] (w41.alloc (.cells (KLn.cs d35).toArray 43)) (fun e w' => e = .returned (.tuple #[.agg (KLn.cs y9).toArray, .bool bl]) ∧ Below ((w41.alloc (.cells (KLn.cs d35).toArray 43))).heap.size (w41.alloc (.cells (KLn.cs d35).toArray 43)) w') from by have h := rline12_any m z (w41.alloc (.cells (KLn.cs d35).toArray 43)) F59.out HZ.out; unfold LinePost at h; rw [LA.out, LB.out] at h; exact h))
 go_wp2_with (first | ((with_reducible refine wpList_load_at (o := ⟨some 46, .load 29 (.tmp 5), _, _, _, _⟩) ?e1 29 (.tmp 5) ?e2 ⟨w.heap.size, 0, none⟩ ?e3 _ M64.out ?_); (case e1 => rfl); (case e2 => rfl); (case e3 => rfl)) | ((with_reducible refine wpList_load_at (o := ⟨some 47, .load 38 (.tmp 6), _, _, _, _⟩) ?e1 38 (.tmp 6) ?e2 ⟨(w.heap.size + 1), 0, none⟩ ?e3 _ M65.out ?_); (case e1 => rfl); (case e2 => rfl); (case e3 => rfl)) | ((with_reducible refine wpList_store_new (o := ⟨none, .store 43 (.tmp 13) (.tmp 43), _, _, _, _⟩) ?e1 43 (.tmp 13) (.tmp 43) ?e2 ?e3 (KLn.cs lnA0).toArray (KLn.cs d35).toArray ?e4 SZ51.out SQ51.out SO51.out ?_); (case e1 => rfl); (case e2 => rfl); (case e3 => (first | rfl | exact congrArg (fun q => Value.pointer (some ⟨q, 0, none⟩)) (World.size_alloc _ _).symm)); (case e4 => rfl)))
 refine C66.out.mono ?_
 rintro e w67 ⟨rfl, hb68⟩
 have T69 := Lib.hid (T56.out.below hb68 T56.out.lt)
 have T70 := Lib.hid (T57.out.below hb68 T57.out.lt)
 have T71 := Lib.hid (T58.out.below hb68 T58.out.lt)
 have T72 := Lib.hid (T55.out.below hb68 T55.out.lt)
 have F73 := Lib.hid (F59.out.below hb68 (Nat.le_refl _))
 have F74 := Lib.hid (F60.out.below hb68 (Nat.le_refl _))
 have F75 := Lib.hid (F61.out.below hb68 (Nat.le_refl _))
 have F76 := Lib.hid (F62.out.below hb68 (Nat.le_refl _))
 have B77 := Lib.hid (B63.out.trans (hb68.mono B63.out.size))
 clear hb68
 have SZ77 := Lib.hid (ln_size F74.out)
 have SQ77 := Lib.hid (show (KLn.cs lnA0).toArray.size = (KLn.cs y9).toArray.size by rw [lnA0_size, List.size_toArray]; exact (LnA.len F74.out).symm)
 have SO77 := Lib.hid (ln_ones y9)
 have L79 := Lib.hid (LnA.len F74.out)
 have hb80 := (Below.refl w67.heap.size w67).alloc (Nat.le_refl _) (.cells (KLn.cs y9).toArray 43)
 have T81 := Lib.hid (RowAt.new w67 (KLn.cs y9).toArray 43)
 have T82 := Lib.hid (T69.out.below hb80 T69.out.lt)
 have T83 := Lib.hid (T70.out.below hb80 T70.out.lt)
 have T84 := Lib.hid (T71.out.below hb80 T71.out.lt)
 have T85 := Lib.hid (T72.out.below hb80 T72.out.lt)
 have F86 := Lib.hid (F73.out.below hb80 (Nat.le_refl _))
 have F87 := Lib.hid (F74.out.below hb80 (Nat.le_refl _))
 have F88 := Lib.hid (F75.out.below hb80 (Nat.le_refl _))
 have F89 := Lib.hid (F76.out.below hb80 (Nat.le_refl _))
 have B90 := Lib.hid (B77.out.trans (hb80.mono B77.out.size))
 clear hb80
 have M94 := Lib.hid (T82.out.mn LM.out)
 have M95 := Lib.hid (T83.out.id LZ.out)
 have C96 := Lib.hid ((show Calls Tryz.prog 20 #[.agg m.cs.toArray, .agg (bvals z), .int .i64 no] (w67.alloc (.cells (KLn.cs y9).toArray 43)) (FindN (w67.alloc (.cells (KLn.cs y9).toArray 43)) (findA m.ls z no)) from pfind12_any m z no (w67.alloc (.cells (KLn.cs y9).toArray 43)) F86.out HZ.out QM.out.1))
 unfold FindN at C96
 rw [FA.out] at C96
 rw [FB.out] at C96
 go_wp2_with (first | ((with_reducible refine wpList_load_at (o := ⟨some 52, .load 29 (.tmp 5), _, _, _, _⟩) ?e1 29 (.tmp 5) ?e2 ⟨w.heap.size, 0, none⟩ ?e3 _ M94.out ?_); (case e1 => rfl); (case e2 => rfl); (case e3 => rfl)) | ((with_reducible refine wpList_load_at (o := ⟨some 53, .load 38 (.tmp 6), _, _, _, _⟩) ?e1 38 (.tmp 6) ?e2 ⟨(w.heap.size + 1), 0, none⟩ ?e3 _ M95.out ?_); (case e1 => rfl); (case e2 => rfl); (case e3 => rfl)) | ((with_reducible refine wpList_store_new (o := ⟨none, .store 43 (.tmp 15) (.tmp 49), _, _, _, _⟩) ?e1 43 (.tmp 15) (.tmp 49) ?e2 ?e3 (KLn.cs lnA0).toArray (KLn.cs y9).toArray ?e4 SZ77.out SQ77.out SO77.out ?_); (case e1 => rfl); (case e2 => rfl); (case e3 => (first | rfl | exact congrArg (fun q => Value.pointer (some ⟨q, 0, none⟩)) (World.size_alloc _ _).symm)); (case e4 => rfl)))
 refine C96.out.mono ?_
 rintro e w97 ⟨d91, rfl, hd92, hk93, hb98⟩
 have T99 := Lib.hid (T82.out.below hb98 T82.out.lt)
 have T100 := Lib.hid (T83.out.below hb98 T83.out.lt)
 have T101 := Lib.hid (T84.out.below hb98 T84.out.lt)
 have T102 := Lib.hid (T85.out.below hb98 T85.out.lt)
 have T103 := Lib.hid (T81.out.below hb98 T81.out.lt)
 have F104 := Lib.hid (F86.out.below hb98 (Nat.le_refl _))
 have F105 := Lib.hid (F87.out.below hb98 (Nat.le_refl _))
 have F106 := Lib.hid (F88.out.below hb98 (Nat.le_refl _))
 have F107 := Lib.hid (F89.out.below hb98 (Nat.le_refl _))
 have B108 := Lib.hid (B90.out.trans (hb98.mono B90.out.size))
 clear hb98
 have E109 := Lib.hid (hd92)
 have F110 := Lib.hid (hk93)
 clear hd92 hk93
 have SZ110 := Lib.hid (en_size F110.out)
 have SQ110 := Lib.hid (show (KEn.cs enA0).toArray.size = (KEn.cs d91).toArray.size by rw [enA0_size, List.size_toArray]; exact (EnA.len F110.out).symm)
 have SO110 := Lib.hid (en_ones d91)
 have L112 := Lib.hid (EnA.len F110.out)
 have hb113 := (Below.refl w97.heap.size w97).alloc (Nat.le_refl _) (.cells (KEn.cs d91).toArray 48)
 have T114 := Lib.hid (RowAt.new w97 (KEn.cs d91).toArray 48)
 have T115 := Lib.hid (T99.out.below hb113 T99.out.lt)
 have T116 := Lib.hid (T100.out.below hb113 T100.out.lt)
 have T117 := Lib.hid (T101.out.below hb113 T101.out.lt)
 have T118 := Lib.hid (T102.out.below hb113 T102.out.lt)
 have T119 := Lib.hid (T103.out.below hb113 T103.out.lt)
 have F120 := Lib.hid (F104.out.below hb113 (Nat.le_refl _))
 have F121 := Lib.hid (F105.out.below hb113 (Nat.le_refl _))
 have F122 := Lib.hid (F106.out.below hb113 (Nat.le_refl _))
 have F123 := Lib.hid (F107.out.below hb113 (Nat.le_refl _))
 have F124 := Lib.hid (F110.out.below hb113 (Nat.le_refl _))
 have B125 := Lib.hid (B108.out.trans (hb113.mono B108.out.size))
 clear hb113
 have M126 := Lib.hid (T115.out.mn LM.out)
 have M127 := Lib.hid (T116.out.id LZ.out)
 have C128 := Lib.hid ((show Calls Tryz.prog 21 #[.agg m.cs.toArray, .agg (bvals z), .int .i64 no] (w97.alloc (.cells (KEn.cs d91).toArray 48)) (fun e w' => e = .returned (.tuple #[.agg (KEn.cs v9).toArray, .bool bf]) ∧ Below ((w97.alloc (.cells (KEn.cs d91).toArray 48))).heap.size (w97.alloc (.cells (KEn.cs d91).toArray 48)) w') from by have h := rfind12_any m z no (w97.alloc (.cells (KEn.cs d91).toArray 48)) F120.out HZ.out; unfold MFindPost at h; rw [FA.out, FB.out] at h; exact h))
 go_wp2_with (first | ((with_reducible refine wpList_load_at (o := ⟨some 59, .load 29 (.tmp 5), _, _, _, _⟩) ?e1 29 (.tmp 5) ?e2 ⟨w.heap.size, 0, none⟩ ?e3 _ M126.out ?_); (case e1 => rfl); (case e2 => rfl); (case e3 => rfl)) | ((with_reducible refine wpList_load_at (o := ⟨some 60, .load 38 (.tmp 6), _, _, _, _⟩) ?e1 38 (.tmp 6) ?e2 ⟨(w.heap.size + 1), 0, none⟩ ?e3 _ M127.out ?_); (case e1 => rfl); (case e2 => rfl); (case e3 => rfl)) | ((with_reducible refine wpList_store_new (o := ⟨none, .store 48 (.tmp 17) (.tmp 56), _, _, _, _⟩) ?e1 48 (.tmp 17) (.tmp 56) ?e2 ?e3 (KEn.cs enA0).toArray (KEn.cs d91).toArray ?e4 SZ110.out SQ110.out SO110.out ?_); (case e1 => rfl); (case e2 => rfl); (case e3 => (first | rfl | exact congrArg (fun q => Value.pointer (some ⟨q, 0, none⟩)) (World.size_alloc _ _).symm)); (case e4 => rfl)))
 refine C128.out.mono ?_
 rintro e w129 ⟨rfl, hb130⟩
 have T131 := Lib.hid (T115.out.below hb130 T115.out.lt)
 have T132 := Lib.hid (T116.out.below hb130 T116.out.lt)
 have T133 := Lib.hid (T117.out.below hb130 T117.out.lt)
 have T134 := Lib.hid (T118.out.below hb130 T118.out.lt)
 have T135 := Lib.hid (T119.out.below hb130 T119.out.lt)
 have T136 := Lib.hid (T114.out.below hb130 T114.out.lt)
 have F137 := Lib.hid (F120.out.below hb130 (Nat.le_refl _))
 have F138 := Lib.hid (F121.out.below hb130 (Nat.le_refl _))
 have F139 := Lib.hid (F122.out.below hb130 (Nat.le_refl _))
 have F140 := Lib.hid (F123.out.below hb130 (Nat.le_refl _))
 have F141 := Lib.hid (F124.out.below hb130 (Nat.le_refl _))
 have B142 := Lib.hid (B125.out.trans (hb130.mono B125.out.size))
 clear hb130
 have SZ142 := Lib.hid (en_size F139.out)
 have SQ142 := Lib.hid (show (KEn.cs enA0).toArray.size = (KEn.cs v9).toArray.size by rw [enA0_size, List.size_toArray]; exact (EnA.len F139.out).symm)
 have SO142 := Lib.hid (en_ones v9)
 have L144 := Lib.hid (EnA.len F139.out)
 have hb145 := (Below.refl w129.heap.size w129).alloc (Nat.le_refl _) (.cells (KEn.cs v9).toArray 48)
 have T146 := Lib.hid (RowAt.new w129 (KEn.cs v9).toArray 48)
 have T147 := Lib.hid (T131.out.below hb145 T131.out.lt)
 have T148 := Lib.hid (T132.out.below hb145 T132.out.lt)
 have T149 := Lib.hid (T133.out.below hb145 T133.out.lt)
 have T150 := Lib.hid (T134.out.below hb145 T134.out.lt)
 have T151 := Lib.hid (T135.out.below hb145 T135.out.lt)
 have T152 := Lib.hid (T136.out.below hb145 T136.out.lt)
 have F153 := Lib.hid (F137.out.below hb145 (Nat.le_refl _))
 have F154 := Lib.hid (F138.out.below hb145 (Nat.le_refl _))
 have F155 := Lib.hid (F139.out.below hb145 (Nat.le_refl _))
 have F156 := Lib.hid (F140.out.below hb145 (Nat.le_refl _))
 have F157 := Lib.hid (F141.out.below hb145 (Nat.le_refl _))
 have B158 := Lib.hid (B142.out.trans (hb145.mono B142.out.size))
 clear hb145
 have M159 := Lib.hid (T147.out.mn LM.out)
 have M160 := Lib.hid (T149.out.dg LD.out)
 have C161 := Lib.hid ((show Calls Tryz.prog 22 #[.agg m.cs.toArray, .agg (bvals d), .int .i64 n] (w129.alloc (.cells (KEn.cs v9).toArray 48)) (fun e w' => e = .returned (.tuple #[.agg (bvals q9), .int .i64 n9, .bool bq]) ∧ Below ((w129.alloc (.cells (KEn.cs v9).toArray 48))).heap.size (w129.alloc (.cells (KEn.cs v9).toArray 48)) w') from by have h := plike12_any m d n (w129.alloc (.cells (KEn.cs v9).toArray 48)) F153.out HD.out HN.out QM.out.2.2.1; unfold LikePost at h; rw [QA.out, QN.out, QB.out] at h; exact h))
 go_wp2_with (first | ((with_reducible refine wpList_load_at (o := ⟨some 66, .load 29 (.tmp 5), _, _, _, _⟩) ?e1 29 (.tmp 5) ?e2 ⟨w.heap.size, 0, none⟩ ?e3 _ M159.out ?_); (case e1 => rfl); (case e2 => rfl); (case e3 => rfl)) | ((with_reducible refine wpList_load_at (o := ⟨some 67, .load 26 (.tmp 8), _, _, _, _⟩) ?e1 26 (.tmp 8) ?e2 ⟨(w.heap.size + 1 + 1), 0, none⟩ ?e3 _ M160.out ?_); (case e1 => rfl); (case e2 => rfl); (case e3 => rfl)) | ((with_reducible refine wpList_store_new (o := ⟨none, .store 48 (.tmp 19) (.tmp 63), _, _, _, _⟩) ?e1 48 (.tmp 19) (.tmp 63) ?e2 ?e3 (KEn.cs enA0).toArray (KEn.cs v9).toArray ?e4 SZ142.out SQ142.out SO142.out ?_); (case e1 => rfl); (case e2 => rfl); (case e3 => (first | rfl | exact congrArg (fun q => Value.pointer (some ⟨q, 0, none⟩)) (World.size_alloc _ _).symm)); (case e4 => rfl)))
 refine C161.out.mono ?_
 rintro e w162 ⟨rfl, hb163⟩
 have T164 := Lib.hid (T147.out.below hb163 T147.out.lt)
 have T165 := Lib.hid (T148.out.below hb163 T148.out.lt)
 have T166 := Lib.hid (T149.out.below hb163 T149.out.lt)
 have T167 := Lib.hid (T150.out.below hb163 T150.out.lt)
 have T168 := Lib.hid (T151.out.below hb163 T151.out.lt)
 have T169 := Lib.hid (T152.out.below hb163 T152.out.lt)
 have T170 := Lib.hid (T146.out.below hb163 T146.out.lt)
 have F171 := Lib.hid (F153.out.below hb163 (Nat.le_refl _))
 have F172 := Lib.hid (F154.out.below hb163 (Nat.le_refl _))
 have F173 := Lib.hid (F155.out.below hb163 (Nat.le_refl _))
 have F174 := Lib.hid (F156.out.below hb163 (Nat.le_refl _))
 have F175 := Lib.hid (F157.out.below hb163 (Nat.le_refl _))
 have B176 := Lib.hid (B158.out.trans (hb163.mono B158.out.size))
 clear hb163
 have SZ176 := Lib.hid (idr_size HQ16.out)
 have SQ176 := Lib.hid (show (bvals z16m).size = (bvals q9).size by rw [idr0_size, idr_len HQ16.out])
 have SO176 := Lib.hid (idr_ones q9)
 have hb178 := (Below.refl w162.heap.size w162).alloc (Nat.le_refl _) (.cells (bvals q9) 38)
 have T179 := Lib.hid (RowAt.new w162 (bvals q9) 38)
 have T180 := Lib.hid (T164.out.below hb178 T164.out.lt)
 have T181 := Lib.hid (T165.out.below hb178 T165.out.lt)
 have T182 := Lib.hid (T166.out.below hb178 T166.out.lt)
 have T183 := Lib.hid (T167.out.below hb178 T167.out.lt)
 have T184 := Lib.hid (T168.out.below hb178 T168.out.lt)
 have T185 := Lib.hid (T169.out.below hb178 T169.out.lt)
 have T186 := Lib.hid (T170.out.below hb178 T170.out.lt)
 have F187 := Lib.hid (F171.out.below hb178 (Nat.le_refl _))
 have F188 := Lib.hid (F172.out.below hb178 (Nat.le_refl _))
 have F189 := Lib.hid (F173.out.below hb178 (Nat.le_refl _))
 have F190 := Lib.hid (F174.out.below hb178 (Nat.le_refl _))
 have F191 := Lib.hid (F175.out.below hb178 (Nat.le_refl _))
 have B192 := Lib.hid (B176.out.trans (hb178.mono B176.out.size))
 clear hb178
 have M193 := Lib.hid (T180.out.mn LM.out)
 have M194 := Lib.hid (T182.out.dg LD.out)
 have C195 := Lib.hid ((show Calls Tryz.prog 23 #[.agg m.cs.toArray, .agg (bvals d), .int .i64 n] (w162.alloc (.cells (bvals q9) 38)) (fun e w' => e = .returned (.tuple #[.agg (bvals q9), .int .i64 n9, .bool bq]) ∧ Below ((w162.alloc (.cells (bvals q9) 38))).heap.size (w162.alloc (.cells (bvals q9) 38)) w') from by have h := rlike12_any m d n (w162.alloc (.cells (bvals q9) 38)) F187.out HD.out; unfold LikePost at h; rw [QA.out, QN.out, QB.out] at h; exact h))
 go_wp2_with (first | ((with_reducible refine wpList_load_at (o := ⟨some 74, .load 29 (.tmp 5), _, _, _, _⟩) ?e1 29 (.tmp 5) ?e2 ⟨w.heap.size, 0, none⟩ ?e3 _ M193.out ?_); (case e1 => rfl); (case e2 => rfl); (case e3 => rfl)) | ((with_reducible refine wpList_load_at (o := ⟨some 75, .load 26 (.tmp 8), _, _, _, _⟩) ?e1 26 (.tmp 8) ?e2 ⟨(w.heap.size + 1 + 1), 0, none⟩ ?e3 _ M194.out ?_); (case e1 => rfl); (case e2 => rfl); (case e3 => rfl)) | ((with_reducible refine wpList_store_new (o := ⟨none, .store 38 (.tmp 21) (.tmp 70), _, _, _, _⟩) ?e1 38 (.tmp 21) (.tmp 70) ?e2 ?e3 (bvals z16m) (bvals q9) ?e4 SZ176.out SQ176.out SO176.out ?_); (case e1 => rfl); (case e2 => rfl); (case e3 => (first | rfl | exact congrArg (fun q => Value.pointer (some ⟨q, 0, none⟩)) (World.size_alloc _ _).symm)); (case e4 => rfl)))
 refine C195.out.mono ?_
 rintro e w196 ⟨rfl, hb197⟩
 have T198 := Lib.hid (T180.out.below hb197 T180.out.lt)
 have T199 := Lib.hid (T181.out.below hb197 T181.out.lt)
 have T200 := Lib.hid (T182.out.below hb197 T182.out.lt)
 have T201 := Lib.hid (T183.out.below hb197 T183.out.lt)
 have T202 := Lib.hid (T184.out.below hb197 T184.out.lt)
 have T203 := Lib.hid (T185.out.below hb197 T185.out.lt)
 have T204 := Lib.hid (T186.out.below hb197 T186.out.lt)
 have T205 := Lib.hid (T179.out.below hb197 T179.out.lt)
 have F206 := Lib.hid (F187.out.below hb197 (Nat.le_refl _))
 have F207 := Lib.hid (F188.out.below hb197 (Nat.le_refl _))
 have F208 := Lib.hid (F189.out.below hb197 (Nat.le_refl _))
 have F209 := Lib.hid (F190.out.below hb197 (Nat.le_refl _))
 have F210 := Lib.hid (F191.out.below hb197 (Nat.le_refl _))
 have B211 := Lib.hid (B192.out.trans (hb197.mono B192.out.size))
 clear hb197
 have SZ211 := Lib.hid (idr_size HQ16.out)
 have SQ211 := Lib.hid (show (bvals z16m).size = (bvals q9).size by rw [idr0_size, idr_len HQ16.out])
 have SO211 := Lib.hid (idr_ones q9)
 have hb213 := (Below.refl w196.heap.size w196).alloc (Nat.le_refl _) (.cells (bvals q9) 38)
 have T214 := Lib.hid (RowAt.new w196 (bvals q9) 38)
 have T215 := Lib.hid (T198.out.below hb213 T198.out.lt)
 have T216 := Lib.hid (T199.out.below hb213 T199.out.lt)
 have T217 := Lib.hid (T200.out.below hb213 T200.out.lt)
 have T218 := Lib.hid (T201.out.below hb213 T201.out.lt)
 have T219 := Lib.hid (T202.out.below hb213 T202.out.lt)
 have T220 := Lib.hid (T203.out.below hb213 T203.out.lt)
 have T221 := Lib.hid (T204.out.below hb213 T204.out.lt)
 have T222 := Lib.hid (T205.out.below hb213 T205.out.lt)
 have F223 := Lib.hid (F206.out.below hb213 (Nat.le_refl _))
 have F224 := Lib.hid (F207.out.below hb213 (Nat.le_refl _))
 have F225 := Lib.hid (F208.out.below hb213 (Nat.le_refl _))
 have F226 := Lib.hid (F209.out.below hb213 (Nat.le_refl _))
 have F227 := Lib.hid (F210.out.below hb213 (Nat.le_refl _))
 have B228 := Lib.hid (B211.out.trans (hb213.mono B211.out.size))
 clear hb213
 have M229 := Lib.hid (T218.out.ln L53.out)
 have M230 := Lib.hid (T219.out.ln L79.out)
 have C231 := Lib.hid ((show Calls Tryz.prog 24 #[.agg (KLn.cs d35).toArray, .agg (KLn.cs y9).toArray] (w196.alloc (.cells (bvals q9) 38)) fun e w' => e = .returned (.bool true) ∧ Below ((w196.alloc (.cells (bvals q9) 38))).heap.size (w196.alloc (.cells (bvals q9) 38)) w' from by have h := rlines_any d35 y9 (w196.alloc (.cells (bvals q9) 38)) F226.out F224.out (HYB.out d35 E50.out).2 (HYB.out d35 E50.out).1; rw [E50.out, decide_eq_true rfl] at h; exact h))
 go_wp2_with (first | ((with_reducible refine wpList_load_at (o := ⟨some 81, .load 43 (.tmp 13), _, _, _, _⟩) ?e1 43 (.tmp 13) ?e2 ⟨w41.heap.size, 0, none⟩ ?e3 _ M229.out ?_); (case e1 => rfl); (case e2 => rfl); (case e3 => rfl)) | ((with_reducible refine wpList_load_at (o := ⟨some 82, .load 43 (.tmp 15), _, _, _, _⟩) ?e1 43 (.tmp 15) ?e2 ⟨w67.heap.size, 0, none⟩ ?e3 _ M230.out ?_); (case e1 => rfl); (case e2 => rfl); (case e3 => rfl)) | ((with_reducible refine wpList_store_new (o := ⟨none, .store 38 (.tmp 24) (.tmp 78), _, _, _, _⟩) ?e1 38 (.tmp 24) (.tmp 78) ?e2 ?e3 (bvals z16m) (bvals q9) ?e4 SZ211.out SQ211.out SO211.out ?_); (case e1 => rfl); (case e2 => rfl); (case e3 => (first | rfl | exact congrArg (fun q => Value.pointer (some ⟨q, 0, none⟩)) (World.size_alloc _ _).symm)); (case e4 => rfl)))
 refine C231.out.mono ?_
 rintro e w232 ⟨rfl, hb233⟩
 have T234 := Lib.hid (T215.out.below hb233 T215.out.lt)
 have T235 := Lib.hid (T216.out.below hb233 T216.out.lt)
 have T236 := Lib.hid (T217.out.below hb233 T217.out.lt)
 have T237 := Lib.hid (T218.out.below hb233 T218.out.lt)
 have T238 := Lib.hid (T219.out.below hb233 T219.out.lt)
 have T239 := Lib.hid (T220.out.below hb233 T220.out.lt)
 have T240 := Lib.hid (T221.out.below hb233 T221.out.lt)
 have T241 := Lib.hid (T222.out.below hb233 T222.out.lt)
 have T242 := Lib.hid (T214.out.below hb233 T214.out.lt)
 have F243 := Lib.hid (F223.out.below hb233 (Nat.le_refl _))
 have F244 := Lib.hid (F224.out.below hb233 (Nat.le_refl _))
 have F245 := Lib.hid (F225.out.below hb233 (Nat.le_refl _))
 have F246 := Lib.hid (F226.out.below hb233 (Nat.le_refl _))
 have F247 := Lib.hid (F227.out.below hb233 (Nat.le_refl _))
 have B248 := Lib.hid (B228.out.trans (hb233.mono B228.out.size))
 clear hb233
 have M249 := Lib.hid (T239.out.en L112.out)
 have M250 := Lib.hid (T240.out.en L144.out)
 have C251 := Lib.hid ((show Calls Tryz.prog 25 #[.agg (KEn.cs d91).toArray, .agg (KEn.cs v9).toArray] w232 fun e w' => e = .returned (.bool true) ∧ Below (w232).heap.size w232 w' from by have h := rentries_any d91 v9 w232 F247.out F245.out (HVB.out d91 E109.out); rw [E109.out, decide_eq_true rfl] at h; exact h))
 go_wp2_with (first | ((with_reducible refine wpList_load_at (o := ⟨some 84, .load 48 (.tmp 17), _, _, _, _⟩) ?e1 48 (.tmp 17) ?e2 ⟨w97.heap.size, 0, none⟩ ?e3 _ M249.out ?_); (case e1 => rfl); (case e2 => rfl); (case e3 => rfl)) | ((with_reducible refine wpList_load_at (o := ⟨some 85, .load 48 (.tmp 19), _, _, _, _⟩) ?e1 48 (.tmp 19) ?e2 ⟨w129.heap.size, 0, none⟩ ?e3 _ M250.out ?_); (case e1 => rfl); (case e2 => rfl); (case e3 => rfl)))
 refine C251.out.mono ?_
 rintro e w252 ⟨rfl, hb253⟩
 have T254 := Lib.hid (T234.out.below hb253 T234.out.lt)
 have T255 := Lib.hid (T235.out.below hb253 T235.out.lt)
 have T256 := Lib.hid (T236.out.below hb253 T236.out.lt)
 have T257 := Lib.hid (T237.out.below hb253 T237.out.lt)
 have T258 := Lib.hid (T238.out.below hb253 T238.out.lt)
 have T259 := Lib.hid (T239.out.below hb253 T239.out.lt)
 have T260 := Lib.hid (T240.out.below hb253 T240.out.lt)
 have T261 := Lib.hid (T241.out.below hb253 T241.out.lt)
 have T262 := Lib.hid (T242.out.below hb253 T242.out.lt)
 have F263 := Lib.hid (F243.out.below hb253 (Nat.le_refl _))
 have F264 := Lib.hid (F244.out.below hb253 (Nat.le_refl _))
 have F265 := Lib.hid (F245.out.below hb253 (Nat.le_refl _))
 have F266 := Lib.hid (F246.out.below hb253 (Nat.le_refl _))
 have F267 := Lib.hid (F247.out.below hb253 (Nat.le_refl _))
 have B268 := Lib.hid (B248.out.trans (hb253.mono B248.out.size))
 clear hb253
 have M269 := Lib.hid (T261.out.id HQ16.out)
 have M270 := Lib.hid (T262.out.id HQ16.out)
 have EI := Lib.hid (show (Op.equalIn 10000 38 (.agg (bvals q9)) (.agg (bvals q9))).run Tryz.prog w252 = .ok true w252 from by have h := eq_id HQB.out HQB.out HQ16.out HQ16.out w252; rw [beq_self_eq_true] at h; exact h)
 go_wp2_with (first | ((with_reducible refine wpList_load_at (o := ⟨some 102, .load 38 (.tmp 21), _, _, _, _⟩) ?e1 38 (.tmp 21) ?e2 ⟨w162.heap.size, 0, none⟩ ?e3 _ M269.out ?_); (case e1 => rfl); (case e2 => rfl); (case e3 => rfl)) | ((with_reducible refine wpList_load_at (o := ⟨some 103, .load 38 (.tmp 24), _, _, _, _⟩) ?e1 38 (.tmp 24) ?e2 ⟨w196.heap.size, 0, none⟩ ?e3 _ M270.out ?_); (case e1 => rfl); (case e2 => rfl); (case e3 => rfl)) | ((with_reducible refine wpList_eqlM (o := ⟨some 104, .binOp .eql 38 (.tmp 102) (.tmp 103) 38, _, _, _, _⟩) ?e1 38 (.tmp 102) (.tmp 103) 38 ?e2 (xs := bvals q9) (ys := bvals q9) ?e3 ?e4 guardIdM EI.out ?_); (case e1 => rfl); (case e2 => rfl); (case e3 => rfl); (case e4 => rfl)))
 go_ret
 exact ⟨rfl, B268.out⟩
theorem walk_manifestFinds (m : MnA) (z : List Int) (no : Int) (d : List Int) (n : Int) (w : World) (hlaid : Laid w) (wm : m.Ok w) (wz : z.length = 16 ∧ AllBytes z) (wno : (Lit.int .i64 no).wf = true) (wd : d.length = 32 ∧ AllBytes d) (wn : (Lit.int .i64 n).wf = true) :
  Calls Tryz.prog 4 #[m.v, .agg (bvals z), .int .i64 no, .agg (bvals d), .int .i64 n] w fun e w' => e = .returned (.bool true) ∧ Below w.heap.size w w' := by
 cases p : mfew m.m
 ·exact mfinds_no m z no d n w hlaid wm wz wd wn p
 ·exact mfinds_yes m z no d n w hlaid wm wz wd wn p
end
end Go.Proofs.YtbkopnpafmjicaaGreatDoor
