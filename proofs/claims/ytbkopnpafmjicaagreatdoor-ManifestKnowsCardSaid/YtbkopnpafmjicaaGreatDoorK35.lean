import Derived.Test.YtbkopnpafmjicaaGreatDoorK0
import Derived.Test.YtbkopnpafmjicaaGreatDoorK32
import Derived.Test.YtbkopnpafmjicaaGreatDoorK13
import Derived.Test.YtbkopnpafmjicaaGreatDoorK12
import Derived.Test.YtbkopnpafmjicaaGreatDoorK2
import Derived.Test.YtbkopnpafmjicaaGreatDoorK33
import Derived.Test.YtbkopnpafmjicaaGreatDoorK16
import Derived.Test.YtbkopnpafmjicaaGreatDoorK34
import Derived.Test.YtbkopnpafmjicaaGreatDoorK24
import Derived.Test.YtbkopnpafmjicaaGreatDoorK29
import Derived.Test.YtbkopnpafmjicaaGreatDoorK11
import Derived.Lib.SmallJoins
import Derived.ProofKit
import Derived.OpenShut
import Derived.Deep.Slices
import Derived.Deep.Strs
/-
  What the functions that a law of this layer reaches answer, part 35. Nothing that was there is written.
-/
namespace Go.Proofs.YtbkopnpafmjicaaGreatDoor
set_option linter.unusedVariables false
set_option linter.unusedSimpArgs false
section
open Go.RowKit Go.Shelf WM
set_option maxRecDepth 100000
theorem line_bound {m : MnA} {z : List Int} {y x : LnA} (h : ∀ x ∈ m.ls, x.es.length ≤ 1000000 ∧ ∀ e ∈ x.es, e.e.bs.length ≤ 1000000) (hy : (lineA m.ls z).getD lnA0 = y) (e : x.x = y.x) : x.es.length ≤ 1000000 ∧ ∀ e ∈ x.es, e.e.bs.length ≤ 1000000 := by
 have h1 : y.es.length ≤ 1000000 ∧ ∀ e ∈ y.es, e.e.bs.length ≤ 1000000 := by
  rw [← hy]
  cases p : lineA m.ls z with
  | none => exact ⟨Nat.zero_le _, fun e he => by cases he⟩
  | some a => exact h a (List.mem_of_find?_eq_some p)
 have h2 : x.es.map (·.e) = y.es.map (·.e) := congrArg Ln.es e
 refine ⟨by have := congrArg List.length h2; rw [List.length_map, List.length_map] at this; omega, fun a ha => ?_⟩
 have h3 : a.e ∈ y.es.map (·.e) := by rw [← h2]; exact List.mem_map_of_mem ha
 obtain ⟨b, hb, hb2⟩ := List.mem_map.1 h3
 rw [← hb2]
 exact h1.2 b hb
theorem find_bound {m : MnA} {z : List Int} {no : Int} {v u : EnA} (h : ∀ x ∈ m.ls, x.es.length ≤ 1000000 ∧ ∀ e ∈ x.es, e.e.bs.length ≤ 1000000) (hv : (findA m.ls z no).getD enA0 = v) (e : u.e = v.e) : u.e.bs.length ≤ 1000000 := by
 rw [e, ← hv]
 cases p : findA m.ls z no with
 | none => exact Nat.zero_le _
 | some a => exact (line_bound (z := z) h rfl rfl).2 a (List.mem_of_find?_eq_some p)
theorem fewB_fs12 {b : Bk} (h : fewB b.rs = true) : b.xs.length ≤ 1000 ∧ ∀ x ∈ b.xs, x.R.fs.length ≤ 1000 := ⟨by have := (fewB_fs h).1; omega, (fewB_fs h).2⟩
theorem knows_lineA {m : MnA} {D : List Int → List Int} {base z : List Int} {rs : List Rc} (h : m.m = mof D base rs) : (lineA m.ls z).map (·.x) = (bat rs z).map (mofL D) := by
 rw [lineA_x, show m.ls.map (·.x) = rs.map (mofL D) from congrArg Mn.ls h, lfind_mof]
theorem knows_line {m : MnA} {D : List Int → List Int} {base z : List Int} {rs : List Rc} {R : Rc} {x : LnA} (h : m.m = mof D base rs) (hg : (bat rs z).getD rc0 = R) (hx : x.x = ((lineA m.ls z).getD lnA0).x) : x.n = R.n ∧ x.r = R.r ∧ x.es.length = R.fs.length := by
 have h1 := knows_lineA (z := z) h
 cases p : bat rs z with
 | none =>
  rw [p] at h1 hg
  have h2 : lineA m.ls z = none := Option.map_eq_none_iff.1 h1
  rw [h2] at hx
  have h3 : x.x = lnA0.x := hx
  rw [← hg]
  exact ⟨congrArg Ln.n h3, congrArg Ln.r h3, by have h5 : x.es.map (·.e) = [] := congrArg Ln.es h3; rw [List.map_eq_nil_iff.1 h5]; rfl⟩
 | some S =>
  rw [p] at h1 hg
  obtain ⟨y, hy, hy2⟩ := Option.map_eq_some_iff.1 h1
  rw [hy] at hx
  have h3 : x.x = mofL D S := hx.trans hy2
  have h4 : S = R := hg
  rw [← h4]
  exact ⟨congrArg Ln.n h3, congrArg Ln.r h3, by have := congrArg (fun q => (Ln.es q).length) h3; simpa [LnA.x, mofL] using this⟩
theorem knows_is {m : MnA} {D : List Int → List Int} {base z : List Int} {rs : List Rc} (h : m.m = mof D base rs) : (lineA m.ls z).isSome = (bat rs z).isSome := by
 have h1 := congrArg Option.isSome (knows_lineA (z := z) h)
 simpa using h1
theorem knows_findA {m : MnA} {D : List Int → List Int} {base z : List Int} {no : Int} {rs : List Rc} {R : Rc} (h : m.m = mof D base rs) (hg : (bat rs z).getD rc0 = R) : (findA m.ls z no).map (·.e) = (R.fs.find? fun f => decide (f.no = no)).map (mofE D) := by
 rw [findA_e, h, mfind_mof, ← hg]
 cases bat rs z <;> rfl
theorem knows_none {m : MnA} {D : List Int → List Int} {base z : List Int} {no : Int} {rs : List Rc} {R : Rc} (h : m.m = mof D base rs) (hg : (bat rs z).getD rc0 = R) (hc : rfind R.fs no = none) : findA m.ls z no = none := by
 have h1 := knows_findA (no := no) h hg
 rw [show (R.fs.find? fun f => decide (f.no = no)) = none from Option.map_eq_none_iff.1 hc] at h1
 exact Option.map_eq_none_iff.1 h1
theorem knows_some {m : MnA} {D : List Int → List Int} {base z : List Int} {no : Int} {rs : List Rc} {R : Rc} {c : Cel} (h : m.m = mof D base rs) (hg : (bat rs z).getD rc0 = R) (hc : rfind R.fs no = some c) : ∃ v : EnA, findA m.ls z no = some v ∧ v.e.n = c.n ∧ v.e.r = c.r ∧ v.e.len = c.s.size ∧ v.e.ds = D (nums c.s) ∧ v.e.bs = sgOf (nums c.s) := by
 have h1 := knows_findA (no := no) h hg
 obtain ⟨f, hf, rfl⟩ := Option.map_eq_some_iff.1 hc
 rw [hf] at h1
 obtain ⟨v, hv, hv2⟩ := Option.map_eq_some_iff.1 h1
 exact ⟨v, hv, by rw [hv2]; rfl, by rw [hv2]; rfl, by rw [hv2]; rfl, by rw [hv2]; rfl, by rw [hv2]; rfl⟩
theorem knows_size {z : List Int} {no : Int} {rs : List Rc} {R : Rc} {c : Cel} (hb : bmay rs = true) (hg : (bat rs z).getD rc0 = R) (hc : rfind R.fs no = some c) : c.s.size ≤ 200 := by
 cases p : bat rs z with
 | none =>
  rw [p] at hg
  rw [← hg] at hc
  cases hc
 | some S =>
  rw [p] at hg
  have h4 : S = R := hg
  obtain ⟨f, hf, rfl⟩ := Option.map_eq_some_iff.1 hc
  have h5 := (bmay_iff.1 hb).2.1 S (List.mem_of_find?_eq_some p)
  rw [h4] at h5
  have h6 := (cmay_iff.1 (rmay_all h5 f (List.mem_of_find?_eq_some hf)).2.2.1).2.2
  omega
set_option maxHeartbeats 16000000 in
theorem mkn_few (b : Bk) (z : List Int) (no : Int) (w : World) (hlaid : Laid w) (wb : BkAt w b) (wz : z.length = 16 ∧ AllBytes z) (p : fewB b.rs = false) :
  Calls Tryz.prog 5 #[.agg #[.slice b.A b.xs.length b.c], .agg (bvals z), .int .i64 no] w fun e w' => e = .returned (.bool true) ∧ Below w.heap.size w w' := by
 have HLA := Lib.hid (fun (X : World) (hX : Below w.heap.size w X) => hlaid.below hX (Nat.le_refl _))
 have Fb := Lib.hid wb
 have LZ := Lib.hid wz.1
 have HZ := Lib.hid wz
 have hzm := zeroMn
 rw [show mnA0.v = .agg mnA0.cs.toArray from rfl] at hzm
 have hzne : ¬ mnA0.cs.toArray = #[] := by decide
 have PB := Lib.hid p
 obtain ⟨M9, hM9⟩ : ∃ M, mofB b.rs = M := ⟨_, rfl⟩
 have MB := Lib.hid hM9
 obtain ⟨b9, hb9⟩ : ∃ b, M9.isSome = b := ⟨_, rfl⟩
 have MI := Lib.hid hb9
 clear hlaid wb wz p hM9 hb9
 have B1 := Lib.hid (Below.refl w.heap.size w)
 have T2n := BoAt.new w (.slice b.A b.xs.length b.c)
 have T2 := Lib.hid T2n
 clear T2n
 have B3 := Lib.hid (B1.out.alloc B1.out.size (.cells #[(.slice b.A b.xs.length b.c)] 24))
 have T4 := Lib.hid (T2.out.old (.cells (bvals z) 38))
 have T5n := RowAt.new (w.alloc (.cells #[(.slice b.A b.xs.length b.c)] 24)) (bvals z) 38
 simp only [World.size_alloc] at T5n
 have T5 := Lib.hid T5n
 clear T5n
 have B6 := Lib.hid (B3.out.alloc B3.out.size (.cells (bvals z) 38))
 have F7 := Lib.hid (Fb.out.below B6.out (Nat.le_refl _))
 go_enter Tryz.func5, Tryz.ntmps5
 have C8 := Lib.hid (mnAwake ((w.alloc (.cells #[(.slice b.A b.xs.length b.c)] 24)).alloc (.cells (bvals z) 38)) (HLA.out _ B6.out))
 go_wp2_with fail
 refine C8.out.mono ?_
 rintro e w9 ⟨rfl, hb10⟩
 have T11 := Lib.hid (T4.out.below hb10 T4.out.lt)
 have T12 := Lib.hid (T5.out.below hb10 T5.out.lt)
 have F13 := Lib.hid (F7.out.below hb10 (Nat.le_refl _))
 have B14 := Lib.hid (B6.out.trans (hb10.mono B6.out.size))
 clear hb10
 have M15 := Lib.hid (T11.out.load)
 have C16 := Lib.hid (fewB_any b w9 F13.out)
 rw [PB.out] at C16
 go_wp2_with (first | ((with_reducible refine wpList_load_by (o := ⟨some 21, .load 24 (.tmp 3), _, _, _, _⟩) ?e1 24 (.tmp 3) ?e2 ⟨w.heap.size, 0, none⟩ ?e3 _ M15.out ?_); (case e1 => rfl); (case e2 => rfl); (case e3 => rfl)))
 refine C16.out.mono ?_
 rintro e w17 ⟨rfl, hb18⟩
 have T19 := Lib.hid (T11.out.below hb18 T11.out.lt)
 have T20 := Lib.hid (T12.out.below hb18 T12.out.lt)
 have F21 := Lib.hid (F13.out.below hb18 (Nat.le_refl _))
 have B22 := Lib.hid (B14.out.trans (hb18.mono B14.out.size))
 clear hb18
 have M26 := Lib.hid (T19.out.load)
 have C27 := Lib.hid (pof12_any b w17 (HLA.out _ B22.out) F21.out)
 unfold MofPost at C27
 rw [MB.out] at C27
 go_wp2_with (first | ((with_reducible refine wpList_load_by (o := ⟨some 24, .load 24 (.tmp 3), _, _, _, _⟩) ?e1 24 (.tmp 3) ?e2 ⟨w.heap.size, 0, none⟩ ?e3 _ M26.out ?_); (case e1 => rfl); (case e2 => rfl); (case e3 => rfl)))
 refine C27.out.mono ?_
 rintro e w28 ⟨d23, rfl, hd24, hk25, hb29⟩
 have T30 := Lib.hid (T19.out.below hb29 T19.out.lt)
 have T31 := Lib.hid (T20.out.below hb29 T20.out.lt)
 have F32 := Lib.hid (F21.out.below hb29 (Nat.le_refl _))
 have B33 := Lib.hid (B22.out.trans (hb29.mono B22.out.size))
 clear hb29
 have E34 := Lib.hid (hd24)
 have F35 := Lib.hid (hk25)
 clear hd24 hk25
 have SZ35 := Lib.hid (mn_size F35.out)
 have SQ35 := Lib.hid (show mnA0.cs.toArray.size = d23.cs.toArray.size by rw [mnA0_size, List.size_toArray]; exact (MnA.len F35.out).symm)
 have SO35 := Lib.hid (mn_ones d23)
 have L37 := Lib.hid (MnA.len F35.out)
 have hb38 := (Below.refl w28.heap.size w28).alloc (Nat.le_refl _) (.cells d23.cs.toArray 29)
 have T39 := Lib.hid (RowAt.new w28 d23.cs.toArray 29)
 have T40 := Lib.hid (T30.out.below hb38 T30.out.lt)
 have T41 := Lib.hid (T31.out.below hb38 T31.out.lt)
 have F42 := Lib.hid (F32.out.below hb38 (Nat.le_refl _))
 have F43 := Lib.hid (F35.out.below hb38 (Nat.le_refl _))
 have B44 := Lib.hid (B33.out.trans (hb38.mono B33.out.size))
 clear hb38
 go_wp2_with (((with_reducible refine wpList_store_new (o := ⟨none, .store 29 (.tmp 9) (.tmp 26), _, _, _, _⟩) ?e1 29 (.tmp 9) (.tmp 26) ?e2 ?e3 mnA0.cs.toArray d23.cs.toArray ?e4 SZ35.out SQ35.out SO35.out ?_); (case e1 => rfl); (case e2 => rfl); (case e3 => (first | rfl | exact congrArg (fun q => Value.pointer (some ⟨q, 0, none⟩)) (World.size_alloc _ _).symm)); (case e4 => rfl)))
 go_ret
 exact ⟨rfl, B44.out⟩
set_option maxHeartbeats 16000000 in
theorem mkn_may (b : Bk) (z : List Int) (no : Int) (w : World) (hlaid : Laid w) (wb : BkAt w b) (wz : z.length = 16 ∧ AllBytes z) (p : fewB b.rs = true) (q : bmay b.rs = false) :
  Calls Tryz.prog 5 #[.agg #[.slice b.A b.xs.length b.c], .agg (bvals z), .int .i64 no] w fun e w' => e = .returned (.bool true) ∧ Below w.heap.size w w' := by
 have HLA := Lib.hid (fun (X : World) (hX : Below w.heap.size w X) => hlaid.below hX (Nat.le_refl _))
 have Fb := Lib.hid wb
 have LZ := Lib.hid wz.1
 have HZ := Lib.hid wz
 have hzm := zeroMn
 rw [show mnA0.v = .agg mnA0.cs.toArray from rfl] at hzm
 have hzne : ¬ mnA0.cs.toArray = #[] := by decide
 have PB := Lib.hid p
 have PY := Lib.hid q
 have MB := Lib.hid (show mofB b.rs = none from if_neg (by rw [q]; decide))
 clear hlaid wb wz p q
 have B1 := Lib.hid (Below.refl w.heap.size w)
 have T2n := BoAt.new w (.slice b.A b.xs.length b.c)
 have T2 := Lib.hid T2n
 clear T2n
 have B3 := Lib.hid (B1.out.alloc B1.out.size (.cells #[(.slice b.A b.xs.length b.c)] 24))
 have T4 := Lib.hid (T2.out.old (.cells (bvals z) 38))
 have T5n := RowAt.new (w.alloc (.cells #[(.slice b.A b.xs.length b.c)] 24)) (bvals z) 38
 simp only [World.size_alloc] at T5n
 have T5 := Lib.hid T5n
 clear T5n
 have B6 := Lib.hid (B3.out.alloc B3.out.size (.cells (bvals z) 38))
 have F7 := Lib.hid (Fb.out.below B6.out (Nat.le_refl _))
 go_enter Tryz.func5, Tryz.ntmps5
 have C8 := Lib.hid (mnAwake ((w.alloc (.cells #[(.slice b.A b.xs.length b.c)] 24)).alloc (.cells (bvals z) 38)) (HLA.out _ B6.out))
 go_wp2_with fail
 refine C8.out.mono ?_
 rintro e w9 ⟨rfl, hb10⟩
 have T11 := Lib.hid (T4.out.below hb10 T4.out.lt)
 have T12 := Lib.hid (T5.out.below hb10 T5.out.lt)
 have F13 := Lib.hid (F7.out.below hb10 (Nat.le_refl _))
 have B14 := Lib.hid (B6.out.trans (hb10.mono B6.out.size))
 clear hb10
 have M15 := Lib.hid (T11.out.load)
 have C16 := Lib.hid (fewB_any b w9 F13.out)
 rw [PB.out] at C16
 go_wp2_with (first | ((with_reducible refine wpList_load_by (o := ⟨some 21, .load 24 (.tmp 3), _, _, _, _⟩) ?e1 24 (.tmp 3) ?e2 ⟨w.heap.size, 0, none⟩ ?e3 _ M15.out ?_); (case e1 => rfl); (case e2 => rfl); (case e3 => rfl)))
 refine C16.out.mono ?_
 rintro e w17 ⟨rfl, hb18⟩
 have T19 := Lib.hid (T11.out.below hb18 T11.out.lt)
 have T20 := Lib.hid (T12.out.below hb18 T12.out.lt)
 have F21 := Lib.hid (F13.out.below hb18 (Nat.le_refl _))
 have B22 := Lib.hid (B14.out.trans (hb18.mono B14.out.size))
 clear hb18
 have M26 := Lib.hid (T19.out.load)
 have C27 := Lib.hid (pof12_any b w17 (HLA.out _ B22.out) F21.out)
 unfold MofPost at C27
 rw [MB.out] at C27
 go_wp2_with (first | ((with_reducible refine wpList_load_by (o := ⟨some 24, .load 24 (.tmp 3), _, _, _, _⟩) ?e1 24 (.tmp 3) ?e2 ⟨w.heap.size, 0, none⟩ ?e3 _ M26.out ?_); (case e1 => rfl); (case e2 => rfl); (case e3 => rfl)))
 refine C27.out.mono ?_
 rintro e w28 ⟨d23, rfl, hd24, hk25, hb29⟩
 have T30 := Lib.hid (T19.out.below hb29 T19.out.lt)
 have T31 := Lib.hid (T20.out.below hb29 T20.out.lt)
 have F32 := Lib.hid (F21.out.below hb29 (Nat.le_refl _))
 have B33 := Lib.hid (B22.out.trans (hb29.mono B22.out.size))
 clear hb29
 have E34 := Lib.hid (hd24)
 have F35 := Lib.hid (hk25)
 clear hd24 hk25
 have SZ35 := Lib.hid (mn_size F35.out)
 have SQ35 := Lib.hid (show mnA0.cs.toArray.size = d23.cs.toArray.size by rw [mnA0_size, List.size_toArray]; exact (MnA.len F35.out).symm)
 have SO35 := Lib.hid (mn_ones d23)
 have L37 := Lib.hid (MnA.len F35.out)
 have hb38 := (Below.refl w28.heap.size w28).alloc (Nat.le_refl _) (.cells d23.cs.toArray 29)
 have T39 := Lib.hid (RowAt.new w28 d23.cs.toArray 29)
 have T40 := Lib.hid (T30.out.below hb38 T30.out.lt)
 have T41 := Lib.hid (T31.out.below hb38 T31.out.lt)
 have F42 := Lib.hid (F32.out.below hb38 (Nat.le_refl _))
 have F43 := Lib.hid (F35.out.below hb38 (Nat.le_refl _))
 have B44 := Lib.hid (B33.out.trans (hb38.mono B33.out.size))
 clear hb38
 have M45 := Lib.hid (T40.out.load)
 have C46 := Lib.hid (bmay_any b (w28.alloc (.cells d23.cs.toArray 29)) F42.out)
 rw [PY.out] at C46
 go_wp2_with (first | ((with_reducible refine wpList_load_by (o := ⟨some 43, .load 24 (.tmp 3), _, _, _, _⟩) ?e1 24 (.tmp 3) ?e2 ⟨w.heap.size, 0, none⟩ ?e3 _ M45.out ?_); (case e1 => rfl); (case e2 => rfl); (case e3 => rfl)) | ((with_reducible refine wpList_store_new (o := ⟨none, .store 29 (.tmp 9) (.tmp 26), _, _, _, _⟩) ?e1 29 (.tmp 9) (.tmp 26) ?e2 ?e3 mnA0.cs.toArray d23.cs.toArray ?e4 SZ35.out SQ35.out SO35.out ?_); (case e1 => rfl); (case e2 => rfl); (case e3 => (first | rfl | exact congrArg (fun q => Value.pointer (some ⟨q, 0, none⟩)) (World.size_alloc _ _).symm)); (case e4 => rfl)))
 refine C46.out.mono ?_
 rintro e w47 ⟨rfl, hb48⟩
 have T49 := Lib.hid (T40.out.below hb48 T40.out.lt)
 have T50 := Lib.hid (T41.out.below hb48 T41.out.lt)
 have T51 := Lib.hid (T39.out.below hb48 T39.out.lt)
 have F52 := Lib.hid (F42.out.below hb48 (Nat.le_refl _))
 have F53 := Lib.hid (F43.out.below hb48 (Nat.le_refl _))
 have B54 := Lib.hid (B44.out.trans (hb48.mono B44.out.size))
 clear hb48
 go_wp2
 go_ret
 exact ⟨rfl, B54.out⟩
set_option maxHeartbeats 16000000 in
theorem mkn_00 (b : Bk) (z : List Int) (no : Int) (RR : Rc) (w : World) (hlaid : Laid w) (wb : BkAt w b) (wz : z.length = 16 ∧ AllBytes z) (p : fewB b.rs = true) (q : bmay b.rs = true) (hh : (bat b.rs z).isSome = false) (hg : (bat b.rs z).getD rc0 = RR) (hc : rfind RR.fs no = none) :
  Calls Tryz.prog 5 #[.agg #[.slice b.A b.xs.length b.c], .agg (bvals z), .int .i64 no] w fun e w' => e = .returned (.bool true) ∧ Below w.heap.size w w' := by
 have HLA := Lib.hid (fun (X : World) (hX : Below w.heap.size w X) => hlaid.below hX (Nat.le_refl _))
 have Fb := Lib.hid wb
 have LZ := Lib.hid wz.1
 have HZ := Lib.hid wz
 have hzm := zeroMn
 rw [show mnA0.v = .agg mnA0.cs.toArray from rfl] at hzm
 have hzne : ¬ mnA0.cs.toArray = #[] := by decide
 have hmof : mofB b.rs = some (mof SH.sum (SH.sum (bbs b.rs)) b.rs) := if_pos q
 have MB := Lib.hid hmof
 have PB := Lib.hid p
 have ZB := Lib.hid (fewB_fs12 p)
 have KNS := Lib.hid (fun (m : MnA) (h : m.m = mof SH.sum (SH.sum (bbs b.rs)) b.rs) => (show True ∧ (∀ l ∈ m.ls, l.es.length ≤ 1000000 ∧ ∀ e ∈ l.es, e.e.bs.length ≤ 1000000) from ⟨trivial, (mof_few h q).1⟩))
 have KNB := Lib.hid (fun (m : MnA) (h : m.m = mof SH.sum (SH.sum (bbs b.rs)) b.rs) => (show m.base = SH.sum (bbs b.rs) ∧ mmay m.m = true from ⟨congrArg Mn.base h, by rw [h]; exact mof_may _ _ _ q⟩))
 have HBG := Lib.hid hg
 have HCF := Lib.hid hc
 have KNL := Lib.hid (fun (m : MnA) (h : m.m = mof SH.sum (SH.sum (bbs b.rs)) b.rs) (x : LnA) (hx : x.x = ((lineA m.ls z).getD lnA0).x) => knows_line h hg hx)
 have hzl := zeroLn
 rw [show KLn.v lnA0 = .agg (KLn.cs lnA0).toArray from rfl] at hzl
 have hze := zeroEn
 rw [show KEn.v enA0 = .agg (KEn.cs enA0).toArray from rfl] at hze
 have hz := zeroX
 have hzc := zeroCel
 rw [show cel00.v = .agg #[.int .i64 0, .int .i64 0, .string ⟨#[]⟩] from rfl] at hzc
 have hzne2 : ¬ (KEn.cs enA0).toArray = #[] := by decide
 have hzne3 : ¬ (KLn.cs lnA0).toArray = #[] := by decide
 have HBS := Lib.hid hh
 obtain ⟨cn, hcn⟩ : ∃ c : Int, 0 = c := ⟨_, rfl⟩
 obtain ⟨cr, hcr⟩ : ∃ c : Int, 0 = c := ⟨_, rfl⟩
 obtain ⟨cs, hcs⟩ : ∃ c : ByteArray, ⟨#[]⟩ = c := ⟨_, rfl⟩
 have HC0 := Lib.hid (show cel00 = ⟨cn, cr, cs⟩ from by rw [← hcn, ← hcr, ← hcs]; rfl)
 clear hcn hcr hcs
 have KNE := Lib.hid (fun (m : MnA) (h : m.m = mof SH.sum (SH.sum (bbs b.rs)) b.rs) (u : EnA) (hu : u.e = ((findA m.ls z no).getD enA0).e) => (show u.e.len = 0 ∧ u.e.bs.length = 0 from by rw [knows_none h hg hc] at hu; have h3 : u.e = enA0.e := hu; rw [h3]; exact ⟨rfl, rfl⟩))
 have KNI := Lib.hid (fun (m : MnA) (h : m.m = mof SH.sum (SH.sum (bbs b.rs)) b.rs) => (show (lineA m.ls z).isSome = false ∧ (findA m.ls z no).isSome = false from ⟨(knows_is h).trans hh, by rw [knows_none h hg hc]; rfl⟩))
 clear hlaid wb wz p q hh hg hc hmof
 have B1 := Lib.hid (Below.refl w.heap.size w)
 have T2n := BoAt.new w (.slice b.A b.xs.length b.c)
 have T2 := Lib.hid T2n
 clear T2n
 have B3 := Lib.hid (B1.out.alloc B1.out.size (.cells #[(.slice b.A b.xs.length b.c)] 24))
 have T4 := Lib.hid (T2.out.old (.cells (bvals z) 38))
 have T5n := RowAt.new (w.alloc (.cells #[(.slice b.A b.xs.length b.c)] 24)) (bvals z) 38
 simp only [World.size_alloc] at T5n
 have T5 := Lib.hid T5n
 clear T5n
 have B6 := Lib.hid (B3.out.alloc B3.out.size (.cells (bvals z) 38))
 have F7 := Lib.hid (Fb.out.below B6.out (Nat.le_refl _))
 go_enter Tryz.func5, Tryz.ntmps5
 have C8 := Lib.hid (mnAwake ((w.alloc (.cells #[(.slice b.A b.xs.length b.c)] 24)).alloc (.cells (bvals z) 38)) (HLA.out _ B6.out))
 go_wp2_with fail
 refine C8.out.mono ?_
 rintro e w9 ⟨rfl, hb10⟩
 have T11 := Lib.hid (T4.out.below hb10 T4.out.lt)
 have T12 := Lib.hid (T5.out.below hb10 T5.out.lt)
 have F13 := Lib.hid (F7.out.below hb10 (Nat.le_refl _))
 have B14 := Lib.hid (B6.out.trans (hb10.mono B6.out.size))
 clear hb10
 have M15 := Lib.hid (T11.out.load)
 have C16 := Lib.hid (fewB_any b w9 F13.out)
 rw [PB.out] at C16
 go_wp2_with (first | ((with_reducible refine wpList_load_by (o := ⟨some 21, .load 24 (.tmp 3), _, _, _, _⟩) ?e1 24 (.tmp 3) ?e2 ⟨w.heap.size, 0, none⟩ ?e3 _ M15.out ?_); (case e1 => rfl); (case e2 => rfl); (case e3 => rfl)))
 refine C16.out.mono ?_
 rintro e w17 ⟨rfl, hb18⟩
 have T19 := Lib.hid (T11.out.below hb18 T11.out.lt)
 have T20 := Lib.hid (T12.out.below hb18 T12.out.lt)
 have F21 := Lib.hid (F13.out.below hb18 (Nat.le_refl _))
 have B22 := Lib.hid (B14.out.trans (hb18.mono B14.out.size))
 clear hb18
 have M26 := Lib.hid (T19.out.load)
 have C27 := Lib.hid (pof12_any b w17 (HLA.out _ B22.out) F21.out)
 unfold MofPost at C27
 rw [MB.out] at C27
 go_wp2_with (first | ((with_reducible refine wpList_load_by (o := ⟨some 24, .load 24 (.tmp 3), _, _, _, _⟩) ?e1 24 (.tmp 3) ?e2 ⟨w.heap.size, 0, none⟩ ?e3 _ M26.out ?_); (case e1 => rfl); (case e2 => rfl); (case e3 => rfl)))
 refine C27.out.mono ?_
 rintro e w28 ⟨d23, rfl, hd24, hk25, hb29⟩
 have T30 := Lib.hid (T19.out.below hb29 T19.out.lt)
 have T31 := Lib.hid (T20.out.below hb29 T20.out.lt)
 have F32 := Lib.hid (F21.out.below hb29 (Nat.le_refl _))
 have B33 := Lib.hid (B22.out.trans (hb29.mono B22.out.size))
 clear hb29
 have E34 := Lib.hid (hd24)
 have F35 := Lib.hid (hk25)
 clear hd24 hk25
 have SZ35 := Lib.hid (mn_size F35.out)
 have SQ35 := Lib.hid (show mnA0.cs.toArray.size = d23.cs.toArray.size by rw [mnA0_size, List.size_toArray]; exact (MnA.len F35.out).symm)
 have SO35 := Lib.hid (mn_ones d23)
 have L37 := Lib.hid (MnA.len F35.out)
 have hb38 := (Below.refl w28.heap.size w28).alloc (Nat.le_refl _) (.cells d23.cs.toArray 29)
 have T39 := Lib.hid (RowAt.new w28 d23.cs.toArray 29)
 have T40 := Lib.hid (T30.out.below hb38 T30.out.lt)
 have T41 := Lib.hid (T31.out.below hb38 T31.out.lt)
 have F42 := Lib.hid (F32.out.below hb38 (Nat.le_refl _))
 have F43 := Lib.hid (F35.out.below hb38 (Nat.le_refl _))
 have B44 := Lib.hid (B33.out.trans (hb38.mono B33.out.size))
 clear hb38
 have M48 := Lib.hid (T41.out.id LZ.out)
 have M49 := Lib.hid (T40.out.load)
 have C50 := Lib.hid ((show Calls Tryz.prog 27 #[.agg #[.slice b.A b.xs.length b.c], .agg (bvals z)] (w28.alloc (.cells d23.cs.toArray 29)) (BFindPost (w28.alloc (.cells d23.cs.toArray 29)) (bat b.rs z)) from bfind_any b z (w28.alloc (.cells d23.cs.toArray 29)) F42.out HZ.out.1 HZ.out.2 ZB.out.2))
 unfold BFindPost at C50
 rw [HBS.out, HBG.out] at C50
 go_wp2_with (first | ((with_reducible refine wpList_load_at (o := ⟨some 53, .load 38 (.tmp 4), _, _, _, _⟩) ?e1 38 (.tmp 4) ?e2 ⟨(w.heap.size + 1), 0, none⟩ ?e3 _ M48.out ?_); (case e1 => rfl); (case e2 => rfl); (case e3 => rfl)) | ((with_reducible refine wpList_load_by (o := ⟨some 52, .load 24 (.tmp 3), _, _, _, _⟩) ?e1 24 (.tmp 3) ?e2 ⟨w.heap.size, 0, none⟩ ?e3 _ M49.out ?_); (case e1 => rfl); (case e2 => rfl); (case e3 => rfl)) | ((with_reducible refine wpList_store_new (o := ⟨none, .store 29 (.tmp 9) (.tmp 26), _, _, _, _⟩) ?e1 29 (.tmp 9) (.tmp 26) ?e2 ?e3 mnA0.cs.toArray d23.cs.toArray ?e4 SZ35.out SQ35.out SO35.out ?_); (case e1 => rfl); (case e2 => rfl); (case e3 => (first | rfl | exact congrArg (fun q => Value.pointer (some ⟨q, 0, none⟩)) (World.size_alloc _ _).symm)); (case e4 => rfl)))
 refine C50.out.mono ?_
 rintro e w51 ⟨y45, rfl, hd46, hk47, hb52⟩
 have T53 := Lib.hid (T40.out.below hb52 T40.out.lt)
 have T54 := Lib.hid (T41.out.below hb52 T41.out.lt)
 have T55 := Lib.hid (T39.out.below hb52 T39.out.lt)
 have F56 := Lib.hid (F42.out.below hb52 (Nat.le_refl _))
 have F57 := Lib.hid (F43.out.below hb52 (Nat.le_refl _))
 have B58 := Lib.hid (B44.out.trans (hb52.mono B44.out.size))
 clear hb52
 have E59 := Lib.hid (hd46)
 have F60 := Lib.hid (hk47)
 have Z61 := Lib.hid (hk47.len)
 clear hd46 hk47
 go_wp2_with (first | ((with_reducible refine wpList_store_newx (o := ⟨none, .store 58 (.tmp 11) (.tmp 55), _, _, _, _⟩) (w := w51) ?e1 (.tmp 11) (.tmp 55) ?e2 w51.heap.size ?e0 ?e3 y45 ?e4 Z61.out ?_); (case e1 => rfl); (case e2 => rfl); (case e0 => rfl); (case e3 => rfl); (case e4 => rfl); intro w62 hb63 hx64 hs65; have T66 := Lib.hid hx64; clear hx64 hs65; have T67 := Lib.hid (T53.out.below hb63 T53.out.lt); have T68 := Lib.hid (T54.out.below hb63 T54.out.lt); have T69 := Lib.hid (T55.out.below hb63 T55.out.lt); have F70 := Lib.hid (F56.out.below hb63 (Nat.le_refl _)); have F71 := Lib.hid (F57.out.below hb63 (Nat.le_refl _)); have F72 := Lib.hid (F60.out.below hb63 (Nat.le_refl _)); have B73 := Lib.hid (B58.out.trans (hb63.mono B58.out.size)); clear hb63; have M74 := Lib.hid (T66.out.load); have C75 := Lib.hid ((show Calls Tryz.prog 28 #[.agg y45.cells, .int .i64 no] w62 (fun e w' => e = .returned (.tuple #[.agg #[.int .i64 cn, .int .i64 cr, .string cs], .bool false]) ∧ Below (w62).heap.size w62 w') from by have h := xfind_any y45 no w62 F72.out; rw [E59.out, HCF.out] at h; rw [show (none : Option Cel).getD cel00 = ⟨cn, cr, cs⟩ from HC0.out] at h; exact h))) | ((with_reducible refine wpList_load_by (o := ⟨some 58, .load 58 (.tmp 11), _, _, _, _⟩) ?e1 58 (.tmp 11) ?e2 ⟨w51.heap.size, 0, none⟩ ?e3 _ M74.out ?_); (case e1 => rfl); (case e2 => rfl); (case e3 => rfl)))
 refine C75.out.mono ?_
 rintro e w76 ⟨rfl, hb77⟩
 have T78 := Lib.hid (T67.out.below hb77 T67.out.lt)
 have T79 := Lib.hid (T68.out.below hb77 T68.out.lt)
 have T80 := Lib.hid (T69.out.below hb77 T69.out.lt)
 have T81 := Lib.hid (T66.out.below hb77 T66.out.lt)
 have F82 := Lib.hid (F70.out.below hb77 (Nat.le_refl _))
 have F83 := Lib.hid (F71.out.below hb77 (Nat.le_refl _))
 have F84 := Lib.hid (F72.out.below hb77 (Nat.le_refl _))
 have B85 := Lib.hid (B73.out.trans (hb77.mono B73.out.size))
 clear hb77
 have hb86 := (Below.refl w76.heap.size w76).alloc (Nat.le_refl _) (.cells #[.int .i64 cn, .int .i64 cr, .string cs] 62)
 have T87 := Lib.hid (ClAt.new w76 ⟨cn, cr, cs⟩)
 have T88 := Lib.hid (T78.out.below hb86 T78.out.lt)
 have T89 := Lib.hid (T79.out.below hb86 T79.out.lt)
 have T90 := Lib.hid (T80.out.below hb86 T80.out.lt)
 have T91 := Lib.hid (T81.out.below hb86 T81.out.lt)
 have F92 := Lib.hid (F82.out.below hb86 (Nat.le_refl _))
 have F93 := Lib.hid (F83.out.below hb86 (Nat.le_refl _))
 have F94 := Lib.hid (F84.out.below hb86 (Nat.le_refl _))
 have B95 := Lib.hid (B85.out.trans (hb86.mono B85.out.size))
 clear hb86
 have K96 := Lib.hid ((KNI.out d23 E34.out).1)
 have K97 := Lib.hid ((KNI.out d23 E34.out).2)
 have M101 := Lib.hid (T90.out.mn L37.out)
 have M102 := Lib.hid (T89.out.id LZ.out)
 have C103 := Lib.hid ((show Calls Tryz.prog 18 #[.agg d23.cs.toArray, .agg (bvals z)] (w76.alloc (.cells #[.int .i64 cn, .int .i64 cr, .string cs] 62)) (LineN (w76.alloc (.cells #[.int .i64 cn, .int .i64 cr, .string cs] 62)) (lineA d23.ls z)) from pline12_any d23 z (w76.alloc (.cells #[.int .i64 cn, .int .i64 cr, .string cs] 62)) F93.out HZ.out (KNS.out d23 E34.out).2))
 unfold LineN at C103
 rw [K96.out] at C103
 go_wp2_with (first | ((with_reducible refine wpList_load_at (o := ⟨some 64, .load 29 (.tmp 9), _, _, _, _⟩) ?e1 29 (.tmp 9) ?e2 ⟨w28.heap.size, 0, none⟩ ?e3 _ M101.out ?_); (case e1 => rfl); (case e2 => rfl); (case e3 => rfl)) | ((with_reducible refine wpList_load_at (o := ⟨some 65, .load 38 (.tmp 4), _, _, _, _⟩) ?e1 38 (.tmp 4) ?e2 ⟨(w.heap.size + 1), 0, none⟩ ?e3 _ M102.out ?_); (case e1 => rfl); (case e2 => rfl); (case e3 => rfl)))
 refine C103.out.mono ?_
 rintro e w104 ⟨d98, rfl, hd99, hk100, hb105⟩
 have T106 := Lib.hid (T88.out.below hb105 T88.out.lt)
 have T107 := Lib.hid (T89.out.below hb105 T89.out.lt)
 have T108 := Lib.hid (T90.out.below hb105 T90.out.lt)
 have T109 := Lib.hid (T91.out.below hb105 T91.out.lt)
 have T110 := Lib.hid (T87.out.below hb105 T87.out.lt)
 have F111 := Lib.hid (F92.out.below hb105 (Nat.le_refl _))
 have F112 := Lib.hid (F93.out.below hb105 (Nat.le_refl _))
 have F113 := Lib.hid (F94.out.below hb105 (Nat.le_refl _))
 have B114 := Lib.hid (B95.out.trans (hb105.mono B95.out.size))
 clear hb105
 have E115 := Lib.hid (hd99)
 have F116 := Lib.hid (hk100)
 clear hd99 hk100
 have SZ116 := Lib.hid (ln_size F116.out)
 have SQ116 := Lib.hid (show (KLn.cs lnA0).toArray.size = (KLn.cs d98).toArray.size by rw [lnA0_size, List.size_toArray]; exact (LnA.len F116.out).symm)
 have SO116 := Lib.hid (ln_ones d98)
 have L118 := Lib.hid (LnA.len F116.out)
 have hb119 := (Below.refl w104.heap.size w104).alloc (Nat.le_refl _) (.cells (KLn.cs d98).toArray 43)
 have T120 := Lib.hid (RowAt.new w104 (KLn.cs d98).toArray 43)
 have T121 := Lib.hid (T106.out.below hb119 T106.out.lt)
 have T122 := Lib.hid (T107.out.below hb119 T107.out.lt)
 have T123 := Lib.hid (T108.out.below hb119 T108.out.lt)
 have T124 := Lib.hid (T109.out.below hb119 T109.out.lt)
 have T125 := Lib.hid (T110.out.below hb119 T110.out.lt)
 have F126 := Lib.hid (F111.out.below hb119 (Nat.le_refl _))
 have F127 := Lib.hid (F112.out.below hb119 (Nat.le_refl _))
 have F128 := Lib.hid (F113.out.below hb119 (Nat.le_refl _))
 have F129 := Lib.hid (F116.out.below hb119 (Nat.le_refl _))
 have B130 := Lib.hid (B114.out.trans (hb119.mono B114.out.size))
 clear hb119
 have M134 := Lib.hid (T123.out.mn L37.out)
 have M135 := Lib.hid (T122.out.id LZ.out)
 have C136 := Lib.hid ((show Calls Tryz.prog 20 #[.agg d23.cs.toArray, .agg (bvals z), .int .i64 no] (w104.alloc (.cells (KLn.cs d98).toArray 43)) (FindN (w104.alloc (.cells (KLn.cs d98).toArray 43)) (findA d23.ls z no)) from pfind12_any d23 z no (w104.alloc (.cells (KLn.cs d98).toArray 43)) F127.out HZ.out (KNS.out d23 E34.out).2))
 unfold FindN at C136
 rw [K97.out] at C136
 go_wp2_with (first | ((with_reducible refine wpList_load_at (o := ⟨some 70, .load 29 (.tmp 9), _, _, _, _⟩) ?e1 29 (.tmp 9) ?e2 ⟨w28.heap.size, 0, none⟩ ?e3 _ M134.out ?_); (case e1 => rfl); (case e2 => rfl); (case e3 => rfl)) | ((with_reducible refine wpList_load_at (o := ⟨some 71, .load 38 (.tmp 4), _, _, _, _⟩) ?e1 38 (.tmp 4) ?e2 ⟨(w.heap.size + 1), 0, none⟩ ?e3 _ M135.out ?_); (case e1 => rfl); (case e2 => rfl); (case e3 => rfl)) | ((with_reducible refine wpList_store_new (o := ⟨none, .store 43 (.tmp 15) (.tmp 67), _, _, _, _⟩) ?e1 43 (.tmp 15) (.tmp 67) ?e2 ?e3 (KLn.cs lnA0).toArray (KLn.cs d98).toArray ?e4 SZ116.out SQ116.out SO116.out ?_); (case e1 => rfl); (case e2 => rfl); (case e3 => (first | rfl | exact congrArg (fun q => Value.pointer (some ⟨q, 0, none⟩)) (World.size_alloc _ _).symm)); (case e4 => rfl)))
 refine C136.out.mono ?_
 rintro e w137 ⟨d131, rfl, hd132, hk133, hb138⟩
 have T139 := Lib.hid (T121.out.below hb138 T121.out.lt)
 have T140 := Lib.hid (T122.out.below hb138 T122.out.lt)
 have T141 := Lib.hid (T123.out.below hb138 T123.out.lt)
 have T142 := Lib.hid (T124.out.below hb138 T124.out.lt)
 have T143 := Lib.hid (T125.out.below hb138 T125.out.lt)
 have T144 := Lib.hid (T120.out.below hb138 T120.out.lt)
 have F145 := Lib.hid (F126.out.below hb138 (Nat.le_refl _))
 have F146 := Lib.hid (F127.out.below hb138 (Nat.le_refl _))
 have F147 := Lib.hid (F128.out.below hb138 (Nat.le_refl _))
 have F148 := Lib.hid (F129.out.below hb138 (Nat.le_refl _))
 have B149 := Lib.hid (B130.out.trans (hb138.mono B130.out.size))
 clear hb138
 have E150 := Lib.hid (hd132)
 have F151 := Lib.hid (hk133)
 clear hd132 hk133
 have SZ151 := Lib.hid (en_size F151.out)
 have SQ151 := Lib.hid (show (KEn.cs enA0).toArray.size = (KEn.cs d131).toArray.size by rw [enA0_size, List.size_toArray]; exact (EnA.len F151.out).symm)
 have SO151 := Lib.hid (en_ones d131)
 have L153 := Lib.hid (EnA.len F151.out)
 have hb154 := (Below.refl w137.heap.size w137).alloc (Nat.le_refl _) (.cells (KEn.cs d131).toArray 48)
 have T155 := Lib.hid (RowAt.new w137 (KEn.cs d131).toArray 48)
 have T156 := Lib.hid (T139.out.below hb154 T139.out.lt)
 have T157 := Lib.hid (T140.out.below hb154 T140.out.lt)
 have T158 := Lib.hid (T141.out.below hb154 T141.out.lt)
 have T159 := Lib.hid (T142.out.below hb154 T142.out.lt)
 have T160 := Lib.hid (T143.out.below hb154 T143.out.lt)
 have T161 := Lib.hid (T144.out.below hb154 T144.out.lt)
 have F162 := Lib.hid (F145.out.below hb154 (Nat.le_refl _))
 have F163 := Lib.hid (F146.out.below hb154 (Nat.le_refl _))
 have F164 := Lib.hid (F147.out.below hb154 (Nat.le_refl _))
 have F165 := Lib.hid (F148.out.below hb154 (Nat.le_refl _))
 have F166 := Lib.hid (F151.out.below hb154 (Nat.le_refl _))
 have B167 := Lib.hid (B149.out.trans (hb154.mono B149.out.size))
 clear hb154
 have T3' := Lib.hid T156.out
 have T9' := Lib.hid T158.out
 have T11' := Lib.hid T159.out
 have T13' := Lib.hid T160.out
 have T15' := Lib.hid T161.out
 have T17' := Lib.hid T155.out
 have HB1 := Lib.hid B167.out
 have OX := Lib.hid F165.out
 have OU := Lib.hid F166.out
 have OM := Lib.hid F163.out
 have OB := Lib.hid F162.out
 obtain ⟨gn, gr, gf⟩ := KNL.out d23 E34.out d98 E115.out
 have LC16 := Lib.hid (fun (X : World) (hX : Below ((w137.alloc (.cells (KEn.cs d131).toArray 48))).heap.size (w137.alloc (.cells (KEn.cs d131).toArray 48)) X) => (show X.cell? ⟨w104.heap.size, 16, none⟩ = some (.int .i64 RR.n) from by have h := ln_c16 (Kind.at_blk (K := KLn) (x := d98) (T15'.out.below hX T15'.out.lt)) OX.out.1; (try simp only [Nat.zero_add] at h); rw [gn] at h; exact h))
 have LC17 := Lib.hid (fun (X : World) (hX : Below ((w137.alloc (.cells (KEn.cs d131).toArray 48))).heap.size (w137.alloc (.cells (KEn.cs d131).toArray 48)) X) => (show X.cell? ⟨w104.heap.size, 17, none⟩ = some (.int .i64 RR.r) from by have h := ln_c17 (Kind.at_blk (K := KLn) (x := d98) (T15'.out.below hX T15'.out.lt)) OX.out.1; (try simp only [Nat.zero_add] at h); rw [gr] at h; exact h))
 have LC18 := Lib.hid (fun (X : World) (hX : Below ((w137.alloc (.cells (KEn.cs d131).toArray 48))).heap.size (w137.alloc (.cells (KEn.cs d131).toArray 48)) X) => (show X.cell? ⟨w104.heap.size, 18, none⟩ = some (.slice d98.A RR.fs.length d98.c) from by have h := ln_c18 (Kind.at_blk (K := KLn) (x := d98) (T15'.out.below hX T15'.out.lt)) OX.out.1; (try simp only [Nat.zero_add] at h); rw [gf] at h; exact h))
 have RC16 := Lib.hid (fun (X : World) (hX : Below ((w137.alloc (.cells (KEn.cs d131).toArray 48))).heap.size (w137.alloc (.cells (KEn.cs d131).toArray 48)) X) => (show X.cell? ⟨w51.heap.size, 16, none⟩ = some (.int .i64 RR.n) from by have h := (T11'.out.below hX T11'.out.lt).c16; (try simp only [Nat.zero_add] at h); rw [E59.out] at h; exact h))
 have RC17 := Lib.hid (fun (X : World) (hX : Below ((w137.alloc (.cells (KEn.cs d131).toArray 48))).heap.size (w137.alloc (.cells (KEn.cs d131).toArray 48)) X) => (show X.cell? ⟨w51.heap.size, 17, none⟩ = some (.int .i64 RR.r) from by have h := (T11'.out.below hX T11'.out.lt).c17; (try simp only [Nat.zero_add] at h); rw [E59.out] at h; exact h))
 have RC18 := Lib.hid (fun (X : World) (hX : Below ((w137.alloc (.cells (KEn.cs d131).toArray 48))).heap.size (w137.alloc (.cells (KEn.cs d131).toArray 48)) X) => (show X.cell? ⟨w51.heap.size, 18, none⟩ = some (.slice y45.A RR.fs.length y45.c) from by have h := (T11'.out.below hX T11'.out.lt).c18; (try simp only [Nat.zero_add] at h); rw [E59.out] at h; exact h))
 have LBS := Lib.hid (fun (X : World) (hX : Below ((w137.alloc (.cells (KEn.cs d131).toArray 48))).heap.size (w137.alloc (.cells (KEn.cs d131).toArray 48)) X) => (show (loadVar 26 ⟨w28.heap.size, 0, none⟩).run Tryz.prog X = .ok (.agg (bvals (SH.sum (bbs b.rs)))) X from by have h := load_dig (MnAt.dig (show MnAt X w28.heap.size d23 from T9'.out.below hX T9'.out.lt) OM.out.1) OM.out.1; rw [(KNB.out d23 E34.out).1] at h; exact h))
 have LBK := Lib.hid (fun (X : World) (hX : Below ((w137.alloc (.cells (KEn.cs d131).toArray 48))).heap.size (w137.alloc (.cells (KEn.cs d131).toArray 48)) X) => (T3'.out.below hX T3'.out.lt).load)
 have LMN := Lib.hid (fun (X : World) (hX : Below ((w137.alloc (.cells (KEn.cs d131).toArray 48))).heap.size (w137.alloc (.cells (KEn.cs d131).toArray 48)) X) => RowAt.mn (T9'.out.below hX T9'.out.lt) (MnA.len OM.out))
 have CMY := Lib.hid (fun (X : World) (hX : Below ((w137.alloc (.cells (KEn.cs d131).toArray 48))).heap.size (w137.alloc (.cells (KEn.cs d131).toArray 48)) X) => (show Calls Tryz.prog 16 #[.agg d23.cs.toArray] X fun e w' => e = .returned (.bool true) ∧ Below X.heap.size X w' from by have h := pmay12_any d23 X (OM.out.below hX (Nat.le_refl _)); rw [(KNB.out d23 E34.out).2] at h; exact h))
 have CDG := Lib.hid (fun (X : World) (hX : Below ((w137.alloc (.cells (KEn.cs d131).toArray 48))).heap.size (w137.alloc (.cells (KEn.cs d131).toArray 48)) X) => (show Calls Tryz.prog 29 #[.agg #[.slice b.A b.xs.length b.c]] X fun e w' => e = .returned (.agg (bvals (SH.sum (bbs b.rs)))) ∧ Below X.heap.size X w' from digest_any b X (HLA.out _ (HB1.out.trans (hX.mono HB1.out.size))) (OB.out.below hX (Nat.le_refl _))))
 obtain ⟨el', eb'⟩ := KNE.out d23 E34.out d131 E150.out
 have EC3 := Lib.hid (fun (X : World) (hX : Below ((w137.alloc (.cells (KEn.cs d131).toArray 48))).heap.size (w137.alloc (.cells (KEn.cs d131).toArray 48)) X) => (show X.cell? ⟨w137.heap.size, 3, none⟩ = some (.int .i64 0) from by have h := en_c3 (Kind.at_blk (K := KEn) (x := d131) (T17'.out.below hX T17'.out.lt)); (try simp only [Nat.zero_add] at h); rw [el'] at h; exact h))
 have EC36 := Lib.hid (fun (X : World) (hX : Below ((w137.alloc (.cells (KEn.cs d131).toArray 48))).heap.size (w137.alloc (.cells (KEn.cs d131).toArray 48)) X) => (show X.cell? ⟨w137.heap.size, 36, none⟩ = some (.slice d131.A 0 d131.c) from by have h := en_c36 (Kind.at_blk (K := KEn) (x := d131) (T17'.out.below hX T17'.out.lt)) OU.out.2.2.2.2.1; (try simp only [Nat.zero_add] at h); rw [eb'] at h; exact h))
 clear el' eb'
 clear gn gr gf
 go_wp2_with (((with_reducible refine wpList_store_new (o := ⟨none, .store 48 (.tmp 17) (.tmp 74), _, _, _, _⟩) ?e1 48 (.tmp 17) (.tmp 74) ?e2 ?e3 (KEn.cs enA0).toArray (KEn.cs d131).toArray ?e4 SZ151.out SQ151.out SO151.out ?_); (case e1 => rfl); (case e2 => rfl); (case e3 => (first | rfl | exact congrArg (fun q => Value.pointer (some ⟨q, 0, none⟩)) (World.size_alloc _ _).symm)); (case e4 => rfl)))
 generalize ((w137.alloc (.cells (KEn.cs d131).toArray 48))) = w1 at *
 have QB := Lib.hid (fun X : World => show (Op.equalIn 10000 26 (.agg (bvals (SH.sum (bbs b.rs)))) (.agg (bvals (SH.sum (bbs b.rs))))).run Tryz.prog X = .ok true X from by have h := eq_dig (SH.sum_bytes (bbs b.rs)) (SH.sum_bytes (bbs b.rs)) (SH.sum_len _) (SH.sum_len _) X; rw [beq_self_eq_true] at h; exact h)
 have QS := Lib.hid (fun X : World => show (Op.equalIn 10000 40 (.agg #[.int .i64 RR.n, .int .i64 RR.r]) (.agg #[.int .i64 RR.n, .int .i64 RR.r])).run Tryz.prog X = .ok true X from by have h := eq_st (n := RR.n) (r := RR.r) (m := RR.n) (s := RR.r) X; rw [decide_eq_true (And.intro rfl rfl)] at h; exact h)
 refine wp_region_G _ (by kernel_rfl) ?_
 refine wpGv (i := 0) (oi := ⟨some 76, _, _, _, _, _⟩) (v := (.agg d23.cs.toArray)) rfl ?_ ?_; (focus (intro w9 hSw; exact exec_load_at 29 _ rfl _ rfl (LMN.out w9 hSw))); simp only [Act.put, Z2, Z3, Z4]
 refine wpG_take (i := 1) (oi := ⟨some 77, _, _, _, _, _⟩) rfl (by kernel_rfl) (by kernel_rfl) (by kernel_rfl) (Or.inl ⟨by rfl, unib_call_if ?_ CMY.out⟩) ?_; (focus (intro w9 hSw; go_simp; try with_reducible rfl)); simp only [Act.put, Z2, Z3, Z4]
 refine wpGv (i := 2) (oi := ⟨some 78, _, _, _, _, _⟩) (v := ?_) rfl ?_ ?_; rotate_left; (focus (intro w9 hSw; go_simp; try with_reducible rfl)); simp only [Act.put, Z2, Z3, Z4]
 refine wpGv (i := 3) (oi := ⟨some 79, _, _, _, _, _⟩) (v := ?_) rfl ?_ ?_; rotate_left; (focus (intro w9 hSw; go_simp; try with_reducible rfl)); simp only [Act.put, Z2, Z3, Z4]
 refine wpGv (i := 4) (oi := ⟨some 80, _, _, _, _, _⟩) (v := ?_) rfl ?_ ?_; rotate_left; (focus (intro w9 hSw; go_simp; try with_reducible rfl)); simp only [Act.put, Z2, Z3, Z4]
 refine wpGv (i := 5) (oi := ⟨some 81, _, _, _, _, _⟩) (v := (.agg (bvals (SH.sum (bbs b.rs))))) rfl ?_ ?_; (focus (intro w9 hSw; exact exec_load_at 26 _ rfl _ rfl (LBS.out w9 hSw))); simp only [Act.put, Z2, Z3, Z4]
 refine wpGv (i := 6) (oi := ⟨some 82, _, _, _, _, _⟩) (v := (.agg #[.slice b.A b.xs.length b.c])) rfl ?_ ?_; (focus (intro w9 hSw; exact exec_load_by 24 _ rfl ⟨w.heap.size, 0, none⟩ rfl (LBK.out w9 hSw))); simp only [Act.put, Z2, Z3, Z4]
 refine wpG_take (i := 7) (oi := ⟨some 83, _, _, _, _, _⟩) rfl (by kernel_rfl) (by kernel_rfl) (by kernel_rfl) (Or.inl ⟨by rfl, unib_call_if ?_ CDG.out⟩) ?_; (focus (intro w9 hSw; go_simp; try with_reducible rfl)); simp only [Act.put, Z2, Z3, Z4]
 refine wpGv (i := 8) (oi := ⟨some 84, _, _, _, _, _⟩) (v := (.bool false)) rfl ?_ ?_; (focus (intro w9 hSw; have q0 := QB.out w9; exact exec_neq_at 26 _ _ _ rfl rfl rfl guardDig q0)); simp only [Act.put, Z2, Z3, Z4]
 refine wpGv (i := 9) (oi := ⟨some 85, _, _, _, _, _⟩) (v := ?_) rfl ?_ ?_; rotate_left; (focus (intro w9 hSw; go_simp; try with_reducible rfl)); simp only [Act.put, Z2, Z3, Z4]
 refine wpGv (i := 10) (oi := ⟨some 86, _, _, _, _, _⟩) (v := ?_) rfl ?_ ?_; rotate_left; (focus (intro w9 hSw; go_simp; try with_reducible rfl)); simp only [Act.put, Z2, Z3, Z4]
 refine wpGv (i := 11) (oi := ⟨some 87, _, _, _, _, _⟩) (v := ?_) rfl ?_ ?_; rotate_left; (focus (intro w9 hSw; go_simp; try with_reducible rfl)); simp only [Act.put, Z2, Z3, Z4]
 refine wpGv (i := 12) (oi := ⟨some 88, _, _, _, _, _⟩) (v := ?_) rfl ?_ ?_; rotate_left; (focus (intro w9 hSw; go_simp; try with_reducible rfl)); simp only [Act.put, Z2, Z3, Z4]
 refine wpGv (i := 13) (oi := ⟨some 89, _, _, _, _, _⟩) (v := ?_) rfl ?_ ?_; rotate_left; (focus (intro w9 hSw; go_simp; try with_reducible rfl)); simp only [Act.put, Z2, Z3, Z4]
 refine wpGv (i := 14) (oi := ⟨some 90, _, _, _, _, _⟩) (v := ?_) rfl ?_ ?_; rotate_left; (focus (intro w9 hSw; go_simp; try with_reducible rfl)); simp only [Act.put, Z2, Z3, Z4]
 refine wpGv (i := 15) (oi := ⟨some 91, _, _, _, _, _⟩) (v := ?_) rfl ?_ ?_; rotate_left; (focus (intro w9 hSw; go_simp; try with_reducible rfl)); simp only [Act.put, Z2, Z3, Z4]
 refine wpGv (i := 16) (oi := ⟨some 92, _, _, _, _, _⟩) (v := ?_) rfl ?_ ?_; rotate_left; (focus (intro w9 hSw; go_simp; try with_reducible rfl)); simp only [Act.put, Z2, Z3, Z4]
 refine wpGv (i := 17) (oi := ⟨some 93, _, _, _, _, _⟩) (v := ?_) rfl ?_ ?_; rotate_left; (focus (intro w9 hSw; have q0 := LC16.out w9 hSw; have q1 := LC17.out w9 hSw; go_simp; try with_reducible rfl)); simp only [Act.put, Z2, Z3, Z4]
 refine wpGv (i := 18) (oi := ⟨some 94, _, _, _, _, _⟩) (v := ?_) rfl ?_ ?_; rotate_left; (focus (intro w9 hSw; go_simp; try with_reducible rfl)); simp only [Act.put, Z2, Z3, Z4]
 refine wpGv (i := 19) (oi := ⟨some 95, _, _, _, _, _⟩) (v := ?_) rfl ?_ ?_; rotate_left; (focus (intro w9 hSw; have q0 := RC16.out w9 hSw; have q1 := RC17.out w9 hSw; go_simp; try with_reducible rfl)); simp only [Act.put, Z2, Z3, Z4]
 refine wpGv (i := 20) (oi := ⟨some 96, _, _, _, _, _⟩) (v := (.bool false)) rfl ?_ ?_; (focus (intro w9 hSw; have q0 := QS.out w9; exact exec_neq_at 40 _ _ _ rfl rfl rfl guardStM q0)); simp only [Act.put, Z2, Z3, Z4]
 refine wpGv (i := 21) (oi := ⟨some 97, _, _, _, _, _⟩) (v := ?_) rfl ?_ ?_; rotate_left; (focus (intro w9 hSw; go_simp; try with_reducible rfl)); simp only [Act.put, Z2, Z3, Z4]
 refine wpGv (i := 22) (oi := ⟨some 98, _, _, _, _, _⟩) (v := ?_) rfl ?_ ?_; rotate_left; (focus (intro w9 hSw; go_simp; try with_reducible rfl)); simp only [Act.put, Z2, Z3, Z4]
 refine wpGv (i := 23) (oi := ⟨some 99, _, _, _, _, _⟩) (v := ?_) rfl ?_ ?_; rotate_left; (focus (intro w9 hSw; go_simp; try with_reducible rfl)); simp only [Act.put, Z2, Z3, Z4]
 refine wpGv (i := 24) (oi := ⟨some 100, _, _, _, _, _⟩) (v := ?_) rfl ?_ ?_; rotate_left; (focus (intro w9 hSw; have q0 := LC18.out w9 hSw; go_simp; try with_reducible rfl)); simp only [Act.put, Z2, Z3, Z4]
 refine wpGv (i := 25) (oi := ⟨some 101, _, _, _, _, _⟩) (v := ?_) rfl ?_ ?_; rotate_left; (focus (intro w9 hSw; go_simp; try with_reducible rfl)); simp only [Act.put, Z2, Z3, Z4]
 refine wpGv (i := 26) (oi := ⟨some 102, _, _, _, _, _⟩) (v := ?_) rfl ?_ ?_; rotate_left; (focus (intro w9 hSw; go_simp; try with_reducible rfl)); simp only [Act.put, Z2, Z3, Z4]
 refine wpGv (i := 27) (oi := ⟨some 103, _, _, _, _, _⟩) (v := ?_) rfl ?_ ?_; rotate_left; (focus (intro w9 hSw; have q0 := RC18.out w9 hSw; go_simp; try with_reducible rfl)); simp only [Act.put, Z2, Z3, Z4]
 refine wpGv (i := 28) (oi := ⟨some 104, _, _, _, _, _⟩) (v := ?_) rfl ?_ ?_; rotate_left; (focus (intro w9 hSw; go_simp; try with_reducible rfl)); simp only [Act.put, Z2, Z3, Z4]
 refine wpGv (i := 29) (oi := ⟨some 105, _, _, _, _, _⟩) (v := ?_) rfl ?_ ?_; rotate_left; (focus (intro w9 hSw; go_simp; try with_reducible rfl)); simp only [Act.put, Z2, Z3, Z4]
 refine wpGv (i := 30) (oi := ⟨some 106, _, _, _, _, _⟩) (v := ?_) rfl ?_ ?_; rotate_left; (focus (intro w9 hSw; go_simp; try with_reducible rfl)); simp only [Act.put, Z2, Z3, Z4]
 refine wpGv (i := 31) (oi := ⟨some 107, _, _, _, _, _⟩) (v := ?_) rfl ?_ ?_; rotate_left; (focus (intro w9 hSw; go_simp; try with_reducible rfl)); simp only [Act.put, Z2, Z3, Z4]
 refine wpGv (i := 32) (oi := ⟨some 108, _, _, _, _, _⟩) (v := ?_) rfl ?_ ?_; rotate_left; (focus (intro w9 hSw; go_simp; try with_reducible rfl)); simp only [Act.put, Z2, Z3, Z4]
 refine wpGv (i := 33) (oi := ⟨some 109, _, _, _, _, _⟩) (v := ?_) rfl ?_ ?_; rotate_left; (focus (intro w9 hSw; go_simp; try with_reducible rfl)); simp only [Act.put, Z2, Z3, Z4]
 refine wpGv (i := 34) (oi := ⟨some 110, _, _, _, _, _⟩) (v := ?_) rfl ?_ ?_; rotate_left; (focus (intro w9 hSw; go_simp; try with_reducible rfl)); simp only [Act.put, Z2, Z3, Z4]
 refine wpGo (i := 35) (oi := ⟨some 111, _, _, _, _, _⟩) rfl ?_; simp only [Act.put, Z2, Z3, Z4]
 refine wpGv (i := 36) (oi := ⟨some 112, _, _, _, _, _⟩) (v := ?_) rfl ?_ ?_; rotate_left; (focus (intro w9 hSw; go_simp; try with_reducible rfl)); simp only [Act.put, Z2, Z3, Z4]
 refine wpGv (i := 37) (oi := ⟨some 113, _, _, _, _, _⟩) (v := ?_) rfl ?_ ?_; rotate_left; (focus (intro w9 hSw; go_simp; try with_reducible rfl)); simp only [Act.put, Z2, Z3, Z4]
 refine wpGv (i := 38) (oi := ⟨some 114, _, _, _, _, _⟩) (v := ?_) rfl ?_ ?_; rotate_left; (focus (intro w9 hSw; go_simp; try with_reducible rfl)); simp only [Act.put, Z2, Z3, Z4]
 refine wpG_done (by kernel_rfl) ?_ _
 intro w9 hSw _
 have HS9 := Lib.hid hSw
 have B9 := Lib.hid (HB1.out.trans (hSw.mono HB1.out.size))
 have c3 := EC3.out w9 HS9.out
 have c36 := EC36.out w9 HS9.out
 go_wp2
 go_ret
 exact ⟨rfl, B9.out⟩
set_option maxHeartbeats 16000000 in
theorem mkn_10 (b : Bk) (z : List Int) (no : Int) (RR : Rc) (w : World) (hlaid : Laid w) (wb : BkAt w b) (wz : z.length = 16 ∧ AllBytes z) (p : fewB b.rs = true) (q : bmay b.rs = true) (hh : (bat b.rs z).isSome = true) (hg : (bat b.rs z).getD rc0 = RR) (hc : rfind RR.fs no = none) :
  Calls Tryz.prog 5 #[.agg #[.slice b.A b.xs.length b.c], .agg (bvals z), .int .i64 no] w fun e w' => e = .returned (.bool true) ∧ Below w.heap.size w w' := by
 have HLA := Lib.hid (fun (X : World) (hX : Below w.heap.size w X) => hlaid.below hX (Nat.le_refl _))
 have Fb := Lib.hid wb
 have LZ := Lib.hid wz.1
 have HZ := Lib.hid wz
 have hzm := zeroMn
 rw [show mnA0.v = .agg mnA0.cs.toArray from rfl] at hzm
 have hzne : ¬ mnA0.cs.toArray = #[] := by decide
 have hmof : mofB b.rs = some (mof SH.sum (SH.sum (bbs b.rs)) b.rs) := if_pos q
 have MB := Lib.hid hmof
 have PB := Lib.hid p
 have ZB := Lib.hid (fewB_fs12 p)
 have KNS := Lib.hid (fun (m : MnA) (h : m.m = mof SH.sum (SH.sum (bbs b.rs)) b.rs) => (show True ∧ (∀ l ∈ m.ls, l.es.length ≤ 1000000 ∧ ∀ e ∈ l.es, e.e.bs.length ≤ 1000000) from ⟨trivial, (mof_few h q).1⟩))
 have KNB := Lib.hid (fun (m : MnA) (h : m.m = mof SH.sum (SH.sum (bbs b.rs)) b.rs) => (show m.base = SH.sum (bbs b.rs) ∧ mmay m.m = true from ⟨congrArg Mn.base h, by rw [h]; exact mof_may _ _ _ q⟩))
 have HBG := Lib.hid hg
 have HCF := Lib.hid hc
 have KNL := Lib.hid (fun (m : MnA) (h : m.m = mof SH.sum (SH.sum (bbs b.rs)) b.rs) (x : LnA) (hx : x.x = ((lineA m.ls z).getD lnA0).x) => knows_line h hg hx)
 have hzl := zeroLn
 rw [show KLn.v lnA0 = .agg (KLn.cs lnA0).toArray from rfl] at hzl
 have hze := zeroEn
 rw [show KEn.v enA0 = .agg (KEn.cs enA0).toArray from rfl] at hze
 have hz := zeroX
 have hzc := zeroCel
 rw [show cel00.v = .agg #[.int .i64 0, .int .i64 0, .string ⟨#[]⟩] from rfl] at hzc
 have hzne2 : ¬ (KEn.cs enA0).toArray = #[] := by decide
 have hzne3 : ¬ (KLn.cs lnA0).toArray = #[] := by decide
 have HBS := Lib.hid hh
 obtain ⟨cn, hcn⟩ : ∃ c : Int, 0 = c := ⟨_, rfl⟩
 obtain ⟨cr, hcr⟩ : ∃ c : Int, 0 = c := ⟨_, rfl⟩
 obtain ⟨cs, hcs⟩ : ∃ c : ByteArray, ⟨#[]⟩ = c := ⟨_, rfl⟩
 have HC0 := Lib.hid (show cel00 = ⟨cn, cr, cs⟩ from by rw [← hcn, ← hcr, ← hcs]; rfl)
 clear hcn hcr hcs
 have KNE := Lib.hid (fun (m : MnA) (h : m.m = mof SH.sum (SH.sum (bbs b.rs)) b.rs) (u : EnA) (hu : u.e = ((findA m.ls z no).getD enA0).e) => (show u.e.len = 0 ∧ u.e.bs.length = 0 from by rw [knows_none h hg hc] at hu; have h3 : u.e = enA0.e := hu; rw [h3]; exact ⟨rfl, rfl⟩))
 have KNI := Lib.hid (fun (m : MnA) (h : m.m = mof SH.sum (SH.sum (bbs b.rs)) b.rs) => (show (lineA m.ls z).isSome = true ∧ (findA m.ls z no).isSome = false from ⟨(knows_is h).trans hh, by rw [knows_none h hg hc]; rfl⟩))
 clear hlaid wb wz p q hh hg hc hmof
 have B1 := Lib.hid (Below.refl w.heap.size w)
 have T2n := BoAt.new w (.slice b.A b.xs.length b.c)
 have T2 := Lib.hid T2n
 clear T2n
 have B3 := Lib.hid (B1.out.alloc B1.out.size (.cells #[(.slice b.A b.xs.length b.c)] 24))
 have T4 := Lib.hid (T2.out.old (.cells (bvals z) 38))
 have T5n := RowAt.new (w.alloc (.cells #[(.slice b.A b.xs.length b.c)] 24)) (bvals z) 38
 simp only [World.size_alloc] at T5n
 have T5 := Lib.hid T5n
 clear T5n
 have B6 := Lib.hid (B3.out.alloc B3.out.size (.cells (bvals z) 38))
 have F7 := Lib.hid (Fb.out.below B6.out (Nat.le_refl _))
 go_enter Tryz.func5, Tryz.ntmps5
 have C8 := Lib.hid (mnAwake ((w.alloc (.cells #[(.slice b.A b.xs.length b.c)] 24)).alloc (.cells (bvals z) 38)) (HLA.out _ B6.out))
 go_wp2_with fail
 refine C8.out.mono ?_
 rintro e w9 ⟨rfl, hb10⟩
 have T11 := Lib.hid (T4.out.below hb10 T4.out.lt)
 have T12 := Lib.hid (T5.out.below hb10 T5.out.lt)
 have F13 := Lib.hid (F7.out.below hb10 (Nat.le_refl _))
 have B14 := Lib.hid (B6.out.trans (hb10.mono B6.out.size))
 clear hb10
 have M15 := Lib.hid (T11.out.load)
 have C16 := Lib.hid (fewB_any b w9 F13.out)
 rw [PB.out] at C16
 go_wp2_with (first | ((with_reducible refine wpList_load_by (o := ⟨some 21, .load 24 (.tmp 3), _, _, _, _⟩) ?e1 24 (.tmp 3) ?e2 ⟨w.heap.size, 0, none⟩ ?e3 _ M15.out ?_); (case e1 => rfl); (case e2 => rfl); (case e3 => rfl)))
 refine C16.out.mono ?_
 rintro e w17 ⟨rfl, hb18⟩
 have T19 := Lib.hid (T11.out.below hb18 T11.out.lt)
 have T20 := Lib.hid (T12.out.below hb18 T12.out.lt)
 have F21 := Lib.hid (F13.out.below hb18 (Nat.le_refl _))
 have B22 := Lib.hid (B14.out.trans (hb18.mono B14.out.size))
 clear hb18
 have M26 := Lib.hid (T19.out.load)
 have C27 := Lib.hid (pof12_any b w17 (HLA.out _ B22.out) F21.out)
 unfold MofPost at C27
 rw [MB.out] at C27
 go_wp2_with (first | ((with_reducible refine wpList_load_by (o := ⟨some 24, .load 24 (.tmp 3), _, _, _, _⟩) ?e1 24 (.tmp 3) ?e2 ⟨w.heap.size, 0, none⟩ ?e3 _ M26.out ?_); (case e1 => rfl); (case e2 => rfl); (case e3 => rfl)))
 refine C27.out.mono ?_
 rintro e w28 ⟨d23, rfl, hd24, hk25, hb29⟩
 have T30 := Lib.hid (T19.out.below hb29 T19.out.lt)
 have T31 := Lib.hid (T20.out.below hb29 T20.out.lt)
 have F32 := Lib.hid (F21.out.below hb29 (Nat.le_refl _))
 have B33 := Lib.hid (B22.out.trans (hb29.mono B22.out.size))
 clear hb29
 have E34 := Lib.hid (hd24)
 have F35 := Lib.hid (hk25)
 clear hd24 hk25
 have SZ35 := Lib.hid (mn_size F35.out)
 have SQ35 := Lib.hid (show mnA0.cs.toArray.size = d23.cs.toArray.size by rw [mnA0_size, List.size_toArray]; exact (MnA.len F35.out).symm)
 have SO35 := Lib.hid (mn_ones d23)
 have L37 := Lib.hid (MnA.len F35.out)
 have hb38 := (Below.refl w28.heap.size w28).alloc (Nat.le_refl _) (.cells d23.cs.toArray 29)
 have T39 := Lib.hid (RowAt.new w28 d23.cs.toArray 29)
 have T40 := Lib.hid (T30.out.below hb38 T30.out.lt)
 have T41 := Lib.hid (T31.out.below hb38 T31.out.lt)
 have F42 := Lib.hid (F32.out.below hb38 (Nat.le_refl _))
 have F43 := Lib.hid (F35.out.below hb38 (Nat.le_refl _))
 have B44 := Lib.hid (B33.out.trans (hb38.mono B33.out.size))
 clear hb38
 have M48 := Lib.hid (T41.out.id LZ.out)
 have M49 := Lib.hid (T40.out.load)
 have C50 := Lib.hid ((show Calls Tryz.prog 27 #[.agg #[.slice b.A b.xs.length b.c], .agg (bvals z)] (w28.alloc (.cells d23.cs.toArray 29)) (BFindPost (w28.alloc (.cells d23.cs.toArray 29)) (bat b.rs z)) from bfind_any b z (w28.alloc (.cells d23.cs.toArray 29)) F42.out HZ.out.1 HZ.out.2 ZB.out.2))
 unfold BFindPost at C50
 rw [HBS.out, HBG.out] at C50
 go_wp2_with (first | ((with_reducible refine wpList_load_at (o := ⟨some 53, .load 38 (.tmp 4), _, _, _, _⟩) ?e1 38 (.tmp 4) ?e2 ⟨(w.heap.size + 1), 0, none⟩ ?e3 _ M48.out ?_); (case e1 => rfl); (case e2 => rfl); (case e3 => rfl)) | ((with_reducible refine wpList_load_by (o := ⟨some 52, .load 24 (.tmp 3), _, _, _, _⟩) ?e1 24 (.tmp 3) ?e2 ⟨w.heap.size, 0, none⟩ ?e3 _ M49.out ?_); (case e1 => rfl); (case e2 => rfl); (case e3 => rfl)) | ((with_reducible refine wpList_store_new (o := ⟨none, .store 29 (.tmp 9) (.tmp 26), _, _, _, _⟩) ?e1 29 (.tmp 9) (.tmp 26) ?e2 ?e3 mnA0.cs.toArray d23.cs.toArray ?e4 SZ35.out SQ35.out SO35.out ?_); (case e1 => rfl); (case e2 => rfl); (case e3 => (first | rfl | exact congrArg (fun q => Value.pointer (some ⟨q, 0, none⟩)) (World.size_alloc _ _).symm)); (case e4 => rfl)))
 refine C50.out.mono ?_
 rintro e w51 ⟨y45, rfl, hd46, hk47, hb52⟩
 have T53 := Lib.hid (T40.out.below hb52 T40.out.lt)
 have T54 := Lib.hid (T41.out.below hb52 T41.out.lt)
 have T55 := Lib.hid (T39.out.below hb52 T39.out.lt)
 have F56 := Lib.hid (F42.out.below hb52 (Nat.le_refl _))
 have F57 := Lib.hid (F43.out.below hb52 (Nat.le_refl _))
 have B58 := Lib.hid (B44.out.trans (hb52.mono B44.out.size))
 clear hb52
 have E59 := Lib.hid (hd46)
 have F60 := Lib.hid (hk47)
 have Z61 := Lib.hid (hk47.len)
 clear hd46 hk47
 go_wp2_with (first | ((with_reducible refine wpList_store_newx (o := ⟨none, .store 58 (.tmp 11) (.tmp 55), _, _, _, _⟩) (w := w51) ?e1 (.tmp 11) (.tmp 55) ?e2 w51.heap.size ?e0 ?e3 y45 ?e4 Z61.out ?_); (case e1 => rfl); (case e2 => rfl); (case e0 => rfl); (case e3 => rfl); (case e4 => rfl); intro w62 hb63 hx64 hs65; have T66 := Lib.hid hx64; clear hx64 hs65; have T67 := Lib.hid (T53.out.below hb63 T53.out.lt); have T68 := Lib.hid (T54.out.below hb63 T54.out.lt); have T69 := Lib.hid (T55.out.below hb63 T55.out.lt); have F70 := Lib.hid (F56.out.below hb63 (Nat.le_refl _)); have F71 := Lib.hid (F57.out.below hb63 (Nat.le_refl _)); have F72 := Lib.hid (F60.out.below hb63 (Nat.le_refl _)); have B73 := Lib.hid (B58.out.trans (hb63.mono B58.out.size)); clear hb63; have M74 := Lib.hid (T66.out.load); have C75 := Lib.hid ((show Calls Tryz.prog 28 #[.agg y45.cells, .int .i64 no] w62 (fun e w' => e = .returned (.tuple #[.agg #[.int .i64 cn, .int .i64 cr, .string cs], .bool false]) ∧ Below (w62).heap.size w62 w') from by have h := xfind_any y45 no w62 F72.out; rw [E59.out, HCF.out] at h; rw [show (none : Option Cel).getD cel00 = ⟨cn, cr, cs⟩ from HC0.out] at h; exact h))) | ((with_reducible refine wpList_load_by (o := ⟨some 58, .load 58 (.tmp 11), _, _, _, _⟩) ?e1 58 (.tmp 11) ?e2 ⟨w51.heap.size, 0, none⟩ ?e3 _ M74.out ?_); (case e1 => rfl); (case e2 => rfl); (case e3 => rfl)))
 refine C75.out.mono ?_
 rintro e w76 ⟨rfl, hb77⟩
 have T78 := Lib.hid (T67.out.below hb77 T67.out.lt)
 have T79 := Lib.hid (T68.out.below hb77 T68.out.lt)
 have T80 := Lib.hid (T69.out.below hb77 T69.out.lt)
 have T81 := Lib.hid (T66.out.below hb77 T66.out.lt)
 have F82 := Lib.hid (F70.out.below hb77 (Nat.le_refl _))
 have F83 := Lib.hid (F71.out.below hb77 (Nat.le_refl _))
 have F84 := Lib.hid (F72.out.below hb77 (Nat.le_refl _))
 have B85 := Lib.hid (B73.out.trans (hb77.mono B73.out.size))
 clear hb77
 have hb86 := (Below.refl w76.heap.size w76).alloc (Nat.le_refl _) (.cells #[.int .i64 cn, .int .i64 cr, .string cs] 62)
 have T87 := Lib.hid (ClAt.new w76 ⟨cn, cr, cs⟩)
 have T88 := Lib.hid (T78.out.below hb86 T78.out.lt)
 have T89 := Lib.hid (T79.out.below hb86 T79.out.lt)
 have T90 := Lib.hid (T80.out.below hb86 T80.out.lt)
 have T91 := Lib.hid (T81.out.below hb86 T81.out.lt)
 have F92 := Lib.hid (F82.out.below hb86 (Nat.le_refl _))
 have F93 := Lib.hid (F83.out.below hb86 (Nat.le_refl _))
 have F94 := Lib.hid (F84.out.below hb86 (Nat.le_refl _))
 have B95 := Lib.hid (B85.out.trans (hb86.mono B85.out.size))
 clear hb86
 have K96 := Lib.hid ((KNI.out d23 E34.out).1)
 have K97 := Lib.hid ((KNI.out d23 E34.out).2)
 have M101 := Lib.hid (T90.out.mn L37.out)
 have M102 := Lib.hid (T89.out.id LZ.out)
 have C103 := Lib.hid ((show Calls Tryz.prog 18 #[.agg d23.cs.toArray, .agg (bvals z)] (w76.alloc (.cells #[.int .i64 cn, .int .i64 cr, .string cs] 62)) (LineN (w76.alloc (.cells #[.int .i64 cn, .int .i64 cr, .string cs] 62)) (lineA d23.ls z)) from pline12_any d23 z (w76.alloc (.cells #[.int .i64 cn, .int .i64 cr, .string cs] 62)) F93.out HZ.out (KNS.out d23 E34.out).2))
 unfold LineN at C103
 rw [K96.out] at C103
 go_wp2_with (first | ((with_reducible refine wpList_load_at (o := ⟨some 64, .load 29 (.tmp 9), _, _, _, _⟩) ?e1 29 (.tmp 9) ?e2 ⟨w28.heap.size, 0, none⟩ ?e3 _ M101.out ?_); (case e1 => rfl); (case e2 => rfl); (case e3 => rfl)) | ((with_reducible refine wpList_load_at (o := ⟨some 65, .load 38 (.tmp 4), _, _, _, _⟩) ?e1 38 (.tmp 4) ?e2 ⟨(w.heap.size + 1), 0, none⟩ ?e3 _ M102.out ?_); (case e1 => rfl); (case e2 => rfl); (case e3 => rfl)))
 refine C103.out.mono ?_
 rintro e w104 ⟨d98, rfl, hd99, hk100, hb105⟩
 have T106 := Lib.hid (T88.out.below hb105 T88.out.lt)
 have T107 := Lib.hid (T89.out.below hb105 T89.out.lt)
 have T108 := Lib.hid (T90.out.below hb105 T90.out.lt)
 have T109 := Lib.hid (T91.out.below hb105 T91.out.lt)
 have T110 := Lib.hid (T87.out.below hb105 T87.out.lt)
 have F111 := Lib.hid (F92.out.below hb105 (Nat.le_refl _))
 have F112 := Lib.hid (F93.out.below hb105 (Nat.le_refl _))
 have F113 := Lib.hid (F94.out.below hb105 (Nat.le_refl _))
 have B114 := Lib.hid (B95.out.trans (hb105.mono B95.out.size))
 clear hb105
 have E115 := Lib.hid (hd99)
 have F116 := Lib.hid (hk100)
 clear hd99 hk100
 have SZ116 := Lib.hid (ln_size F116.out)
 have SQ116 := Lib.hid (show (KLn.cs lnA0).toArray.size = (KLn.cs d98).toArray.size by rw [lnA0_size, List.size_toArray]; exact (LnA.len F116.out).symm)
 have SO116 := Lib.hid (ln_ones d98)
 have L118 := Lib.hid (LnA.len F116.out)
 have hb119 := (Below.refl w104.heap.size w104).alloc (Nat.le_refl _) (.cells (KLn.cs d98).toArray 43)
 have T120 := Lib.hid (RowAt.new w104 (KLn.cs d98).toArray 43)
 have T121 := Lib.hid (T106.out.below hb119 T106.out.lt)
 have T122 := Lib.hid (T107.out.below hb119 T107.out.lt)
 have T123 := Lib.hid (T108.out.below hb119 T108.out.lt)
 have T124 := Lib.hid (T109.out.below hb119 T109.out.lt)
 have T125 := Lib.hid (T110.out.below hb119 T110.out.lt)
 have F126 := Lib.hid (F111.out.below hb119 (Nat.le_refl _))
 have F127 := Lib.hid (F112.out.below hb119 (Nat.le_refl _))
 have F128 := Lib.hid (F113.out.below hb119 (Nat.le_refl _))
 have F129 := Lib.hid (F116.out.below hb119 (Nat.le_refl _))
 have B130 := Lib.hid (B114.out.trans (hb119.mono B114.out.size))
 clear hb119
 have M134 := Lib.hid (T123.out.mn L37.out)
 have M135 := Lib.hid (T122.out.id LZ.out)
 have C136 := Lib.hid ((show Calls Tryz.prog 20 #[.agg d23.cs.toArray, .agg (bvals z), .int .i64 no] (w104.alloc (.cells (KLn.cs d98).toArray 43)) (FindN (w104.alloc (.cells (KLn.cs d98).toArray 43)) (findA d23.ls z no)) from pfind12_any d23 z no (w104.alloc (.cells (KLn.cs d98).toArray 43)) F127.out HZ.out (KNS.out d23 E34.out).2))
 unfold FindN at C136
 rw [K97.out] at C136
 go_wp2_with (first | ((with_reducible refine wpList_load_at (o := ⟨some 70, .load 29 (.tmp 9), _, _, _, _⟩) ?e1 29 (.tmp 9) ?e2 ⟨w28.heap.size, 0, none⟩ ?e3 _ M134.out ?_); (case e1 => rfl); (case e2 => rfl); (case e3 => rfl)) | ((with_reducible refine wpList_load_at (o := ⟨some 71, .load 38 (.tmp 4), _, _, _, _⟩) ?e1 38 (.tmp 4) ?e2 ⟨(w.heap.size + 1), 0, none⟩ ?e3 _ M135.out ?_); (case e1 => rfl); (case e2 => rfl); (case e3 => rfl)) | ((with_reducible refine wpList_store_new (o := ⟨none, .store 43 (.tmp 15) (.tmp 67), _, _, _, _⟩) ?e1 43 (.tmp 15) (.tmp 67) ?e2 ?e3 (KLn.cs lnA0).toArray (KLn.cs d98).toArray ?e4 SZ116.out SQ116.out SO116.out ?_); (case e1 => rfl); (case e2 => rfl); (case e3 => (first | rfl | exact congrArg (fun q => Value.pointer (some ⟨q, 0, none⟩)) (World.size_alloc _ _).symm)); (case e4 => rfl)))
 refine C136.out.mono ?_
 rintro e w137 ⟨d131, rfl, hd132, hk133, hb138⟩
 have T139 := Lib.hid (T121.out.below hb138 T121.out.lt)
 have T140 := Lib.hid (T122.out.below hb138 T122.out.lt)
 have T141 := Lib.hid (T123.out.below hb138 T123.out.lt)
 have T142 := Lib.hid (T124.out.below hb138 T124.out.lt)
 have T143 := Lib.hid (T125.out.below hb138 T125.out.lt)
 have T144 := Lib.hid (T120.out.below hb138 T120.out.lt)
 have F145 := Lib.hid (F126.out.below hb138 (Nat.le_refl _))
 have F146 := Lib.hid (F127.out.below hb138 (Nat.le_refl _))
 have F147 := Lib.hid (F128.out.below hb138 (Nat.le_refl _))
 have F148 := Lib.hid (F129.out.below hb138 (Nat.le_refl _))
 have B149 := Lib.hid (B130.out.trans (hb138.mono B130.out.size))
 clear hb138
 have E150 := Lib.hid (hd132)
 have F151 := Lib.hid (hk133)
 clear hd132 hk133
 have SZ151 := Lib.hid (en_size F151.out)
 have SQ151 := Lib.hid (show (KEn.cs enA0).toArray.size = (KEn.cs d131).toArray.size by rw [enA0_size, List.size_toArray]; exact (EnA.len F151.out).symm)
 have SO151 := Lib.hid (en_ones d131)
 have L153 := Lib.hid (EnA.len F151.out)
 have hb154 := (Below.refl w137.heap.size w137).alloc (Nat.le_refl _) (.cells (KEn.cs d131).toArray 48)
 have T155 := Lib.hid (RowAt.new w137 (KEn.cs d131).toArray 48)
 have T156 := Lib.hid (T139.out.below hb154 T139.out.lt)
 have T157 := Lib.hid (T140.out.below hb154 T140.out.lt)
 have T158 := Lib.hid (T141.out.below hb154 T141.out.lt)
 have T159 := Lib.hid (T142.out.below hb154 T142.out.lt)
 have T160 := Lib.hid (T143.out.below hb154 T143.out.lt)
 have T161 := Lib.hid (T144.out.below hb154 T144.out.lt)
 have F162 := Lib.hid (F145.out.below hb154 (Nat.le_refl _))
 have F163 := Lib.hid (F146.out.below hb154 (Nat.le_refl _))
 have F164 := Lib.hid (F147.out.below hb154 (Nat.le_refl _))
 have F165 := Lib.hid (F148.out.below hb154 (Nat.le_refl _))
 have F166 := Lib.hid (F151.out.below hb154 (Nat.le_refl _))
 have B167 := Lib.hid (B149.out.trans (hb154.mono B149.out.size))
 clear hb154
 have T3' := Lib.hid T156.out
 have T9' := Lib.hid T158.out
 have T11' := Lib.hid T159.out
 have T13' := Lib.hid T160.out
 have T15' := Lib.hid T161.out
 have T17' := Lib.hid T155.out
 have HB1 := Lib.hid B167.out
 have OX := Lib.hid F165.out
 have OU := Lib.hid F166.out
 have OM := Lib.hid F163.out
 have OB := Lib.hid F162.out
 obtain ⟨gn, gr, gf⟩ := KNL.out d23 E34.out d98 E115.out
 have LC16 := Lib.hid (fun (X : World) (hX : Below ((w137.alloc (.cells (KEn.cs d131).toArray 48))).heap.size (w137.alloc (.cells (KEn.cs d131).toArray 48)) X) => (show X.cell? ⟨w104.heap.size, 16, none⟩ = some (.int .i64 RR.n) from by have h := ln_c16 (Kind.at_blk (K := KLn) (x := d98) (T15'.out.below hX T15'.out.lt)) OX.out.1; (try simp only [Nat.zero_add] at h); rw [gn] at h; exact h))
 have LC17 := Lib.hid (fun (X : World) (hX : Below ((w137.alloc (.cells (KEn.cs d131).toArray 48))).heap.size (w137.alloc (.cells (KEn.cs d131).toArray 48)) X) => (show X.cell? ⟨w104.heap.size, 17, none⟩ = some (.int .i64 RR.r) from by have h := ln_c17 (Kind.at_blk (K := KLn) (x := d98) (T15'.out.below hX T15'.out.lt)) OX.out.1; (try simp only [Nat.zero_add] at h); rw [gr] at h; exact h))
 have LC18 := Lib.hid (fun (X : World) (hX : Below ((w137.alloc (.cells (KEn.cs d131).toArray 48))).heap.size (w137.alloc (.cells (KEn.cs d131).toArray 48)) X) => (show X.cell? ⟨w104.heap.size, 18, none⟩ = some (.slice d98.A RR.fs.length d98.c) from by have h := ln_c18 (Kind.at_blk (K := KLn) (x := d98) (T15'.out.below hX T15'.out.lt)) OX.out.1; (try simp only [Nat.zero_add] at h); rw [gf] at h; exact h))
 have RC16 := Lib.hid (fun (X : World) (hX : Below ((w137.alloc (.cells (KEn.cs d131).toArray 48))).heap.size (w137.alloc (.cells (KEn.cs d131).toArray 48)) X) => (show X.cell? ⟨w51.heap.size, 16, none⟩ = some (.int .i64 RR.n) from by have h := (T11'.out.below hX T11'.out.lt).c16; (try simp only [Nat.zero_add] at h); rw [E59.out] at h; exact h))
 have RC17 := Lib.hid (fun (X : World) (hX : Below ((w137.alloc (.cells (KEn.cs d131).toArray 48))).heap.size (w137.alloc (.cells (KEn.cs d131).toArray 48)) X) => (show X.cell? ⟨w51.heap.size, 17, none⟩ = some (.int .i64 RR.r) from by have h := (T11'.out.below hX T11'.out.lt).c17; (try simp only [Nat.zero_add] at h); rw [E59.out] at h; exact h))
 have RC18 := Lib.hid (fun (X : World) (hX : Below ((w137.alloc (.cells (KEn.cs d131).toArray 48))).heap.size (w137.alloc (.cells (KEn.cs d131).toArray 48)) X) => (show X.cell? ⟨w51.heap.size, 18, none⟩ = some (.slice y45.A RR.fs.length y45.c) from by have h := (T11'.out.below hX T11'.out.lt).c18; (try simp only [Nat.zero_add] at h); rw [E59.out] at h; exact h))
 have LBS := Lib.hid (fun (X : World) (hX : Below ((w137.alloc (.cells (KEn.cs d131).toArray 48))).heap.size (w137.alloc (.cells (KEn.cs d131).toArray 48)) X) => (show (loadVar 26 ⟨w28.heap.size, 0, none⟩).run Tryz.prog X = .ok (.agg (bvals (SH.sum (bbs b.rs)))) X from by have h := load_dig (MnAt.dig (show MnAt X w28.heap.size d23 from T9'.out.below hX T9'.out.lt) OM.out.1) OM.out.1; rw [(KNB.out d23 E34.out).1] at h; exact h))
 have LBK := Lib.hid (fun (X : World) (hX : Below ((w137.alloc (.cells (KEn.cs d131).toArray 48))).heap.size (w137.alloc (.cells (KEn.cs d131).toArray 48)) X) => (T3'.out.below hX T3'.out.lt).load)
 have LMN := Lib.hid (fun (X : World) (hX : Below ((w137.alloc (.cells (KEn.cs d131).toArray 48))).heap.size (w137.alloc (.cells (KEn.cs d131).toArray 48)) X) => RowAt.mn (T9'.out.below hX T9'.out.lt) (MnA.len OM.out))
 have CMY := Lib.hid (fun (X : World) (hX : Below ((w137.alloc (.cells (KEn.cs d131).toArray 48))).heap.size (w137.alloc (.cells (KEn.cs d131).toArray 48)) X) => (show Calls Tryz.prog 16 #[.agg d23.cs.toArray] X fun e w' => e = .returned (.bool true) ∧ Below X.heap.size X w' from by have h := pmay12_any d23 X (OM.out.below hX (Nat.le_refl _)); rw [(KNB.out d23 E34.out).2] at h; exact h))
 have CDG := Lib.hid (fun (X : World) (hX : Below ((w137.alloc (.cells (KEn.cs d131).toArray 48))).heap.size (w137.alloc (.cells (KEn.cs d131).toArray 48)) X) => (show Calls Tryz.prog 29 #[.agg #[.slice b.A b.xs.length b.c]] X fun e w' => e = .returned (.agg (bvals (SH.sum (bbs b.rs)))) ∧ Below X.heap.size X w' from digest_any b X (HLA.out _ (HB1.out.trans (hX.mono HB1.out.size))) (OB.out.below hX (Nat.le_refl _))))
 obtain ⟨el', eb'⟩ := KNE.out d23 E34.out d131 E150.out
 have EC3 := Lib.hid (fun (X : World) (hX : Below ((w137.alloc (.cells (KEn.cs d131).toArray 48))).heap.size (w137.alloc (.cells (KEn.cs d131).toArray 48)) X) => (show X.cell? ⟨w137.heap.size, 3, none⟩ = some (.int .i64 0) from by have h := en_c3 (Kind.at_blk (K := KEn) (x := d131) (T17'.out.below hX T17'.out.lt)); (try simp only [Nat.zero_add] at h); rw [el'] at h; exact h))
 have EC36 := Lib.hid (fun (X : World) (hX : Below ((w137.alloc (.cells (KEn.cs d131).toArray 48))).heap.size (w137.alloc (.cells (KEn.cs d131).toArray 48)) X) => (show X.cell? ⟨w137.heap.size, 36, none⟩ = some (.slice d131.A 0 d131.c) from by have h := en_c36 (Kind.at_blk (K := KEn) (x := d131) (T17'.out.below hX T17'.out.lt)) OU.out.2.2.2.2.1; (try simp only [Nat.zero_add] at h); rw [eb'] at h; exact h))
 clear el' eb'
 clear gn gr gf
 go_wp2_with (((with_reducible refine wpList_store_new (o := ⟨none, .store 48 (.tmp 17) (.tmp 74), _, _, _, _⟩) ?e1 48 (.tmp 17) (.tmp 74) ?e2 ?e3 (KEn.cs enA0).toArray (KEn.cs d131).toArray ?e4 SZ151.out SQ151.out SO151.out ?_); (case e1 => rfl); (case e2 => rfl); (case e3 => (first | rfl | exact congrArg (fun q => Value.pointer (some ⟨q, 0, none⟩)) (World.size_alloc _ _).symm)); (case e4 => rfl)))
 generalize ((w137.alloc (.cells (KEn.cs d131).toArray 48))) = w1 at *
 have QB := Lib.hid (fun X : World => show (Op.equalIn 10000 26 (.agg (bvals (SH.sum (bbs b.rs)))) (.agg (bvals (SH.sum (bbs b.rs))))).run Tryz.prog X = .ok true X from by have h := eq_dig (SH.sum_bytes (bbs b.rs)) (SH.sum_bytes (bbs b.rs)) (SH.sum_len _) (SH.sum_len _) X; rw [beq_self_eq_true] at h; exact h)
 have QS := Lib.hid (fun X : World => show (Op.equalIn 10000 40 (.agg #[.int .i64 RR.n, .int .i64 RR.r]) (.agg #[.int .i64 RR.n, .int .i64 RR.r])).run Tryz.prog X = .ok true X from by have h := eq_st (n := RR.n) (r := RR.r) (m := RR.n) (s := RR.r) X; rw [decide_eq_true (And.intro rfl rfl)] at h; exact h)
 refine wp_region_G _ (by kernel_rfl) ?_
 refine wpGv (i := 0) (oi := ⟨some 76, _, _, _, _, _⟩) (v := (.agg d23.cs.toArray)) rfl ?_ ?_; (focus (intro w9 hSw; exact exec_load_at 29 _ rfl _ rfl (LMN.out w9 hSw))); simp only [Act.put, Z2, Z3, Z4]
 refine wpG_take (i := 1) (oi := ⟨some 77, _, _, _, _, _⟩) rfl (by kernel_rfl) (by kernel_rfl) (by kernel_rfl) (Or.inl ⟨by rfl, unib_call_if ?_ CMY.out⟩) ?_; (focus (intro w9 hSw; go_simp; try with_reducible rfl)); simp only [Act.put, Z2, Z3, Z4]
 refine wpGv (i := 2) (oi := ⟨some 78, _, _, _, _, _⟩) (v := ?_) rfl ?_ ?_; rotate_left; (focus (intro w9 hSw; go_simp; try with_reducible rfl)); simp only [Act.put, Z2, Z3, Z4]
 refine wpGv (i := 3) (oi := ⟨some 79, _, _, _, _, _⟩) (v := ?_) rfl ?_ ?_; rotate_left; (focus (intro w9 hSw; go_simp; try with_reducible rfl)); simp only [Act.put, Z2, Z3, Z4]
 refine wpGv (i := 4) (oi := ⟨some 80, _, _, _, _, _⟩) (v := ?_) rfl ?_ ?_; rotate_left; (focus (intro w9 hSw; go_simp; try with_reducible rfl)); simp only [Act.put, Z2, Z3, Z4]
 refine wpGv (i := 5) (oi := ⟨some 81, _, _, _, _, _⟩) (v := (.agg (bvals (SH.sum (bbs b.rs))))) rfl ?_ ?_; (focus (intro w9 hSw; exact exec_load_at 26 _ rfl _ rfl (LBS.out w9 hSw))); simp only [Act.put, Z2, Z3, Z4]
 refine wpGv (i := 6) (oi := ⟨some 82, _, _, _, _, _⟩) (v := (.agg #[.slice b.A b.xs.length b.c])) rfl ?_ ?_; (focus (intro w9 hSw; exact exec_load_by 24 _ rfl ⟨w.heap.size, 0, none⟩ rfl (LBK.out w9 hSw))); simp only [Act.put, Z2, Z3, Z4]
 refine wpG_take (i := 7) (oi := ⟨some 83, _, _, _, _, _⟩) rfl (by kernel_rfl) (by kernel_rfl) (by kernel_rfl) (Or.inl ⟨by rfl, unib_call_if ?_ CDG.out⟩) ?_; (focus (intro w9 hSw; go_simp; try with_reducible rfl)); simp only [Act.put, Z2, Z3, Z4]
 refine wpGv (i := 8) (oi := ⟨some 84, _, _, _, _, _⟩) (v := (.bool false)) rfl ?_ ?_; (focus (intro w9 hSw; have q0 := QB.out w9; exact exec_neq_at 26 _ _ _ rfl rfl rfl guardDig q0)); simp only [Act.put, Z2, Z3, Z4]
 refine wpGv (i := 9) (oi := ⟨some 85, _, _, _, _, _⟩) (v := ?_) rfl ?_ ?_; rotate_left; (focus (intro w9 hSw; go_simp; try with_reducible rfl)); simp only [Act.put, Z2, Z3, Z4]
 refine wpGv (i := 10) (oi := ⟨some 86, _, _, _, _, _⟩) (v := ?_) rfl ?_ ?_; rotate_left; (focus (intro w9 hSw; go_simp; try with_reducible rfl)); simp only [Act.put, Z2, Z3, Z4]
 refine wpGv (i := 11) (oi := ⟨some 87, _, _, _, _, _⟩) (v := ?_) rfl ?_ ?_; rotate_left; (focus (intro w9 hSw; go_simp; try with_reducible rfl)); simp only [Act.put, Z2, Z3, Z4]
 refine wpGv (i := 12) (oi := ⟨some 88, _, _, _, _, _⟩) (v := ?_) rfl ?_ ?_; rotate_left; (focus (intro w9 hSw; go_simp; try with_reducible rfl)); simp only [Act.put, Z2, Z3, Z4]
 refine wpGv (i := 13) (oi := ⟨some 89, _, _, _, _, _⟩) (v := ?_) rfl ?_ ?_; rotate_left; (focus (intro w9 hSw; go_simp; try with_reducible rfl)); simp only [Act.put, Z2, Z3, Z4]
 refine wpGv (i := 14) (oi := ⟨some 90, _, _, _, _, _⟩) (v := ?_) rfl ?_ ?_; rotate_left; (focus (intro w9 hSw; go_simp; try with_reducible rfl)); simp only [Act.put, Z2, Z3, Z4]
 refine wpGv (i := 15) (oi := ⟨some 91, _, _, _, _, _⟩) (v := ?_) rfl ?_ ?_; rotate_left; (focus (intro w9 hSw; go_simp; try with_reducible rfl)); simp only [Act.put, Z2, Z3, Z4]
 refine wpGv (i := 16) (oi := ⟨some 92, _, _, _, _, _⟩) (v := ?_) rfl ?_ ?_; rotate_left; (focus (intro w9 hSw; go_simp; try with_reducible rfl)); simp only [Act.put, Z2, Z3, Z4]
 refine wpGv (i := 17) (oi := ⟨some 93, _, _, _, _, _⟩) (v := ?_) rfl ?_ ?_; rotate_left; (focus (intro w9 hSw; have q0 := LC16.out w9 hSw; have q1 := LC17.out w9 hSw; go_simp; try with_reducible rfl)); simp only [Act.put, Z2, Z3, Z4]
 refine wpGv (i := 18) (oi := ⟨some 94, _, _, _, _, _⟩) (v := ?_) rfl ?_ ?_; rotate_left; (focus (intro w9 hSw; go_simp; try with_reducible rfl)); simp only [Act.put, Z2, Z3, Z4]
 refine wpGv (i := 19) (oi := ⟨some 95, _, _, _, _, _⟩) (v := ?_) rfl ?_ ?_; rotate_left; (focus (intro w9 hSw; have q0 := RC16.out w9 hSw; have q1 := RC17.out w9 hSw; go_simp; try with_reducible rfl)); simp only [Act.put, Z2, Z3, Z4]
 refine wpGv (i := 20) (oi := ⟨some 96, _, _, _, _, _⟩) (v := (.bool false)) rfl ?_ ?_; (focus (intro w9 hSw; have q0 := QS.out w9; exact exec_neq_at 40 _ _ _ rfl rfl rfl guardStM q0)); simp only [Act.put, Z2, Z3, Z4]
 refine wpGv (i := 21) (oi := ⟨some 97, _, _, _, _, _⟩) (v := ?_) rfl ?_ ?_; rotate_left; (focus (intro w9 hSw; go_simp; try with_reducible rfl)); simp only [Act.put, Z2, Z3, Z4]
 refine wpGv (i := 22) (oi := ⟨some 98, _, _, _, _, _⟩) (v := ?_) rfl ?_ ?_; rotate_left; (focus (intro w9 hSw; go_simp; try with_reducible rfl)); simp only [Act.put, Z2, Z3, Z4]
 refine wpGv (i := 23) (oi := ⟨some 99, _, _, _, _, _⟩) (v := ?_) rfl ?_ ?_; rotate_left; (focus (intro w9 hSw; go_simp; try with_reducible rfl)); simp only [Act.put, Z2, Z3, Z4]
 refine wpGv (i := 24) (oi := ⟨some 100, _, _, _, _, _⟩) (v := ?_) rfl ?_ ?_; rotate_left; (focus (intro w9 hSw; have q0 := LC18.out w9 hSw; go_simp; try with_reducible rfl)); simp only [Act.put, Z2, Z3, Z4]
 refine wpGv (i := 25) (oi := ⟨some 101, _, _, _, _, _⟩) (v := ?_) rfl ?_ ?_; rotate_left; (focus (intro w9 hSw; go_simp; try with_reducible rfl)); simp only [Act.put, Z2, Z3, Z4]
 refine wpGv (i := 26) (oi := ⟨some 102, _, _, _, _, _⟩) (v := ?_) rfl ?_ ?_; rotate_left; (focus (intro w9 hSw; go_simp; try with_reducible rfl)); simp only [Act.put, Z2, Z3, Z4]
 refine wpGv (i := 27) (oi := ⟨some 103, _, _, _, _, _⟩) (v := ?_) rfl ?_ ?_; rotate_left; (focus (intro w9 hSw; have q0 := RC18.out w9 hSw; go_simp; try with_reducible rfl)); simp only [Act.put, Z2, Z3, Z4]
 refine wpGv (i := 28) (oi := ⟨some 104, _, _, _, _, _⟩) (v := ?_) rfl ?_ ?_; rotate_left; (focus (intro w9 hSw; go_simp; try with_reducible rfl)); simp only [Act.put, Z2, Z3, Z4]
 refine wpGv (i := 29) (oi := ⟨some 105, _, _, _, _, _⟩) (v := ?_) rfl ?_ ?_; rotate_left; (focus (intro w9 hSw; go_simp; try with_reducible rfl)); simp only [Act.put, Z2, Z3, Z4]
 refine wpGv (i := 30) (oi := ⟨some 106, _, _, _, _, _⟩) (v := ?_) rfl ?_ ?_; rotate_left; (focus (intro w9 hSw; go_simp; try with_reducible rfl)); simp only [Act.put, Z2, Z3, Z4]
 refine wpGv (i := 31) (oi := ⟨some 107, _, _, _, _, _⟩) (v := ?_) rfl ?_ ?_; rotate_left; (focus (intro w9 hSw; go_simp; try with_reducible rfl)); simp only [Act.put, Z2, Z3, Z4]
 refine wpGv (i := 32) (oi := ⟨some 108, _, _, _, _, _⟩) (v := ?_) rfl ?_ ?_; rotate_left; (focus (intro w9 hSw; go_simp; try with_reducible rfl)); simp only [Act.put, Z2, Z3, Z4]
 refine wpGv (i := 33) (oi := ⟨some 109, _, _, _, _, _⟩) (v := ?_) rfl ?_ ?_; rotate_left; (focus (intro w9 hSw; go_simp; try with_reducible rfl)); simp only [Act.put, Z2, Z3, Z4]
 refine wpGv (i := 34) (oi := ⟨some 110, _, _, _, _, _⟩) (v := ?_) rfl ?_ ?_; rotate_left; (focus (intro w9 hSw; go_simp; try with_reducible rfl)); simp only [Act.put, Z2, Z3, Z4]
 refine wpGv (i := 35) (oi := ⟨some 111, _, _, _, _, _⟩) (v := ?_) rfl ?_ ?_; rotate_left; (focus (intro w9 hSw; go_simp; try with_reducible rfl)); simp only [Act.put, Z2, Z3, Z4]
 refine wpGv (i := 36) (oi := ⟨some 112, _, _, _, _, _⟩) (v := ?_) rfl ?_ ?_; rotate_left; (focus (intro w9 hSw; go_simp; try with_reducible rfl)); simp only [Act.put, Z2, Z3, Z4]
 refine wpGv (i := 37) (oi := ⟨some 113, _, _, _, _, _⟩) (v := ?_) rfl ?_ ?_; rotate_left; (focus (intro w9 hSw; go_simp; try with_reducible rfl)); simp only [Act.put, Z2, Z3, Z4]
 refine wpGv (i := 38) (oi := ⟨some 114, _, _, _, _, _⟩) (v := ?_) rfl ?_ ?_; rotate_left; (focus (intro w9 hSw; go_simp; try with_reducible rfl)); simp only [Act.put, Z2, Z3, Z4]
 refine wpG_done (by kernel_rfl) ?_ _
 intro w9 hSw _
 have HS9 := Lib.hid hSw
 have B9 := Lib.hid (HB1.out.trans (hSw.mono HB1.out.size))
 have c3 := EC3.out w9 HS9.out
 have c36 := EC36.out w9 HS9.out
 go_wp2
 go_ret
 exact ⟨rfl, B9.out⟩
set_option maxHeartbeats 16000000 in
theorem mkn_11 (b : Bk) (z : List Int) (no : Int) (RR : Rc) (cn cr : Int) (cs : ByteArray) (w : World) (hlaid : Laid w) (wb : BkAt w b) (wz : z.length = 16 ∧ AllBytes z) (p : fewB b.rs = true) (q : bmay b.rs = true) (hh : (bat b.rs z).isSome = true) (hg : (bat b.rs z).getD rc0 = RR) (hc : rfind RR.fs no = some ⟨cn, cr, cs⟩) :
  Calls Tryz.prog 5 #[.agg #[.slice b.A b.xs.length b.c], .agg (bvals z), .int .i64 no] w fun e w' => e = .returned (.bool true) ∧ Below w.heap.size w w' := by
 have HLA := Lib.hid (fun (X : World) (hX : Below w.heap.size w X) => hlaid.below hX (Nat.le_refl _))
 have Fb := Lib.hid wb
 have LZ := Lib.hid wz.1
 have HZ := Lib.hid wz
 have hzm := zeroMn
 rw [show mnA0.v = .agg mnA0.cs.toArray from rfl] at hzm
 have hzne : ¬ mnA0.cs.toArray = #[] := by decide
 have hmof : mofB b.rs = some (mof SH.sum (SH.sum (bbs b.rs)) b.rs) := if_pos q
 have MB := Lib.hid hmof
 have PB := Lib.hid p
 have ZB := Lib.hid (fewB_fs12 p)
 have KNS := Lib.hid (fun (m : MnA) (h : m.m = mof SH.sum (SH.sum (bbs b.rs)) b.rs) => (show True ∧ (∀ l ∈ m.ls, l.es.length ≤ 1000000 ∧ ∀ e ∈ l.es, e.e.bs.length ≤ 1000000) from ⟨trivial, (mof_few h q).1⟩))
 have KNB := Lib.hid (fun (m : MnA) (h : m.m = mof SH.sum (SH.sum (bbs b.rs)) b.rs) => (show m.base = SH.sum (bbs b.rs) ∧ mmay m.m = true from ⟨congrArg Mn.base h, by rw [h]; exact mof_may _ _ _ q⟩))
 have HBG := Lib.hid hg
 have HCF := Lib.hid hc
 have KNL := Lib.hid (fun (m : MnA) (h : m.m = mof SH.sum (SH.sum (bbs b.rs)) b.rs) (x : LnA) (hx : x.x = ((lineA m.ls z).getD lnA0).x) => knows_line h hg hx)
 have hzl := zeroLn
 rw [show KLn.v lnA0 = .agg (KLn.cs lnA0).toArray from rfl] at hzl
 have hze := zeroEn
 rw [show KEn.v enA0 = .agg (KEn.cs enA0).toArray from rfl] at hze
 have hz := zeroX
 have hzc := zeroCel
 rw [show cel00.v = .agg #[.int .i64 0, .int .i64 0, .string ⟨#[]⟩] from rfl] at hzc
 have hzne2 : ¬ (KEn.cs enA0).toArray = #[] := by decide
 have hzne3 : ¬ (KLn.cs lnA0).toArray = #[] := by decide
 have HBS := Lib.hid hh
 have HCS := Lib.hid (show cs.size ≤ 2000000 from by have := knows_size q hg hc; have h2 : cs.size ≤ 200 := this; omega)
 have KNE := Lib.hid (fun (m : MnA) (h : m.m = mof SH.sum (SH.sum (bbs b.rs)) b.rs) (u : EnA) (hu : u.e = ((findA m.ls z no).getD enA0).e) => (show u.e.n = cn ∧ u.e.r = cr ∧ u.e.len = cs.size ∧ u.e.ds = SH.sum (nums cs) ∧ u.e.bs = sgOf (nums cs) from by obtain ⟨v, h1, h2⟩ := knows_some h hg hc; rw [h1] at hu; have h3 : u.e = v.e := hu; rw [h3]; exact h2))
 have KNZ := Lib.hid (fun (m : MnA) (h : m.m = mof SH.sum (SH.sum (bbs b.rs)) b.rs) (u : EnA) (hu : u.e = ((findA m.ls z no).getD enA0).e) => find_bound (mof_few h q).1 rfl hu)
 have KNI := Lib.hid (fun (m : MnA) (h : m.m = mof SH.sum (SH.sum (bbs b.rs)) b.rs) => (show (lineA m.ls z).isSome = true ∧ (findA m.ls z no).isSome = true from ⟨(knows_is h).trans hh, by obtain ⟨v, h1, _⟩ := knows_some h hg hc; rw [h1]; rfl⟩))
 clear hlaid wb wz p q hh hg hc hmof
 have B1 := Lib.hid (Below.refl w.heap.size w)
 have T2n := BoAt.new w (.slice b.A b.xs.length b.c)
 have T2 := Lib.hid T2n
 clear T2n
 have B3 := Lib.hid (B1.out.alloc B1.out.size (.cells #[(.slice b.A b.xs.length b.c)] 24))
 have T4 := Lib.hid (T2.out.old (.cells (bvals z) 38))
 have T5n := RowAt.new (w.alloc (.cells #[(.slice b.A b.xs.length b.c)] 24)) (bvals z) 38
 simp only [World.size_alloc] at T5n
 have T5 := Lib.hid T5n
 clear T5n
 have B6 := Lib.hid (B3.out.alloc B3.out.size (.cells (bvals z) 38))
 have F7 := Lib.hid (Fb.out.below B6.out (Nat.le_refl _))
 go_enter Tryz.func5, Tryz.ntmps5
 have C8 := Lib.hid (mnAwake ((w.alloc (.cells #[(.slice b.A b.xs.length b.c)] 24)).alloc (.cells (bvals z) 38)) (HLA.out _ B6.out))
 go_wp2_with fail
 refine C8.out.mono ?_
 rintro e w9 ⟨rfl, hb10⟩
 have T11 := Lib.hid (T4.out.below hb10 T4.out.lt)
 have T12 := Lib.hid (T5.out.below hb10 T5.out.lt)
 have F13 := Lib.hid (F7.out.below hb10 (Nat.le_refl _))
 have B14 := Lib.hid (B6.out.trans (hb10.mono B6.out.size))
 clear hb10
 have M15 := Lib.hid (T11.out.load)
 have C16 := Lib.hid (fewB_any b w9 F13.out)
 rw [PB.out] at C16
 go_wp2_with (first | ((with_reducible refine wpList_load_by (o := ⟨some 21, .load 24 (.tmp 3), _, _, _, _⟩) ?e1 24 (.tmp 3) ?e2 ⟨w.heap.size, 0, none⟩ ?e3 _ M15.out ?_); (case e1 => rfl); (case e2 => rfl); (case e3 => rfl)))
 refine C16.out.mono ?_
 rintro e w17 ⟨rfl, hb18⟩
 have T19 := Lib.hid (T11.out.below hb18 T11.out.lt)
 have T20 := Lib.hid (T12.out.below hb18 T12.out.lt)
 have F21 := Lib.hid (F13.out.below hb18 (Nat.le_refl _))
 have B22 := Lib.hid (B14.out.trans (hb18.mono B14.out.size))
 clear hb18
 have M26 := Lib.hid (T19.out.load)
 have C27 := Lib.hid (pof12_any b w17 (HLA.out _ B22.out) F21.out)
 unfold MofPost at C27
 rw [MB.out] at C27
 go_wp2_with (first | ((with_reducible refine wpList_load_by (o := ⟨some 24, .load 24 (.tmp 3), _, _, _, _⟩) ?e1 24 (.tmp 3) ?e2 ⟨w.heap.size, 0, none⟩ ?e3 _ M26.out ?_); (case e1 => rfl); (case e2 => rfl); (case e3 => rfl)))
 refine C27.out.mono ?_
 rintro e w28 ⟨d23, rfl, hd24, hk25, hb29⟩
 have T30 := Lib.hid (T19.out.below hb29 T19.out.lt)
 have T31 := Lib.hid (T20.out.below hb29 T20.out.lt)
 have F32 := Lib.hid (F21.out.below hb29 (Nat.le_refl _))
 have B33 := Lib.hid (B22.out.trans (hb29.mono B22.out.size))
 clear hb29
 have E34 := Lib.hid (hd24)
 have F35 := Lib.hid (hk25)
 clear hd24 hk25
 have SZ35 := Lib.hid (mn_size F35.out)
 have SQ35 := Lib.hid (show mnA0.cs.toArray.size = d23.cs.toArray.size by rw [mnA0_size, List.size_toArray]; exact (MnA.len F35.out).symm)
 have SO35 := Lib.hid (mn_ones d23)
 have L37 := Lib.hid (MnA.len F35.out)
 have hb38 := (Below.refl w28.heap.size w28).alloc (Nat.le_refl _) (.cells d23.cs.toArray 29)
 have T39 := Lib.hid (RowAt.new w28 d23.cs.toArray 29)
 have T40 := Lib.hid (T30.out.below hb38 T30.out.lt)
 have T41 := Lib.hid (T31.out.below hb38 T31.out.lt)
 have F42 := Lib.hid (F32.out.below hb38 (Nat.le_refl _))
 have F43 := Lib.hid (F35.out.below hb38 (Nat.le_refl _))
 have B44 := Lib.hid (B33.out.trans (hb38.mono B33.out.size))
 clear hb38
 have M48 := Lib.hid (T41.out.id LZ.out)
 have M49 := Lib.hid (T40.out.load)
 have C50 := Lib.hid ((show Calls Tryz.prog 27 #[.agg #[.slice b.A b.xs.length b.c], .agg (bvals z)] (w28.alloc (.cells d23.cs.toArray 29)) (BFindPost (w28.alloc (.cells d23.cs.toArray 29)) (bat b.rs z)) from bfind_any b z (w28.alloc (.cells d23.cs.toArray 29)) F42.out HZ.out.1 HZ.out.2 ZB.out.2))
 unfold BFindPost at C50
 rw [HBS.out, HBG.out] at C50
 go_wp2_with (first | ((with_reducible refine wpList_load_at (o := ⟨some 53, .load 38 (.tmp 4), _, _, _, _⟩) ?e1 38 (.tmp 4) ?e2 ⟨(w.heap.size + 1), 0, none⟩ ?e3 _ M48.out ?_); (case e1 => rfl); (case e2 => rfl); (case e3 => rfl)) | ((with_reducible refine wpList_load_by (o := ⟨some 52, .load 24 (.tmp 3), _, _, _, _⟩) ?e1 24 (.tmp 3) ?e2 ⟨w.heap.size, 0, none⟩ ?e3 _ M49.out ?_); (case e1 => rfl); (case e2 => rfl); (case e3 => rfl)) | ((with_reducible refine wpList_store_new (o := ⟨none, .store 29 (.tmp 9) (.tmp 26), _, _, _, _⟩) ?e1 29 (.tmp 9) (.tmp 26) ?e2 ?e3 mnA0.cs.toArray d23.cs.toArray ?e4 SZ35.out SQ35.out SO35.out ?_); (case e1 => rfl); (case e2 => rfl); (case e3 => (first | rfl | exact congrArg (fun q => Value.pointer (some ⟨q, 0, none⟩)) (World.size_alloc _ _).symm)); (case e4 => rfl)))
 refine C50.out.mono ?_
 rintro e w51 ⟨y45, rfl, hd46, hk47, hb52⟩
 have T53 := Lib.hid (T40.out.below hb52 T40.out.lt)
 have T54 := Lib.hid (T41.out.below hb52 T41.out.lt)
 have T55 := Lib.hid (T39.out.below hb52 T39.out.lt)
 have F56 := Lib.hid (F42.out.below hb52 (Nat.le_refl _))
 have F57 := Lib.hid (F43.out.below hb52 (Nat.le_refl _))
 have B58 := Lib.hid (B44.out.trans (hb52.mono B44.out.size))
 clear hb52
 have E59 := Lib.hid (hd46)
 have F60 := Lib.hid (hk47)
 have Z61 := Lib.hid (hk47.len)
 clear hd46 hk47
 go_wp2_with (first | ((with_reducible refine wpList_store_newx (o := ⟨none, .store 58 (.tmp 11) (.tmp 55), _, _, _, _⟩) (w := w51) ?e1 (.tmp 11) (.tmp 55) ?e2 w51.heap.size ?e0 ?e3 y45 ?e4 Z61.out ?_); (case e1 => rfl); (case e2 => rfl); (case e0 => rfl); (case e3 => rfl); (case e4 => rfl); intro w62 hb63 hx64 hs65; have T66 := Lib.hid hx64; clear hx64 hs65; have T67 := Lib.hid (T53.out.below hb63 T53.out.lt); have T68 := Lib.hid (T54.out.below hb63 T54.out.lt); have T69 := Lib.hid (T55.out.below hb63 T55.out.lt); have F70 := Lib.hid (F56.out.below hb63 (Nat.le_refl _)); have F71 := Lib.hid (F57.out.below hb63 (Nat.le_refl _)); have F72 := Lib.hid (F60.out.below hb63 (Nat.le_refl _)); have B73 := Lib.hid (B58.out.trans (hb63.mono B58.out.size)); clear hb63; have M74 := Lib.hid (T66.out.load); have C75 := Lib.hid ((show Calls Tryz.prog 28 #[.agg y45.cells, .int .i64 no] w62 (fun e w' => e = .returned (.tuple #[.agg #[.int .i64 cn, .int .i64 cr, .string cs], .bool true]) ∧ Below (w62).heap.size w62 w') from by have h := xfind_any y45 no w62 F72.out; rw [E59.out, HCF.out] at h; exact h))) | ((with_reducible refine wpList_load_by (o := ⟨some 58, .load 58 (.tmp 11), _, _, _, _⟩) ?e1 58 (.tmp 11) ?e2 ⟨w51.heap.size, 0, none⟩ ?e3 _ M74.out ?_); (case e1 => rfl); (case e2 => rfl); (case e3 => rfl)))
 refine C75.out.mono ?_
 rintro e w76 ⟨rfl, hb77⟩
 have T78 := Lib.hid (T67.out.below hb77 T67.out.lt)
 have T79 := Lib.hid (T68.out.below hb77 T68.out.lt)
 have T80 := Lib.hid (T69.out.below hb77 T69.out.lt)
 have T81 := Lib.hid (T66.out.below hb77 T66.out.lt)
 have F82 := Lib.hid (F70.out.below hb77 (Nat.le_refl _))
 have F83 := Lib.hid (F71.out.below hb77 (Nat.le_refl _))
 have F84 := Lib.hid (F72.out.below hb77 (Nat.le_refl _))
 have B85 := Lib.hid (B73.out.trans (hb77.mono B73.out.size))
 clear hb77
 have hb86 := (Below.refl w76.heap.size w76).alloc (Nat.le_refl _) (.cells #[.int .i64 cn, .int .i64 cr, .string cs] 62)
 have T87 := Lib.hid (ClAt.new w76 ⟨cn, cr, cs⟩)
 have T88 := Lib.hid (T78.out.below hb86 T78.out.lt)
 have T89 := Lib.hid (T79.out.below hb86 T79.out.lt)
 have T90 := Lib.hid (T80.out.below hb86 T80.out.lt)
 have T91 := Lib.hid (T81.out.below hb86 T81.out.lt)
 have F92 := Lib.hid (F82.out.below hb86 (Nat.le_refl _))
 have F93 := Lib.hid (F83.out.below hb86 (Nat.le_refl _))
 have F94 := Lib.hid (F84.out.below hb86 (Nat.le_refl _))
 have B95 := Lib.hid (B85.out.trans (hb86.mono B85.out.size))
 clear hb86
 have K96 := Lib.hid ((KNI.out d23 E34.out).1)
 have K97 := Lib.hid ((KNI.out d23 E34.out).2)
 have M101 := Lib.hid (T90.out.mn L37.out)
 have M102 := Lib.hid (T89.out.id LZ.out)
 have C103 := Lib.hid ((show Calls Tryz.prog 18 #[.agg d23.cs.toArray, .agg (bvals z)] (w76.alloc (.cells #[.int .i64 cn, .int .i64 cr, .string cs] 62)) (LineN (w76.alloc (.cells #[.int .i64 cn, .int .i64 cr, .string cs] 62)) (lineA d23.ls z)) from pline12_any d23 z (w76.alloc (.cells #[.int .i64 cn, .int .i64 cr, .string cs] 62)) F93.out HZ.out (KNS.out d23 E34.out).2))
 unfold LineN at C103
 rw [K96.out] at C103
 go_wp2_with (first | ((with_reducible refine wpList_load_at (o := ⟨some 64, .load 29 (.tmp 9), _, _, _, _⟩) ?e1 29 (.tmp 9) ?e2 ⟨w28.heap.size, 0, none⟩ ?e3 _ M101.out ?_); (case e1 => rfl); (case e2 => rfl); (case e3 => rfl)) | ((with_reducible refine wpList_load_at (o := ⟨some 65, .load 38 (.tmp 4), _, _, _, _⟩) ?e1 38 (.tmp 4) ?e2 ⟨(w.heap.size + 1), 0, none⟩ ?e3 _ M102.out ?_); (case e1 => rfl); (case e2 => rfl); (case e3 => rfl)))
 refine C103.out.mono ?_
 rintro e w104 ⟨d98, rfl, hd99, hk100, hb105⟩
 have T106 := Lib.hid (T88.out.below hb105 T88.out.lt)
 have T107 := Lib.hid (T89.out.below hb105 T89.out.lt)
 have T108 := Lib.hid (T90.out.below hb105 T90.out.lt)
 have T109 := Lib.hid (T91.out.below hb105 T91.out.lt)
 have T110 := Lib.hid (T87.out.below hb105 T87.out.lt)
 have F111 := Lib.hid (F92.out.below hb105 (Nat.le_refl _))
 have F112 := Lib.hid (F93.out.below hb105 (Nat.le_refl _))
 have F113 := Lib.hid (F94.out.below hb105 (Nat.le_refl _))
 have B114 := Lib.hid (B95.out.trans (hb105.mono B95.out.size))
 clear hb105
 have E115 := Lib.hid (hd99)
 have F116 := Lib.hid (hk100)
 clear hd99 hk100
 have SZ116 := Lib.hid (ln_size F116.out)
 have SQ116 := Lib.hid (show (KLn.cs lnA0).toArray.size = (KLn.cs d98).toArray.size by rw [lnA0_size, List.size_toArray]; exact (LnA.len F116.out).symm)
 have SO116 := Lib.hid (ln_ones d98)
 have L118 := Lib.hid (LnA.len F116.out)
 have hb119 := (Below.refl w104.heap.size w104).alloc (Nat.le_refl _) (.cells (KLn.cs d98).toArray 43)
 have T120 := Lib.hid (RowAt.new w104 (KLn.cs d98).toArray 43)
 have T121 := Lib.hid (T106.out.below hb119 T106.out.lt)
 have T122 := Lib.hid (T107.out.below hb119 T107.out.lt)
 have T123 := Lib.hid (T108.out.below hb119 T108.out.lt)
 have T124 := Lib.hid (T109.out.below hb119 T109.out.lt)
 have T125 := Lib.hid (T110.out.below hb119 T110.out.lt)
 have F126 := Lib.hid (F111.out.below hb119 (Nat.le_refl _))
 have F127 := Lib.hid (F112.out.below hb119 (Nat.le_refl _))
 have F128 := Lib.hid (F113.out.below hb119 (Nat.le_refl _))
 have F129 := Lib.hid (F116.out.below hb119 (Nat.le_refl _))
 have B130 := Lib.hid (B114.out.trans (hb119.mono B114.out.size))
 clear hb119
 have M134 := Lib.hid (T123.out.mn L37.out)
 have M135 := Lib.hid (T122.out.id LZ.out)
 have C136 := Lib.hid ((show Calls Tryz.prog 20 #[.agg d23.cs.toArray, .agg (bvals z), .int .i64 no] (w104.alloc (.cells (KLn.cs d98).toArray 43)) (FindN (w104.alloc (.cells (KLn.cs d98).toArray 43)) (findA d23.ls z no)) from pfind12_any d23 z no (w104.alloc (.cells (KLn.cs d98).toArray 43)) F127.out HZ.out (KNS.out d23 E34.out).2))
 unfold FindN at C136
 rw [K97.out] at C136
 go_wp2_with (first | ((with_reducible refine wpList_load_at (o := ⟨some 70, .load 29 (.tmp 9), _, _, _, _⟩) ?e1 29 (.tmp 9) ?e2 ⟨w28.heap.size, 0, none⟩ ?e3 _ M134.out ?_); (case e1 => rfl); (case e2 => rfl); (case e3 => rfl)) | ((with_reducible refine wpList_load_at (o := ⟨some 71, .load 38 (.tmp 4), _, _, _, _⟩) ?e1 38 (.tmp 4) ?e2 ⟨(w.heap.size + 1), 0, none⟩ ?e3 _ M135.out ?_); (case e1 => rfl); (case e2 => rfl); (case e3 => rfl)) | ((with_reducible refine wpList_store_new (o := ⟨none, .store 43 (.tmp 15) (.tmp 67), _, _, _, _⟩) ?e1 43 (.tmp 15) (.tmp 67) ?e2 ?e3 (KLn.cs lnA0).toArray (KLn.cs d98).toArray ?e4 SZ116.out SQ116.out SO116.out ?_); (case e1 => rfl); (case e2 => rfl); (case e3 => (first | rfl | exact congrArg (fun q => Value.pointer (some ⟨q, 0, none⟩)) (World.size_alloc _ _).symm)); (case e4 => rfl)))
 refine C136.out.mono ?_
 rintro e w137 ⟨d131, rfl, hd132, hk133, hb138⟩
 have T139 := Lib.hid (T121.out.below hb138 T121.out.lt)
 have T140 := Lib.hid (T122.out.below hb138 T122.out.lt)
 have T141 := Lib.hid (T123.out.below hb138 T123.out.lt)
 have T142 := Lib.hid (T124.out.below hb138 T124.out.lt)
 have T143 := Lib.hid (T125.out.below hb138 T125.out.lt)
 have T144 := Lib.hid (T120.out.below hb138 T120.out.lt)
 have F145 := Lib.hid (F126.out.below hb138 (Nat.le_refl _))
 have F146 := Lib.hid (F127.out.below hb138 (Nat.le_refl _))
 have F147 := Lib.hid (F128.out.below hb138 (Nat.le_refl _))
 have F148 := Lib.hid (F129.out.below hb138 (Nat.le_refl _))
 have B149 := Lib.hid (B130.out.trans (hb138.mono B130.out.size))
 clear hb138
 have E150 := Lib.hid (hd132)
 have F151 := Lib.hid (hk133)
 clear hd132 hk133
 have SZ151 := Lib.hid (en_size F151.out)
 have SQ151 := Lib.hid (show (KEn.cs enA0).toArray.size = (KEn.cs d131).toArray.size by rw [enA0_size, List.size_toArray]; exact (EnA.len F151.out).symm)
 have SO151 := Lib.hid (en_ones d131)
 have L153 := Lib.hid (EnA.len F151.out)
 have hb154 := (Below.refl w137.heap.size w137).alloc (Nat.le_refl _) (.cells (KEn.cs d131).toArray 48)
 have T155 := Lib.hid (RowAt.new w137 (KEn.cs d131).toArray 48)
 have T156 := Lib.hid (T139.out.below hb154 T139.out.lt)
 have T157 := Lib.hid (T140.out.below hb154 T140.out.lt)
 have T158 := Lib.hid (T141.out.below hb154 T141.out.lt)
 have T159 := Lib.hid (T142.out.below hb154 T142.out.lt)
 have T160 := Lib.hid (T143.out.below hb154 T143.out.lt)
 have T161 := Lib.hid (T144.out.below hb154 T144.out.lt)
 have F162 := Lib.hid (F145.out.below hb154 (Nat.le_refl _))
 have F163 := Lib.hid (F146.out.below hb154 (Nat.le_refl _))
 have F164 := Lib.hid (F147.out.below hb154 (Nat.le_refl _))
 have F165 := Lib.hid (F148.out.below hb154 (Nat.le_refl _))
 have F166 := Lib.hid (F151.out.below hb154 (Nat.le_refl _))
 have B167 := Lib.hid (B149.out.trans (hb154.mono B149.out.size))
 clear hb154
 have T3' := Lib.hid T156.out
 have T9' := Lib.hid T158.out
 have T11' := Lib.hid T159.out
 have T13' := Lib.hid T160.out
 have T15' := Lib.hid T161.out
 have T17' := Lib.hid T155.out
 have HB1 := Lib.hid B167.out
 have OX := Lib.hid F165.out
 have OU := Lib.hid F166.out
 have OM := Lib.hid F163.out
 have OB := Lib.hid F162.out
 obtain ⟨gn, gr, gf⟩ := KNL.out d23 E34.out d98 E115.out
 have LC16 := Lib.hid (fun (X : World) (hX : Below ((w137.alloc (.cells (KEn.cs d131).toArray 48))).heap.size (w137.alloc (.cells (KEn.cs d131).toArray 48)) X) => (show X.cell? ⟨w104.heap.size, 16, none⟩ = some (.int .i64 RR.n) from by have h := ln_c16 (Kind.at_blk (K := KLn) (x := d98) (T15'.out.below hX T15'.out.lt)) OX.out.1; (try simp only [Nat.zero_add] at h); rw [gn] at h; exact h))
 have LC17 := Lib.hid (fun (X : World) (hX : Below ((w137.alloc (.cells (KEn.cs d131).toArray 48))).heap.size (w137.alloc (.cells (KEn.cs d131).toArray 48)) X) => (show X.cell? ⟨w104.heap.size, 17, none⟩ = some (.int .i64 RR.r) from by have h := ln_c17 (Kind.at_blk (K := KLn) (x := d98) (T15'.out.below hX T15'.out.lt)) OX.out.1; (try simp only [Nat.zero_add] at h); rw [gr] at h; exact h))
 have LC18 := Lib.hid (fun (X : World) (hX : Below ((w137.alloc (.cells (KEn.cs d131).toArray 48))).heap.size (w137.alloc (.cells (KEn.cs d131).toArray 48)) X) => (show X.cell? ⟨w104.heap.size, 18, none⟩ = some (.slice d98.A RR.fs.length d98.c) from by have h := ln_c18 (Kind.at_blk (K := KLn) (x := d98) (T15'.out.below hX T15'.out.lt)) OX.out.1; (try simp only [Nat.zero_add] at h); rw [gf] at h; exact h))
 have RC16 := Lib.hid (fun (X : World) (hX : Below ((w137.alloc (.cells (KEn.cs d131).toArray 48))).heap.size (w137.alloc (.cells (KEn.cs d131).toArray 48)) X) => (show X.cell? ⟨w51.heap.size, 16, none⟩ = some (.int .i64 RR.n) from by have h := (T11'.out.below hX T11'.out.lt).c16; (try simp only [Nat.zero_add] at h); rw [E59.out] at h; exact h))
 have RC17 := Lib.hid (fun (X : World) (hX : Below ((w137.alloc (.cells (KEn.cs d131).toArray 48))).heap.size (w137.alloc (.cells (KEn.cs d131).toArray 48)) X) => (show X.cell? ⟨w51.heap.size, 17, none⟩ = some (.int .i64 RR.r) from by have h := (T11'.out.below hX T11'.out.lt).c17; (try simp only [Nat.zero_add] at h); rw [E59.out] at h; exact h))
 have RC18 := Lib.hid (fun (X : World) (hX : Below ((w137.alloc (.cells (KEn.cs d131).toArray 48))).heap.size (w137.alloc (.cells (KEn.cs d131).toArray 48)) X) => (show X.cell? ⟨w51.heap.size, 18, none⟩ = some (.slice y45.A RR.fs.length y45.c) from by have h := (T11'.out.below hX T11'.out.lt).c18; (try simp only [Nat.zero_add] at h); rw [E59.out] at h; exact h))
 have LBS := Lib.hid (fun (X : World) (hX : Below ((w137.alloc (.cells (KEn.cs d131).toArray 48))).heap.size (w137.alloc (.cells (KEn.cs d131).toArray 48)) X) => (show (loadVar 26 ⟨w28.heap.size, 0, none⟩).run Tryz.prog X = .ok (.agg (bvals (SH.sum (bbs b.rs)))) X from by have h := load_dig (MnAt.dig (show MnAt X w28.heap.size d23 from T9'.out.below hX T9'.out.lt) OM.out.1) OM.out.1; rw [(KNB.out d23 E34.out).1] at h; exact h))
 have LBK := Lib.hid (fun (X : World) (hX : Below ((w137.alloc (.cells (KEn.cs d131).toArray 48))).heap.size (w137.alloc (.cells (KEn.cs d131).toArray 48)) X) => (T3'.out.below hX T3'.out.lt).load)
 have LMN := Lib.hid (fun (X : World) (hX : Below ((w137.alloc (.cells (KEn.cs d131).toArray 48))).heap.size (w137.alloc (.cells (KEn.cs d131).toArray 48)) X) => RowAt.mn (T9'.out.below hX T9'.out.lt) (MnA.len OM.out))
 have CMY := Lib.hid (fun (X : World) (hX : Below ((w137.alloc (.cells (KEn.cs d131).toArray 48))).heap.size (w137.alloc (.cells (KEn.cs d131).toArray 48)) X) => (show Calls Tryz.prog 16 #[.agg d23.cs.toArray] X fun e w' => e = .returned (.bool true) ∧ Below X.heap.size X w' from by have h := pmay12_any d23 X (OM.out.below hX (Nat.le_refl _)); rw [(KNB.out d23 E34.out).2] at h; exact h))
 have CDG := Lib.hid (fun (X : World) (hX : Below ((w137.alloc (.cells (KEn.cs d131).toArray 48))).heap.size (w137.alloc (.cells (KEn.cs d131).toArray 48)) X) => (show Calls Tryz.prog 29 #[.agg #[.slice b.A b.xs.length b.c]] X fun e w' => e = .returned (.agg (bvals (SH.sum (bbs b.rs)))) ∧ Below X.heap.size X w' from digest_any b X (HLA.out _ (HB1.out.trans (hX.mono HB1.out.size))) (OB.out.below hX (Nat.le_refl _))))
 obtain ⟨en', er', el', ed', eb'⟩ := KNE.out d23 E34.out d131 E150.out
 have EC1 := Lib.hid (fun (X : World) (hX : Below ((w137.alloc (.cells (KEn.cs d131).toArray 48))).heap.size (w137.alloc (.cells (KEn.cs d131).toArray 48)) X) => (show X.cell? ⟨w137.heap.size, 1, none⟩ = some (.int .i64 cn) from by have h := en_c1 (Kind.at_blk (K := KEn) (x := d131) (T17'.out.below hX T17'.out.lt)); (try simp only [Nat.zero_add] at h); rw [en'] at h; exact h))
 have EC2 := Lib.hid (fun (X : World) (hX : Below ((w137.alloc (.cells (KEn.cs d131).toArray 48))).heap.size (w137.alloc (.cells (KEn.cs d131).toArray 48)) X) => (show X.cell? ⟨w137.heap.size, 2, none⟩ = some (.int .i64 cr) from by have h := en_c2 (Kind.at_blk (K := KEn) (x := d131) (T17'.out.below hX T17'.out.lt)); (try simp only [Nat.zero_add] at h); rw [er'] at h; exact h))
 have EC3 := Lib.hid (fun (X : World) (hX : Below ((w137.alloc (.cells (KEn.cs d131).toArray 48))).heap.size (w137.alloc (.cells (KEn.cs d131).toArray 48)) X) => (show X.cell? ⟨w137.heap.size, 3, none⟩ = some (.int .i64 cs.size) from by have h := en_c3 (Kind.at_blk (K := KEn) (x := d131) (T17'.out.below hX T17'.out.lt)); (try simp only [Nat.zero_add] at h); rw [el'] at h; exact h))
 have EC36 := Lib.hid (fun (X : World) (hX : Below ((w137.alloc (.cells (KEn.cs d131).toArray 48))).heap.size (w137.alloc (.cells (KEn.cs d131).toArray 48)) X) => (show X.cell? ⟨w137.heap.size, 36, none⟩ = some (.slice d131.A d131.e.bs.length d131.c) from by have h := en_c36 (Kind.at_blk (K := KEn) (x := d131) (T17'.out.below hX T17'.out.lt)) OU.out.2.2.2.2.1; (try simp only [Nat.zero_add] at h); exact h))
 have LED := Lib.hid (fun (X : World) (hX : Below ((w137.alloc (.cells (KEn.cs d131).toArray 48))).heap.size (w137.alloc (.cells (KEn.cs d131).toArray 48)) X) => (show (loadVar 26 ⟨w137.heap.size, 4, none⟩).run Tryz.prog X = .ok (.agg (bvals (SH.sum (nums cs)))) X from by have h := load_dig (en_dig (Kind.at_blk (K := KEn) (x := d131) (T17'.out.below hX T17'.out.lt)) OU.out.2.2.2.2.1) OU.out.2.2.2.2.1; rw [ed'] at h; exact h))
 have CC0 := Lib.hid (fun (X : World) (hX : Below ((w137.alloc (.cells (KEn.cs d131).toArray 48))).heap.size (w137.alloc (.cells (KEn.cs d131).toArray 48)) X) => (T13'.out.below hX T13'.out.lt).c0)
 have CC1 := Lib.hid (fun (X : World) (hX : Below ((w137.alloc (.cells (KEn.cs d131).toArray 48))).heap.size (w137.alloc (.cells (KEn.cs d131).toArray 48)) X) => (T13'.out.below hX T13'.out.lt).c1)
 have CC2 := Lib.hid (fun (X : World) (hX : Below ((w137.alloc (.cells (KEn.cs d131).toArray 48))).heap.size (w137.alloc (.cells (KEn.cs d131).toArray 48)) X) => (T13'.out.below hX T13'.out.lt).c2)
 have HEB := Lib.hid eb'
 have HEL := Lib.hid (KNZ.out d23 E34.out d131 E150.out)
 clear en' er' el' ed' eb'
 clear gn gr gf
 go_wp2_with (((with_reducible refine wpList_store_new (o := ⟨none, .store 48 (.tmp 17) (.tmp 74), _, _, _, _⟩) ?e1 48 (.tmp 17) (.tmp 74) ?e2 ?e3 (KEn.cs enA0).toArray (KEn.cs d131).toArray ?e4 SZ151.out SQ151.out SO151.out ?_); (case e1 => rfl); (case e2 => rfl); (case e3 => (first | rfl | exact congrArg (fun q => Value.pointer (some ⟨q, 0, none⟩)) (World.size_alloc _ _).symm)); (case e4 => rfl)))
 generalize ((w137.alloc (.cells (KEn.cs d131).toArray 48))) = w1 at *
 have QB := Lib.hid (fun X : World => show (Op.equalIn 10000 26 (.agg (bvals (SH.sum (bbs b.rs)))) (.agg (bvals (SH.sum (bbs b.rs))))).run Tryz.prog X = .ok true X from by have h := eq_dig (SH.sum_bytes (bbs b.rs)) (SH.sum_bytes (bbs b.rs)) (SH.sum_len _) (SH.sum_len _) X; rw [beq_self_eq_true] at h; exact h)
 have QS := Lib.hid (fun X : World => show (Op.equalIn 10000 40 (.agg #[.int .i64 RR.n, .int .i64 RR.r]) (.agg #[.int .i64 RR.n, .int .i64 RR.r])).run Tryz.prog X = .ok true X from by have h := eq_st (n := RR.n) (r := RR.r) (m := RR.n) (s := RR.r) X; rw [decide_eq_true (And.intro rfl rfl)] at h; exact h)
 refine wp_region_G _ (by kernel_rfl) ?_
 refine wpGv (i := 0) (oi := ⟨some 76, _, _, _, _, _⟩) (v := (.agg d23.cs.toArray)) rfl ?_ ?_; (focus (intro w9 hSw; exact exec_load_at 29 _ rfl _ rfl (LMN.out w9 hSw))); simp only [Act.put, Z2, Z3, Z4]
 refine wpG_take (i := 1) (oi := ⟨some 77, _, _, _, _, _⟩) rfl (by kernel_rfl) (by kernel_rfl) (by kernel_rfl) (Or.inl ⟨by rfl, unib_call_if ?_ CMY.out⟩) ?_; (focus (intro w9 hSw; go_simp; try with_reducible rfl)); simp only [Act.put, Z2, Z3, Z4]
 refine wpGv (i := 2) (oi := ⟨some 78, _, _, _, _, _⟩) (v := ?_) rfl ?_ ?_; rotate_left; (focus (intro w9 hSw; go_simp; try with_reducible rfl)); simp only [Act.put, Z2, Z3, Z4]
 refine wpGv (i := 3) (oi := ⟨some 79, _, _, _, _, _⟩) (v := ?_) rfl ?_ ?_; rotate_left; (focus (intro w9 hSw; go_simp; try with_reducible rfl)); simp only [Act.put, Z2, Z3, Z4]
 refine wpGv (i := 4) (oi := ⟨some 80, _, _, _, _, _⟩) (v := ?_) rfl ?_ ?_; rotate_left; (focus (intro w9 hSw; go_simp; try with_reducible rfl)); simp only [Act.put, Z2, Z3, Z4]
 refine wpGv (i := 5) (oi := ⟨some 81, _, _, _, _, _⟩) (v := (.agg (bvals (SH.sum (bbs b.rs))))) rfl ?_ ?_; (focus (intro w9 hSw; exact exec_load_at 26 _ rfl _ rfl (LBS.out w9 hSw))); simp only [Act.put, Z2, Z3, Z4]
 refine wpGv (i := 6) (oi := ⟨some 82, _, _, _, _, _⟩) (v := (.agg #[.slice b.A b.xs.length b.c])) rfl ?_ ?_; (focus (intro w9 hSw; exact exec_load_by 24 _ rfl ⟨w.heap.size, 0, none⟩ rfl (LBK.out w9 hSw))); simp only [Act.put, Z2, Z3, Z4]
 refine wpG_take (i := 7) (oi := ⟨some 83, _, _, _, _, _⟩) rfl (by kernel_rfl) (by kernel_rfl) (by kernel_rfl) (Or.inl ⟨by rfl, unib_call_if ?_ CDG.out⟩) ?_; (focus (intro w9 hSw; go_simp; try with_reducible rfl)); simp only [Act.put, Z2, Z3, Z4]
 refine wpGv (i := 8) (oi := ⟨some 84, _, _, _, _, _⟩) (v := (.bool false)) rfl ?_ ?_; (focus (intro w9 hSw; have q0 := QB.out w9; exact exec_neq_at 26 _ _ _ rfl rfl rfl guardDig q0)); simp only [Act.put, Z2, Z3, Z4]
 refine wpGv (i := 9) (oi := ⟨some 85, _, _, _, _, _⟩) (v := ?_) rfl ?_ ?_; rotate_left; (focus (intro w9 hSw; go_simp; try with_reducible rfl)); simp only [Act.put, Z2, Z3, Z4]
 refine wpGv (i := 10) (oi := ⟨some 86, _, _, _, _, _⟩) (v := ?_) rfl ?_ ?_; rotate_left; (focus (intro w9 hSw; go_simp; try with_reducible rfl)); simp only [Act.put, Z2, Z3, Z4]
 refine wpGv (i := 11) (oi := ⟨some 87, _, _, _, _, _⟩) (v := ?_) rfl ?_ ?_; rotate_left; (focus (intro w9 hSw; go_simp; try with_reducible rfl)); simp only [Act.put, Z2, Z3, Z4]
 refine wpGv (i := 12) (oi := ⟨some 88, _, _, _, _, _⟩) (v := ?_) rfl ?_ ?_; rotate_left; (focus (intro w9 hSw; go_simp; try with_reducible rfl)); simp only [Act.put, Z2, Z3, Z4]
 refine wpGv (i := 13) (oi := ⟨some 89, _, _, _, _, _⟩) (v := ?_) rfl ?_ ?_; rotate_left; (focus (intro w9 hSw; go_simp; try with_reducible rfl)); simp only [Act.put, Z2, Z3, Z4]
 refine wpGv (i := 14) (oi := ⟨some 90, _, _, _, _, _⟩) (v := ?_) rfl ?_ ?_; rotate_left; (focus (intro w9 hSw; go_simp; try with_reducible rfl)); simp only [Act.put, Z2, Z3, Z4]
 refine wpGv (i := 15) (oi := ⟨some 91, _, _, _, _, _⟩) (v := ?_) rfl ?_ ?_; rotate_left; (focus (intro w9 hSw; go_simp; try with_reducible rfl)); simp only [Act.put, Z2, Z3, Z4]
 refine wpGv (i := 16) (oi := ⟨some 92, _, _, _, _, _⟩) (v := ?_) rfl ?_ ?_; rotate_left; (focus (intro w9 hSw; go_simp; try with_reducible rfl)); simp only [Act.put, Z2, Z3, Z4]
 refine wpGv (i := 17) (oi := ⟨some 93, _, _, _, _, _⟩) (v := ?_) rfl ?_ ?_; rotate_left; (focus (intro w9 hSw; have q0 := LC16.out w9 hSw; have q1 := LC17.out w9 hSw; go_simp; try with_reducible rfl)); simp only [Act.put, Z2, Z3, Z4]
 refine wpGv (i := 18) (oi := ⟨some 94, _, _, _, _, _⟩) (v := ?_) rfl ?_ ?_; rotate_left; (focus (intro w9 hSw; go_simp; try with_reducible rfl)); simp only [Act.put, Z2, Z3, Z4]
 refine wpGv (i := 19) (oi := ⟨some 95, _, _, _, _, _⟩) (v := ?_) rfl ?_ ?_; rotate_left; (focus (intro w9 hSw; have q0 := RC16.out w9 hSw; have q1 := RC17.out w9 hSw; go_simp; try with_reducible rfl)); simp only [Act.put, Z2, Z3, Z4]
 refine wpGv (i := 20) (oi := ⟨some 96, _, _, _, _, _⟩) (v := (.bool false)) rfl ?_ ?_; (focus (intro w9 hSw; have q0 := QS.out w9; exact exec_neq_at 40 _ _ _ rfl rfl rfl guardStM q0)); simp only [Act.put, Z2, Z3, Z4]
 refine wpGv (i := 21) (oi := ⟨some 97, _, _, _, _, _⟩) (v := ?_) rfl ?_ ?_; rotate_left; (focus (intro w9 hSw; go_simp; try with_reducible rfl)); simp only [Act.put, Z2, Z3, Z4]
 refine wpGv (i := 22) (oi := ⟨some 98, _, _, _, _, _⟩) (v := ?_) rfl ?_ ?_; rotate_left; (focus (intro w9 hSw; go_simp; try with_reducible rfl)); simp only [Act.put, Z2, Z3, Z4]
 refine wpGv (i := 23) (oi := ⟨some 99, _, _, _, _, _⟩) (v := ?_) rfl ?_ ?_; rotate_left; (focus (intro w9 hSw; go_simp; try with_reducible rfl)); simp only [Act.put, Z2, Z3, Z4]
 refine wpGv (i := 24) (oi := ⟨some 100, _, _, _, _, _⟩) (v := ?_) rfl ?_ ?_; rotate_left; (focus (intro w9 hSw; have q0 := LC18.out w9 hSw; go_simp; try with_reducible rfl)); simp only [Act.put, Z2, Z3, Z4]
 refine wpGv (i := 25) (oi := ⟨some 101, _, _, _, _, _⟩) (v := ?_) rfl ?_ ?_; rotate_left; (focus (intro w9 hSw; go_simp; try with_reducible rfl)); simp only [Act.put, Z2, Z3, Z4]
 refine wpGv (i := 26) (oi := ⟨some 102, _, _, _, _, _⟩) (v := ?_) rfl ?_ ?_; rotate_left; (focus (intro w9 hSw; go_simp; try with_reducible rfl)); simp only [Act.put, Z2, Z3, Z4]
 refine wpGv (i := 27) (oi := ⟨some 103, _, _, _, _, _⟩) (v := ?_) rfl ?_ ?_; rotate_left; (focus (intro w9 hSw; have q0 := RC18.out w9 hSw; go_simp; try with_reducible rfl)); simp only [Act.put, Z2, Z3, Z4]
 refine wpGv (i := 28) (oi := ⟨some 104, _, _, _, _, _⟩) (v := ?_) rfl ?_ ?_; rotate_left; (focus (intro w9 hSw; go_simp; try with_reducible rfl)); simp only [Act.put, Z2, Z3, Z4]
 refine wpGv (i := 29) (oi := ⟨some 105, _, _, _, _, _⟩) (v := ?_) rfl ?_ ?_; rotate_left; (focus (intro w9 hSw; go_simp; try with_reducible rfl)); simp only [Act.put, Z2, Z3, Z4]
 refine wpGv (i := 30) (oi := ⟨some 106, _, _, _, _, _⟩) (v := ?_) rfl ?_ ?_; rotate_left; (focus (intro w9 hSw; go_simp; try with_reducible rfl)); simp only [Act.put, Z2, Z3, Z4]
 refine wpGv (i := 31) (oi := ⟨some 107, _, _, _, _, _⟩) (v := ?_) rfl ?_ ?_; rotate_left; (focus (intro w9 hSw; go_simp; try with_reducible rfl)); simp only [Act.put, Z2, Z3, Z4]
 refine wpGv (i := 32) (oi := ⟨some 108, _, _, _, _, _⟩) (v := ?_) rfl ?_ ?_; rotate_left; (focus (intro w9 hSw; go_simp; try with_reducible rfl)); simp only [Act.put, Z2, Z3, Z4]
 refine wpGv (i := 33) (oi := ⟨some 109, _, _, _, _, _⟩) (v := ?_) rfl ?_ ?_; rotate_left; (focus (intro w9 hSw; go_simp; try with_reducible rfl)); simp only [Act.put, Z2, Z3, Z4]
 refine wpGv (i := 34) (oi := ⟨some 110, _, _, _, _, _⟩) (v := ?_) rfl ?_ ?_; rotate_left; (focus (intro w9 hSw; go_simp; try with_reducible rfl)); simp only [Act.put, Z2, Z3, Z4]
 refine wpGv (i := 35) (oi := ⟨some 111, _, _, _, _, _⟩) (v := ?_) rfl ?_ ?_; rotate_left; (focus (intro w9 hSw; go_simp; try with_reducible rfl)); simp only [Act.put, Z2, Z3, Z4]
 refine wpGv (i := 36) (oi := ⟨some 112, _, _, _, _, _⟩) (v := ?_) rfl ?_ ?_; rotate_left; (focus (intro w9 hSw; go_simp; try with_reducible rfl)); simp only [Act.put, Z2, Z3, Z4]
 refine wpGv (i := 37) (oi := ⟨some 113, _, _, _, _, _⟩) (v := ?_) rfl ?_ ?_; rotate_left; (focus (intro w9 hSw; go_simp; try with_reducible rfl)); simp only [Act.put, Z2, Z3, Z4]
 refine wpGv (i := 38) (oi := ⟨some 114, _, _, _, _, _⟩) (v := ?_) rfl ?_ ?_; rotate_left; (focus (intro w9 hSw; go_simp; try with_reducible rfl)); simp only [Act.put, Z2, Z3, Z4]
 refine wpG_done (by kernel_rfl) ?_ _
 intro w9 hSw _
 have HS9 := Lib.hid hSw
 have B9 := Lib.hid (HB1.out.trans (hSw.mono HB1.out.size))
 have HT := Lib.hid (fun X (hX : Below w9.heap.size w9 X) => HS9.out.trans (hX.mono HS9.out.size))
 clear hSw
 go_wp2_with fail
 refine wp_region_held_drew (S := fun X => Below w9.heap.size w9 X) (by kernel_rfl) ((Below.refl _ _).drew) (fun hS => ?_)
 have S14 := Lib.hid hS
 generalize World.drew _ = X4 at *
 refine wpHv (i := 0) (oi := ⟨some 126, _, _, _, _, _⟩) (v := ?_) rfl ?_ hS ?_; rotate_left; (focus (intro w8 hSw; go_simp; try with_reducible rfl)); simp only [Act.put, Z2, Z3, Z4]
 refine wpHv (i := 1) (oi := ⟨some 127, _, _, _, _, _⟩) (v := ?_) rfl ?_ hS ?_; rotate_left; (focus (intro w8 hSw; have q0 := EC36.out w8 (HT.out w8 hSw); go_simp; try with_reducible rfl)); simp only [Act.put, Z2, Z3, Z4]
 refine wpHv (i := 2) (oi := ⟨some 128, _, _, _, _, _⟩) (v := ?_) rfl ?_ hS ?_; rotate_left; (focus (intro w8 hSw; go_simp; try with_reducible rfl)); simp only [Act.put, Z2, Z3, Z4]
 refine wpHv (i := 3) (oi := ⟨some 129, _, _, _, _, _⟩) (v := ?_) rfl ?_ hS ?_; rotate_left; (focus (intro w8 hSw; have q0 := CC2.out w8 (HT.out w8 hSw); go_simp; try with_reducible rfl)); simp only [Act.put, Z2, Z3, Z4]
 refine wpAnyH_ready (rs := [4]) (by kernel_rfl) (by simp) (AllReadyH.cons (o := ⟨some 130, _, _, _, _, _⟩) rfl (fun K hK => ?_) AllReadyH.nil)
 go_simp
 refine (of10_any cs X4 (HLA.out _ (B9.out.trans (S14.out.mono B9.out.size))) HCS.out).mono ?_
 rintro e X5 ⟨A5, c5, rfl, hr5, hb5⟩
 have R5 := Lib.hid hr5
 have S5 := Lib.hid (S14.out.trans (hb5.mono S14.out.size))
 clear hr5 hb5
 refine hK.out _ _ S5.out (fun hS => ?_)
 clear hK K
 try simp only [Act.put, Z2, Z3, Z4]
 refine wpAnyH_ready (rs := [5]) (by kernel_rfl) (by simp) (AllReadyH.cons (o := ⟨some 131, _, _, _, _, _⟩) rfl (fun K hK => ?_) AllReadyH.nil)
 go_simp
 refine (show Calls Tryz.prog 30 #[.slice d131.A d131.e.bs.length d131.c, .slice A5 (sgOf (nums cs)).length c5] X5 (fun e w' => e = .returned (.bool true) ∧ Below X5.heap.size X5 w') from by have h := rsame10_any d131.A A5 d131.c c5 d131.e.bs (sgOf (nums cs)) X5 (OU.out.below (HT.out X5 S5.out) (Nat.le_refl _)).2.2.2.2.2.2 R5.out HEL.out; rw [decide_eq_true HEB.out] at h; exact h).mono ?_
 rintro e X6 ⟨rfl, hb6⟩
 have S6 := Lib.hid (S5.out.trans (hb6.mono S5.out.size))
 clear hb6
 refine hK.out _ _ S6.out (fun hS => ?_)
 clear hK K
 try simp only [Act.put, Z2, Z3, Z4]
 refine wpHv (i := 6) (oi := ⟨some 19, _, _, _, _, _⟩) (v := ?_) rfl ?_ hS ?_; rotate_left; (focus (intro w8 hSw; go_simp; try with_reducible rfl)); simp only [Act.put, Z2, Z3, Z4]
 refine wpAnyH_done (by kernel_rfl) ?_ _
 have HT6 := Lib.hid (fun X (hX : Below X6.heap.size X6 X) => HT.out X (S6.out.trans (hX.mono S6.out.size)))
 have B6 := Lib.hid (B9.out.trans (S6.out.mono B9.out.size))
 have QE := Lib.hid (fun X : World => show (Op.equalIn 10000 26 (.agg (bvals (SH.sum (nums cs)))) (.agg (bvals (SH.sum (nums cs))))).run Tryz.prog X = .ok true X from by have h := eq_dig (SH.sum_bytes (nums cs)) (SH.sum_bytes (nums cs)) (SH.sum_len _) (SH.sum_len _) X; rw [beq_self_eq_true] at h; exact h)
 have QT := Lib.hid (fun X : World => show (Op.equalIn 10000 40 (.agg #[.int .i64 cn, .int .i64 cr]) (.agg #[.int .i64 cn, .int .i64 cr])).run Tryz.prog X = .ok true X from by have h := eq_st (n := cn) (r := cr) (m := cn) (s := cr) X; rw [decide_eq_true (And.intro rfl rfl)] at h; exact h)
 have CSH := Lib.hid (fun (X : World) (hX : Below X6.heap.size X6 X) => (show Calls Tryz.prog 32 #[.string cs] X fun e w' => e = .returned (.agg (bvals (SH.sum (nums cs)))) ∧ Below X.heap.size X w' from of_any cs X (HLA.out _ (B6.out.trans (hX.mono B6.out.size))) (by have := HCS.out; omega)))
 go_wp2_with fail
 refine wp_region_G _ (by kernel_rfl) ?_
 refine wpGv (i := 0) (oi := ⟨some 132, _, _, _, _, _⟩) (v := ?_) rfl ?_ ?_; rotate_left; (focus (intro w9 hSw; go_simp; try with_reducible rfl)); simp only [Act.put, Z2, Z3, Z4]
 refine wpGv (i := 1) (oi := ⟨some 133, _, _, _, _, _⟩) (v := ?_) rfl ?_ ?_; rotate_left; (focus (intro w9 hSw; go_simp; try with_reducible rfl)); simp only [Act.put, Z2, Z3, Z4]
 refine wpGv (i := 2) (oi := ⟨some 134, _, _, _, _, _⟩) (v := ?_) rfl ?_ ?_; rotate_left; (focus (intro w9 hSw; go_simp; try with_reducible rfl)); simp only [Act.put, Z2, Z3, Z4]
 refine wpGv (i := 3) (oi := ⟨some 135, _, _, _, _, _⟩) (v := ?_) rfl ?_ ?_; rotate_left; (focus (intro w9 hSw; have q0 := EC1.out w9 (HT6.out w9 hSw); have q1 := EC2.out w9 (HT6.out w9 hSw); go_simp; try with_reducible rfl)); simp only [Act.put, Z2, Z3, Z4]
 refine wpGv (i := 4) (oi := ⟨some 136, _, _, _, _, _⟩) (v := ?_) rfl ?_ ?_; rotate_left; (focus (intro w9 hSw; go_simp; try with_reducible rfl)); simp only [Act.put, Z2, Z3, Z4]
 refine wpGv (i := 5) (oi := ⟨some 137, _, _, _, _, _⟩) (v := ?_) rfl ?_ ?_; rotate_left; (focus (intro w9 hSw; have q0 := CC0.out w9 (HT6.out w9 hSw); have q1 := CC1.out w9 (HT6.out w9 hSw); go_simp; try with_reducible rfl)); simp only [Act.put, Z2, Z3, Z4]
 refine wpGv (i := 6) (oi := ⟨some 138, _, _, _, _, _⟩) (v := (.bool true)) rfl ?_ ?_; (focus (intro w9 hSw; have q0 := QT.out w9; exact exec_eql_at 40 _ _ _ rfl rfl rfl guardStM q0)); simp only [Act.put, Z2, Z3, Z4]
 refine wpGv (i := 7) (oi := ⟨some 139, _, _, _, _, _⟩) (v := ?_) rfl ?_ ?_; rotate_left; (focus (intro w9 hSw; go_simp; try with_reducible rfl)); simp only [Act.put, Z2, Z3, Z4]
 refine wpGv (i := 8) (oi := ⟨some 140, _, _, _, _, _⟩) (v := ?_) rfl ?_ ?_; rotate_left; (focus (intro w9 hSw; go_simp; try with_reducible rfl)); simp only [Act.put, Z2, Z3, Z4]
 refine wpGv (i := 9) (oi := ⟨some 141, _, _, _, _, _⟩) (v := ?_) rfl ?_ ?_; rotate_left; (focus (intro w9 hSw; go_simp; try with_reducible rfl)); simp only [Act.put, Z2, Z3, Z4]
 refine wpGv (i := 10) (oi := ⟨some 142, _, _, _, _, _⟩) (v := ?_) rfl ?_ ?_; rotate_left; (focus (intro w9 hSw; have q0 := EC3.out w9 (HT6.out w9 hSw); go_simp; try with_reducible rfl)); simp only [Act.put, Z2, Z3, Z4]
 refine wpGv (i := 11) (oi := ⟨some 143, _, _, _, _, _⟩) (v := ?_) rfl ?_ ?_; rotate_left; (focus (intro w9 hSw; go_simp; try with_reducible rfl)); simp only [Act.put, Z2, Z3, Z4]
 refine wpGv (i := 12) (oi := ⟨some 144, _, _, _, _, _⟩) (v := ?_) rfl ?_ ?_; rotate_left; (focus (intro w9 hSw; have q0 := CC2.out w9 (HT6.out w9 hSw); go_simp; try with_reducible rfl)); simp only [Act.put, Z2, Z3, Z4]
 refine wpGv (i := 13) (oi := ⟨some 145, _, _, _, _, _⟩) (v := ?_) rfl ?_ ?_; rotate_left; (focus (intro w9 hSw; go_simp; try with_reducible rfl)); simp only [Act.put, Z2, Z3, Z4]
 refine wpGv (i := 14) (oi := ⟨some 146, _, _, _, _, _⟩) (v := ?_) rfl ?_ ?_; rotate_left; (focus (intro w9 hSw; go_simp; try with_reducible rfl)); simp only [Act.put, Z2, Z3, Z4]
 refine wpGv (i := 15) (oi := ⟨some 147, _, _, _, _, _⟩) (v := ?_) rfl ?_ ?_; rotate_left; (focus (intro w9 hSw; go_simp; try with_reducible rfl)); simp only [Act.put, Z2, Z3, Z4]
 refine wpGv (i := 16) (oi := ⟨some 148, _, _, _, _, _⟩) (v := ?_) rfl ?_ ?_; rotate_left; (focus (intro w9 hSw; go_simp; try with_reducible rfl)); simp only [Act.put, Z2, Z3, Z4]
 refine wpGv (i := 17) (oi := ⟨some 149, _, _, _, _, _⟩) (v := ?_) rfl ?_ ?_; rotate_left; (focus (intro w9 hSw; go_simp; try with_reducible rfl)); simp only [Act.put, Z2, Z3, Z4]
 refine wpGv (i := 18) (oi := ⟨some 150, _, _, _, _, _⟩) (v := (.agg (bvals (SH.sum (nums cs))))) rfl ?_ ?_; (focus (intro w9 hSw; exact exec_load_at 26 _ rfl _ rfl (LED.out w9 (HT6.out w9 hSw)))); simp only [Act.put, Z2, Z3, Z4]
 refine wpGv (i := 19) (oi := ⟨some 151, _, _, _, _, _⟩) (v := ?_) rfl ?_ ?_; rotate_left; (focus (intro w9 hSw; go_simp; try with_reducible rfl)); simp only [Act.put, Z2, Z3, Z4]
 refine wpGv (i := 20) (oi := ⟨some 152, _, _, _, _, _⟩) (v := ?_) rfl ?_ ?_; rotate_left; (focus (intro w9 hSw; have q0 := CC2.out w9 (HT6.out w9 hSw); go_simp; try with_reducible rfl)); simp only [Act.put, Z2, Z3, Z4]
 refine wpG_take (i := 21) (oi := ⟨some 153, _, _, _, _, _⟩) rfl (by kernel_rfl) (by kernel_rfl) (by kernel_rfl) (Or.inl ⟨by rfl, unib_call_if ?_ CSH.out⟩) ?_; (focus (intro w9 hSw; go_simp; try with_reducible rfl)); simp only [Act.put, Z2, Z3, Z4]
 refine wpGv (i := 22) (oi := ⟨some 154, _, _, _, _, _⟩) (v := (.bool true)) rfl ?_ ?_; (focus (intro w9 hSw; have q0 := QE.out w9; exact exec_eql_at 26 _ _ _ rfl rfl rfl guardDig q0)); simp only [Act.put, Z2, Z3, Z4]
 refine wpGv (i := 23) (oi := ⟨some 155, _, _, _, _, _⟩) (v := ?_) rfl ?_ ?_; rotate_left; (focus (intro w9 hSw; go_simp; try with_reducible rfl)); simp only [Act.put, Z2, Z3, Z4]
 refine wpGv (i := 24) (oi := ⟨some 6, _, _, _, _, _⟩) (v := ?_) rfl ?_ ?_; rotate_left; (focus (intro w9 hSw; go_simp; try with_reducible rfl)); simp only [Act.put, Z2, Z3, Z4]
 refine wpG_done (by kernel_rfl) ?_ _
 intro w10 hSw _
 have B10 := Lib.hid (B6.out.trans (hSw.mono B6.out.size))
 go_wp2
 go_ret
 exact ⟨rfl, B10.out⟩
theorem walk_manifestKnows (b : Bk) (z : List Int) (no : Int) (w : World) (hlaid : Laid w) (wb : BkAt w b) (wz : z.length = 16 ∧ AllBytes z) (wno : (Lit.int .i64 no).wf = true) :
  Calls Tryz.prog 5 #[.agg #[.slice b.A b.xs.length b.c], .agg (bvals z), .int .i64 no] w fun e w' => e = .returned (.bool true) ∧ Below w.heap.size w w' := by
 cases p : fewB b.rs
 ·exact mkn_few b z no w hlaid wb wz p
 ·cases q : bmay b.rs
  ·exact mkn_may b z no w hlaid wb wz p q
  ·cases r : bat b.rs z with
   | none => exact mkn_00 b z no rc0 w hlaid wb wz p q (by rw [r]; rfl) (by rw [r]; rfl) rfl
   | some R =>
    cases s : rfind R.fs no with
    | none => exact mkn_10 b z no R w hlaid wb wz p q (by rw [r]; rfl) (by rw [r]; rfl) s
    | some c => exact mkn_11 b z no R c.n c.r c.s w hlaid wb wz p q (by rw [r]; rfl) (by rw [r]; rfl) s
end
end Go.Proofs.YtbkopnpafmjicaaGreatDoor
