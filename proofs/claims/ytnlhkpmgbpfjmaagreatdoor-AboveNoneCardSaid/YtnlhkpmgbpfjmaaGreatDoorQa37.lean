import Derived.Test.YtnlhkpmgbpfjmaaGreatDoorQa0
import Derived.Test.YtnlhkpmgbpfjmaaGreatDoorQa35
import Derived.Test.YtnlhkpmgbpfjmaaGreatDoorQa36
import Derived.Test.YtnlhkpmgbpfjmaaGreatDoorQa2
import Derived.Test.YtnlhkpmgbpfjmaaGreatDoorRows
import Derived.ProofKit
import Derived.LaidMore
import Derived.Lib.LaidTab
import Derived.Stop.Joined
import Derived.Stop.LaidErr
/-
  What the functions that a law of this layer reaches answer, part 37. Nothing that was there is written.
-/
namespace Go.Proofs.YtnlhkpmgbpfjmaaGreatDoor
set_option linter.unusedVariables false
set_option linter.unusedSimpArgs false
section
open Go.RowKit Go.Shelf WM
set_option maxRecDepth 100000
theorem len_rs {l : Bk} {V : List Rc} (h : l.rs = V) : l.xs.length = V.length := by rw [← h]; unfold Bk.rs; rw [List.length_map]
theorem parts_new {base : List Int} {Y : List Rc} (h : bmay Y = true) : aparts Y (mof SH.sum base []) = Y := by
 unfold aparts
 rw [h, show mmay (mof SH.sum base []) = true from rfl]
 exact parts_all (bmay_iff.1 h).2.1
theorem parts_nil {m : Mn} : aparts [] m = [] := by unfold aparts; split <;> rfl
set_option maxHeartbeats 16000000 in
theorem abn_few (b : Bk) (w : World) (hlaid : Laid w) (wb : BkAt w b) (p : fewB b.rs = false) : Calls Tryz.prog 7 #[.agg #[.slice b.A b.xs.length b.c]] w fun e w' => e = .returned (.bool true) ∧ Below w.heap.size w w' := by
 have HLA := Lib.hid (fun (X : World) (hX : Below w.heap.size w X) => hlaid.below hX (Nat.le_refl _))
 have Fb := Lib.hid wb
 have hzm := zeroMn
 rw [show mnA0.v = .agg mnA0.cs.toArray from rfl] at hzm
 have hzne : ¬ mnA0.cs.toArray = #[] := by decide
 have hzb : ∀ w : World, (zeroValue 24).run Tryz.prog w = .ok (.agg #[.slice none 0 0]) w := zeroBook
 have PB := Lib.hid p
 clear hlaid wb p
 have B1 := Lib.hid (Below.refl w.heap.size w)
 have T2n := BoAt.new w (.slice b.A b.xs.length b.c)
 have T2 := Lib.hid T2n
 clear T2n
 have B3 := Lib.hid (B1.out.alloc B1.out.size (.cells #[(.slice b.A b.xs.length b.c)] 24))
 have F4 := Lib.hid (Fb.out.below B3.out (Nat.le_refl _))
 go_enter Tryz.func7, Tryz.ntmps7
 have C5 := Lib.hid (abAwake (w.alloc (.cells #[(.slice b.A b.xs.length b.c)] 24)) (HLA.out _ B3.out))
 go_wp2_with fail
 refine C5.out.mono ?_
 rintro e w6 ⟨rfl, hb7⟩
 have T8 := Lib.hid (T2.out.below hb7 T2.out.lt)
 have F9 := Lib.hid (F4.out.below hb7 (Nat.le_refl _))
 have B10 := Lib.hid (B3.out.trans (hb7.mono B3.out.size))
 clear hb7
 have M11 := Lib.hid (T8.out.load)
 have C12 := Lib.hid (fewB_any b w6 F9.out)
 rw [PB.out] at C12
 go_wp2_with (first | ((with_reducible refine wpList_load_by (o := ⟨some 11, .load 24 (.tmp 1), _, _, _, _⟩) ?e1 24 (.tmp 1) ?e2 ⟨w.heap.size, 0, none⟩ ?e3 _ M11.out ?_); (case e1 => rfl); (case e2 => rfl); (case e3 => rfl)))
 refine C12.out.mono ?_
 rintro e w13 ⟨rfl, hb14⟩
 have T15 := Lib.hid (T8.out.below hb14 T8.out.lt)
 have F16 := Lib.hid (F9.out.below hb14 (Nat.le_refl _))
 have B17 := Lib.hid (B10.out.trans (hb14.mono B10.out.size))
 clear hb14
 go_wp2
 go_ret
 exact ⟨rfl, B17.out⟩
set_option maxHeartbeats 16000000 in
theorem abn_may (b : Bk) (w : World) (hlaid : Laid w) (wb : BkAt w b) (p : fewB b.rs = true) (q : bmay b.rs = false) : Calls Tryz.prog 7 #[.agg #[.slice b.A b.xs.length b.c]] w fun e w' => e = .returned (.bool true) ∧ Below w.heap.size w w' := by
 have HLA := Lib.hid (fun (X : World) (hX : Below w.heap.size w X) => hlaid.below hX (Nat.le_refl _))
 have Fb := Lib.hid wb
 have hzm := zeroMn
 rw [show mnA0.v = .agg mnA0.cs.toArray from rfl] at hzm
 have hzne : ¬ mnA0.cs.toArray = #[] := by decide
 have hzb : ∀ w : World, (zeroValue 24).run Tryz.prog w = .ok (.agg #[.slice none 0 0]) w := zeroBook
 have PB := Lib.hid p
 have PY := Lib.hid q
 clear hlaid wb p q
 have B1 := Lib.hid (Below.refl w.heap.size w)
 have T2n := BoAt.new w (.slice b.A b.xs.length b.c)
 have T2 := Lib.hid T2n
 clear T2n
 have B3 := Lib.hid (B1.out.alloc B1.out.size (.cells #[(.slice b.A b.xs.length b.c)] 24))
 have F4 := Lib.hid (Fb.out.below B3.out (Nat.le_refl _))
 go_enter Tryz.func7, Tryz.ntmps7
 have C5 := Lib.hid (abAwake (w.alloc (.cells #[(.slice b.A b.xs.length b.c)] 24)) (HLA.out _ B3.out))
 go_wp2_with fail
 refine C5.out.mono ?_
 rintro e w6 ⟨rfl, hb7⟩
 have T8 := Lib.hid (T2.out.below hb7 T2.out.lt)
 have F9 := Lib.hid (F4.out.below hb7 (Nat.le_refl _))
 have B10 := Lib.hid (B3.out.trans (hb7.mono B3.out.size))
 clear hb7
 have M11 := Lib.hid (T8.out.load)
 have C12 := Lib.hid (fewB_any b w6 F9.out)
 rw [PB.out] at C12
 go_wp2_with (first | ((with_reducible refine wpList_load_by (o := ⟨some 11, .load 24 (.tmp 1), _, _, _, _⟩) ?e1 24 (.tmp 1) ?e2 ⟨w.heap.size, 0, none⟩ ?e3 _ M11.out ?_); (case e1 => rfl); (case e2 => rfl); (case e3 => rfl)))
 refine C12.out.mono ?_
 rintro e w13 ⟨rfl, hb14⟩
 have T15 := Lib.hid (T8.out.below hb14 T8.out.lt)
 have F16 := Lib.hid (F9.out.below hb14 (Nat.le_refl _))
 have B17 := Lib.hid (B10.out.trans (hb14.mono B10.out.size))
 clear hb14
 have M18 := Lib.hid (T15.out.load)
 have C19 := Lib.hid (bmay_any b w13 F16.out)
 rw [PY.out] at C19
 go_wp2_with (first | ((with_reducible refine wpList_load_by (o := ⟨some 20, .load 24 (.tmp 1), _, _, _, _⟩) ?e1 24 (.tmp 1) ?e2 ⟨w.heap.size, 0, none⟩ ?e3 _ M18.out ?_); (case e1 => rfl); (case e2 => rfl); (case e3 => rfl)))
 refine C19.out.mono ?_
 rintro e w20 ⟨rfl, hb21⟩
 have T22 := Lib.hid (T15.out.below hb21 T15.out.lt)
 have F23 := Lib.hid (F16.out.below hb21 (Nat.le_refl _))
 have B24 := Lib.hid (B17.out.trans (hb21.mono B17.out.size))
 clear hb21
 go_wp2
 go_ret
 exact ⟨rfl, B24.out⟩
set_option maxHeartbeats 16000000 in
theorem abn_all (b : Bk) (w : World) (hlaid : Laid w) (wb : BkAt w b) (p : fewB b.rs = true) (q : bmay b.rs = true) : Calls Tryz.prog 7 #[.agg #[.slice b.A b.xs.length b.c]] w fun e w' => e = .returned (.bool true) ∧ Below w.heap.size w w' := by
 have HLA := Lib.hid (fun (X : World) (hX : Below w.heap.size w X) => hlaid.below hX (Nat.le_refl _))
 have Fb := Lib.hid wb
 have hzm := zeroMn
 rw [show mnA0.v = .agg mnA0.cs.toArray from rfl] at hzm
 have hzne : ¬ mnA0.cs.toArray = #[] := by decide
 have hzb : ∀ w : World, (zeroValue 24).run Tryz.prog w = .ok (.agg #[.slice none 0 0]) w := zeroBook
 have hb0 := build_book0
 obtain ⟨M0, hM0⟩ : ∃ M, mof SH.sum (SH.sum [0]) [] = M := ⟨_, rfl⟩
 have HM0 := Lib.hid (show mofB bk0.rs = some M0 from by rw [← hM0]; rfl)
 obtain ⟨MB, hMB⟩ : ∃ M, mof SH.sum (SH.sum (bbs b.rs)) b.rs = M := ⟨_, rfl⟩
 have HMB := Lib.hid (show mofB b.rs = some MB from by rw [← hMB]; exact if_pos q)
 have HP0 := Lib.hid (show aparts b.rs M0 = b.rs from by rw [← hM0]; exact parts_new q)
 have HP1 := Lib.hid (show aparts b.rs MB = [] from by rw [← hMB]; exact aparts_own q)
 have PB := Lib.hid p
 have PY := Lib.hid q
 clear hlaid wb p q hM0 hMB
 have B1 := Lib.hid (Below.refl w.heap.size w)
 have T2n := BoAt.new w (.slice b.A b.xs.length b.c)
 have T2 := Lib.hid T2n
 clear T2n
 have B3 := Lib.hid (B1.out.alloc B1.out.size (.cells #[(.slice b.A b.xs.length b.c)] 24))
 have F4 := Lib.hid (Fb.out.below B3.out (Nat.le_refl _))
 go_enter Tryz.func7, Tryz.ntmps7
 have C5 := Lib.hid (abAwake (w.alloc (.cells #[(.slice b.A b.xs.length b.c)] 24)) (HLA.out _ B3.out))
 go_wp2_with fail
 refine C5.out.mono ?_
 rintro e w6 ⟨rfl, hb7⟩
 have T8 := Lib.hid (T2.out.below hb7 T2.out.lt)
 have F9 := Lib.hid (F4.out.below hb7 (Nat.le_refl _))
 have B10 := Lib.hid (B3.out.trans (hb7.mono B3.out.size))
 clear hb7
 have M11 := Lib.hid (T8.out.load)
 have C12 := Lib.hid (fewB_any b w6 F9.out)
 rw [PB.out] at C12
 go_wp2_with (first | ((with_reducible refine wpList_load_by (o := ⟨some 11, .load 24 (.tmp 1), _, _, _, _⟩) ?e1 24 (.tmp 1) ?e2 ⟨w.heap.size, 0, none⟩ ?e3 _ M11.out ?_); (case e1 => rfl); (case e2 => rfl); (case e3 => rfl)))
 refine C12.out.mono ?_
 rintro e w13 ⟨rfl, hb14⟩
 have T15 := Lib.hid (T8.out.below hb14 T8.out.lt)
 have F16 := Lib.hid (F9.out.below hb14 (Nat.le_refl _))
 have B17 := Lib.hid (B10.out.trans (hb14.mono B10.out.size))
 clear hb14
 have M18 := Lib.hid (T15.out.load)
 have C19 := Lib.hid (bmay_any b w13 F16.out)
 rw [PY.out] at C19
 go_wp2_with (first | ((with_reducible refine wpList_load_by (o := ⟨some 20, .load 24 (.tmp 1), _, _, _, _⟩) ?e1 24 (.tmp 1) ?e2 ⟨w.heap.size, 0, none⟩ ?e3 _ M18.out ?_); (case e1 => rfl); (case e2 => rfl); (case e3 => rfl)))
 refine C19.out.mono ?_
 rintro e w20 ⟨rfl, hb21⟩
 have T22 := Lib.hid (T15.out.below hb21 T15.out.lt)
 have F23 := Lib.hid (F16.out.below hb21 (Nat.le_refl _))
 have B24 := Lib.hid (B17.out.trans (hb21.mono B17.out.size))
 clear hb21
 have C28 := Lib.hid ((show Calls Tryz.prog 21 #[.agg #[.slice none 0 0]] w20 (fun e w' => ∃ m : MnA, e = .returned (.tuple #[.agg m.cs.toArray, .bool true]) ∧ m.m = M0 ∧ m.Ok w' ∧ Below (w20).heap.size w20 w') from by have h := pof12_any bk0 w20 (HLA.out _ B24.out) (BkAt.zero _); rw [HM0.out] at h; exact h))
 go_wp2_with fail
 refine C28.out.mono ?_
 rintro e w29 ⟨d25, rfl, hd26, hk27, hb30⟩
 have T31 := Lib.hid (T22.out.below hb30 T22.out.lt)
 have F32 := Lib.hid (F23.out.below hb30 (Nat.le_refl _))
 have B33 := Lib.hid (B24.out.trans (hb30.mono B24.out.size))
 clear hb30
 have E34 := Lib.hid (hd26)
 have F35 := Lib.hid (hk27)
 clear hd26 hk27
 have SZ35 := Lib.hid (mn_size F35.out)
 have SQ35 := Lib.hid (show mnA0.cs.toArray.size = d25.cs.toArray.size by rw [mnA0_size, List.size_toArray]; exact (MnA.len F35.out).symm)
 have SO35 := Lib.hid (mn_ones d25)
 have L37 := Lib.hid (MnA.len F35.out)
 have hb38 := (Below.refl w29.heap.size w29).alloc (Nat.le_refl _) (.cells d25.cs.toArray 29)
 have T39 := Lib.hid (RowAt.new w29 d25.cs.toArray 29)
 have T40 := Lib.hid (T31.out.below hb38 T31.out.lt)
 have F41 := Lib.hid (F32.out.below hb38 (Nat.le_refl _))
 have F42 := Lib.hid (F35.out.below hb38 (Nat.le_refl _))
 have B43 := Lib.hid (B33.out.trans (hb38.mono B33.out.size))
 clear hb38
 have M47 := Lib.hid (T40.out.load)
 have C48 := Lib.hid ((show Calls Tryz.prog 21 #[.agg #[.slice b.A b.xs.length b.c]] (w29.alloc (.cells d25.cs.toArray 29)) (fun e w' => ∃ m : MnA, e = .returned (.tuple #[.agg m.cs.toArray, .bool true]) ∧ m.m = MB ∧ m.Ok w' ∧ Below ((w29.alloc (.cells d25.cs.toArray 29))).heap.size (w29.alloc (.cells d25.cs.toArray 29)) w') from by have h := pof12_any b (w29.alloc (.cells d25.cs.toArray 29)) (HLA.out _ B43.out) F41.out; rw [HMB.out] at h; exact h))
 go_wp2_with (first | ((with_reducible refine wpList_load_by (o := ⟨some 31, .load 24 (.tmp 1), _, _, _, _⟩) ?e1 24 (.tmp 1) ?e2 ⟨w.heap.size, 0, none⟩ ?e3 _ M47.out ?_); (case e1 => rfl); (case e2 => rfl); (case e3 => rfl)) | ((with_reducible refine wpList_store_new (o := ⟨none, .store 29 (.tmp 5) (.tmp 28), _, _, _, _⟩) ?e1 29 (.tmp 5) (.tmp 28) ?e2 ?e3 mnA0.cs.toArray d25.cs.toArray ?e4 SZ35.out SQ35.out SO35.out ?_); (case e1 => rfl); (case e2 => rfl); (case e3 => (first | rfl | exact congrArg (fun q => Value.pointer (some ⟨q, 0, none⟩)) (World.size_alloc _ _).symm)); (case e4 => rfl)))
 refine C48.out.mono ?_
 rintro e w49 ⟨d44, rfl, hd45, hk46, hb50⟩
 have T51 := Lib.hid (T40.out.below hb50 T40.out.lt)
 have T52 := Lib.hid (T39.out.below hb50 T39.out.lt)
 have F53 := Lib.hid (F41.out.below hb50 (Nat.le_refl _))
 have F54 := Lib.hid (F42.out.below hb50 (Nat.le_refl _))
 have B55 := Lib.hid (B43.out.trans (hb50.mono B43.out.size))
 clear hb50
 have E56 := Lib.hid (hd45)
 have F57 := Lib.hid (hk46)
 clear hd45 hk46
 have SZ57 := Lib.hid (mn_size F57.out)
 have SQ57 := Lib.hid (show mnA0.cs.toArray.size = d44.cs.toArray.size by rw [mnA0_size, List.size_toArray]; exact (MnA.len F57.out).symm)
 have SO57 := Lib.hid (mn_ones d44)
 have L59 := Lib.hid (MnA.len F57.out)
 have hb60 := (Below.refl w49.heap.size w49).alloc (Nat.le_refl _) (.cells d44.cs.toArray 29)
 have T61 := Lib.hid (RowAt.new w49 d44.cs.toArray 29)
 have T62 := Lib.hid (T51.out.below hb60 T51.out.lt)
 have T63 := Lib.hid (T52.out.below hb60 T52.out.lt)
 have F64 := Lib.hid (F53.out.below hb60 (Nat.le_refl _))
 have F65 := Lib.hid (F54.out.below hb60 (Nat.le_refl _))
 have F66 := Lib.hid (F57.out.below hb60 (Nat.le_refl _))
 have B67 := Lib.hid (B55.out.trans (hb60.mono B55.out.size))
 clear hb60
 have M74 := Lib.hid (T63.out.mn L37.out)
 have M75 := Lib.hid (T62.out.load)
 have C76 := Lib.hid ((show Calls Tryz.prog 16 #[.agg #[.slice b.A b.xs.length b.c], .agg d25.cs.toArray] (w49.alloc (.cells d44.cs.toArray 29)) (fun e w' => ∃ l : Bk, e = .returned (.slice l.A l.xs.length l.c) ∧ l.rs = b.rs ∧ BkAt w' l ∧ (∀ x ∈ l.xs, FTag w' x.A) ∧ Below ((w49.alloc (.cells d44.cs.toArray 29))).heap.size (w49.alloc (.cells d44.cs.toArray 29)) w') from by have h := parts14_any b d25 (w49.alloc (.cells d44.cs.toArray 29)) (HLA.out _ B67.out) F64.out F65.out; unfold PartsPost at h; rw [E34.out, HP0.out] at h; exact h))
 go_wp2_with (first | ((with_reducible refine wpList_load_at (o := ⟨some 36, .load 29 (.tmp 5), _, _, _, _⟩) ?e1 29 (.tmp 5) ?e2 ⟨w29.heap.size, 0, none⟩ ?e3 _ M74.out ?_); (case e1 => rfl); (case e2 => rfl); (case e3 => rfl)) | ((with_reducible refine wpList_load_by (o := ⟨some 35, .load 24 (.tmp 1), _, _, _, _⟩) ?e1 24 (.tmp 1) ?e2 ⟨w.heap.size, 0, none⟩ ?e3 _ M75.out ?_); (case e1 => rfl); (case e2 => rfl); (case e3 => rfl)) | ((with_reducible refine wpList_store_new (o := ⟨none, .store 29 (.tmp 7) (.tmp 33), _, _, _, _⟩) ?e1 29 (.tmp 7) (.tmp 33) ?e2 ?e3 mnA0.cs.toArray d44.cs.toArray ?e4 SZ57.out SQ57.out SO57.out ?_); (case e1 => rfl); (case e2 => rfl); (case e3 => (first | rfl | exact congrArg (fun q => Value.pointer (some ⟨q, 0, none⟩)) (World.size_alloc _ _).symm)); (case e4 => rfl)))
 refine C76.out.mono ?_
 rintro e w77 ⟨l68, he69, hr70, hk71, ht72, hb78⟩
 have hl73 : l68.xs.length = b.xs.length := (len_rs hr70).trans (len_rs rfl).symm
 rw [hl73] at he69
 subst he69
 have T79 := Lib.hid (T62.out.below hb78 T62.out.lt)
 have T80 := Lib.hid (T63.out.below hb78 T63.out.lt)
 have T81 := Lib.hid (T61.out.below hb78 T61.out.lt)
 have F82 := Lib.hid (F64.out.below hb78 (Nat.le_refl _))
 have F83 := Lib.hid (F65.out.below hb78 (Nat.le_refl _))
 have F84 := Lib.hid (F66.out.below hb78 (Nat.le_refl _))
 have B85 := Lib.hid (B67.out.trans (hb78.mono B67.out.size))
 clear hb78
 have E86 := Lib.hid (hr70)
 have L87 := Lib.hid (hl73)
 have F88 := Lib.hid (hk71)
 clear hr70 hk71 ht72 hl73
 have c0 := T79.out.c0
 have M95 := Lib.hid (T81.out.mn L59.out)
 have C96 := Lib.hid ((show Calls Tryz.prog 16 #[.agg #[.slice none 0 0], .agg d44.cs.toArray] w77 (fun e w' => ∃ l : Bk, e = .returned (.slice l.A l.xs.length l.c) ∧ l.rs = [] ∧ BkAt w' l ∧ (∀ x ∈ l.xs, FTag w' x.A) ∧ Below (w77).heap.size w77 w') from by have h := parts14_any bk0 d44 w77 (HLA.out _ B85.out) (BkAt.zero _) F84.out; unfold PartsPost at h; rw [show bk0.rs = [] from rfl, parts_nil] at h; exact h))
 go_wp2_with (first | ((with_reducible refine wpList_load_at (o := ⟨some 46, .load 29 (.tmp 7), _, _, _, _⟩) ?e1 29 (.tmp 7) ?e2 ⟨w49.heap.size, 0, none⟩ ?e3 _ M95.out ?_); (case e1 => rfl); (case e2 => rfl); (case e3 => rfl)))
 refine C96.out.mono ?_
 rintro e w97 ⟨l89, he90, hr91, hk92, ht93, hb98⟩
 have hl94 : l89.xs.length = 0 := len_rs hr91
 rw [hl94] at he90
 subst he90
 have T99 := Lib.hid (T79.out.below hb98 T79.out.lt)
 have T100 := Lib.hid (T80.out.below hb98 T80.out.lt)
 have T101 := Lib.hid (T81.out.below hb98 T81.out.lt)
 have F102 := Lib.hid (F82.out.below hb98 (Nat.le_refl _))
 have F103 := Lib.hid (F83.out.below hb98 (Nat.le_refl _))
 have F104 := Lib.hid (F84.out.below hb98 (Nat.le_refl _))
 have F105 := Lib.hid (F88.out.below hb98 (Nat.le_refl _))
 have B106 := Lib.hid (B85.out.trans (hb98.mono B85.out.size))
 clear hb98
 have E107 := Lib.hid (hr91)
 have L108 := Lib.hid (hl94)
 have F109 := Lib.hid (hk92)
 clear hr91 hk92 ht93 hl94
 try clear c0
 have M116 := Lib.hid (T101.out.mn L59.out)
 have M117 := Lib.hid (T99.out.load)
 have C118 := Lib.hid ((show Calls Tryz.prog 16 #[.agg #[.slice b.A b.xs.length b.c], .agg d44.cs.toArray] w97 (fun e w' => ∃ l : Bk, e = .returned (.slice l.A l.xs.length l.c) ∧ l.rs = [] ∧ BkAt w' l ∧ (∀ x ∈ l.xs, FTag w' x.A) ∧ Below (w97).heap.size w97 w') from by have h := parts14_any b d44 w97 (HLA.out _ B106.out) F102.out F104.out; unfold PartsPost at h; rw [E56.out, HP1.out] at h; exact h))
 go_wp2_with (first | ((with_reducible refine wpList_load_at (o := ⟨some 53, .load 29 (.tmp 7), _, _, _, _⟩) ?e1 29 (.tmp 7) ?e2 ⟨w49.heap.size, 0, none⟩ ?e3 _ M116.out ?_); (case e1 => rfl); (case e2 => rfl); (case e3 => rfl)) | ((with_reducible refine wpList_load_by (o := ⟨some 52, .load 24 (.tmp 1), _, _, _, _⟩) ?e1 24 (.tmp 1) ?e2 ⟨w.heap.size, 0, none⟩ ?e3 _ M117.out ?_); (case e1 => rfl); (case e2 => rfl); (case e3 => rfl)))
 refine C118.out.mono ?_
 rintro e w119 ⟨l110, he111, hr112, hk113, ht114, hb120⟩
 have hl115 : l110.xs.length = 0 := len_rs hr112
 rw [hl115] at he111
 subst he111
 have T121 := Lib.hid (T99.out.below hb120 T99.out.lt)
 have T122 := Lib.hid (T100.out.below hb120 T100.out.lt)
 have T123 := Lib.hid (T101.out.below hb120 T101.out.lt)
 have F124 := Lib.hid (F102.out.below hb120 (Nat.le_refl _))
 have F125 := Lib.hid (F103.out.below hb120 (Nat.le_refl _))
 have F126 := Lib.hid (F104.out.below hb120 (Nat.le_refl _))
 have F127 := Lib.hid (F105.out.below hb120 (Nat.le_refl _))
 have F128 := Lib.hid (F109.out.below hb120 (Nat.le_refl _))
 have B129 := Lib.hid (B106.out.trans (hb120.mono B106.out.size))
 clear hb120
 have E130 := Lib.hid (hr112)
 have L131 := Lib.hid (hl115)
 have F132 := Lib.hid (hk113)
 clear hr112 hk113 ht114 hl115
 have M133 := Lib.hid (T121.out.load)
 have C134 := Lib.hid ((show Calls Tryz.prog 24 #[.agg #[.slice l68.A b.xs.length l68.c], .agg #[.slice b.A b.xs.length b.c]] w119 (fun e w' => e = .returned (.bool true) ∧ Below (w119).heap.size w119 w') from by have h := bsame_any l68 b w119 F127.out F124.out; rw [L87.out, E86.out, bsame_self] at h; exact h))
 go_wp2_with (first | ((with_reducible refine wpList_load_by (o := ⟨some 60, .load 24 (.tmp 1), _, _, _, _⟩) ?e1 24 (.tmp 1) ?e2 ⟨w.heap.size, 0, none⟩ ?e3 _ M133.out ?_); (case e1 => rfl); (case e2 => rfl); (case e3 => rfl)) | ((with_reducible refine wpList_build_by (o := ⟨some 59, .build 24 #[(0, .tmp 58)], _, _, _, _⟩) ?e1 24 #[(0, .tmp 58)] ?e2 #[(0, .slice l68.A b.xs.length l68.c)] ?e3 _ (build_book _ _ _ _) ?_); (case e1 => rfl); (case e2 => rfl); (case e3 => (simp only [List.map_toArray, List.map_cons, List.map_nil]; rfl))))
 refine C134.out.mono ?_
 rintro e w135 ⟨rfl, hb136⟩
 have T137 := Lib.hid (T121.out.below hb136 T121.out.lt)
 have T138 := Lib.hid (T122.out.below hb136 T122.out.lt)
 have T139 := Lib.hid (T123.out.below hb136 T123.out.lt)
 have F140 := Lib.hid (F124.out.below hb136 (Nat.le_refl _))
 have F141 := Lib.hid (F125.out.below hb136 (Nat.le_refl _))
 have F142 := Lib.hid (F126.out.below hb136 (Nat.le_refl _))
 have F143 := Lib.hid (F127.out.below hb136 (Nat.le_refl _))
 have F144 := Lib.hid (F128.out.below hb136 (Nat.le_refl _))
 have F145 := Lib.hid (F132.out.below hb136 (Nat.le_refl _))
 have B146 := Lib.hid (B129.out.trans (hb136.mono B129.out.size))
 clear hb136
 go_wp2
 go_ret
 exact ⟨rfl, B146.out⟩
theorem walk_aboveNone (b : Bk) (w : World) (hlaid : Laid w) (wb : BkAt w b) : Calls Tryz.prog 7 #[.agg #[.slice b.A b.xs.length b.c]] w fun e w' => e = .returned (.bool true) ∧ Below w.heap.size w w' := by
 cases p : fewB b.rs
 ·exact abn_few b w hlaid wb p
 ·cases q : bmay b.rs
  ·exact abn_may b w hlaid wb p q
  ·exact abn_all b w hlaid wb p q
end
section
open Go.ChangeShapes Go.WideShapes Go.ChangeAt Go.RowKit
def laid2 : List (String × DataW Unit) := [("rolodex/sha.squareRoots", Rows.laid_rolodex_sha_squareRoots), ("rolodex/sha.cubeRoots", Rows.laid_rolodex_sha_cubeRoots)]
theorem gSquare : Tryz.prog.globalNamed "rolodex/sha.squareRoots" = some 0 := by kernel_rfl
theorem gCube : Tryz.prog.globalNamed "rolodex/sha.cubeRoots" = some 1 := by kernel_rfl
theorem tSquare : (Tryz.prog.globals[0]?).map (·.type) = some 130 := by kernel_rfl
theorem tCube : (Tryz.prog.globals[1]?).map (·.type) = some 162 := by kernel_rfl
theorem dSquare : (Rows.laid_rolodex_sha_squareRoots : DataW Unit) = Lib.tabData .u32 (SH.H0.list.map fun n : Nat => (n : Int)) := by kernel_rfl
theorem dCube : (Rows.laid_rolodex_sha_cubeRoots : DataW Unit) = Lib.tabData .u32 (SH.K.map fun n : Nat => (n : Int)) := by kernel_rfl
theorem cW : Tryz.prog.cellsOf 120 = 1 := by kernel_rfl
theorem c8 : Tryz.prog.cellsOf 130 = 8 := by kernel_rfl
theorem c64 : Tryz.prog.cellsOf 162 = 64 := by kernel_rfl
theorem map_getD (l : List Nat) (i : Nat) : (l.map fun n : Nat => (n : Int)).getD i 0 = ((l.getD i 0 : Nat) : Int) := by
 rcases Nat.lt_or_ge i l.length with h | h
 ·simp [List.getD, List.getElem?_eq_getElem h]
 ·simp [List.getD, List.getElem?_eq_none h]
theorem block_lt {W : World} {g i : Nat} {v : Value} (h : W.cell? ⟨g, i, none⟩ = some v) : g < W.heap.size := by
 rcases Nat.lt_or_ge g W.heap.size with h2 | h2
 ·exact h2
 ·rw [World.cell?] at h
  rw [Array.getElem?_eq_none h2] at h
  cases h
theorem of_laid {W : World} (h : laidMetH Tryz.prog laid2 W) : Laid W := by
 rw [MakeChecks.laidMetH_plain _ _ _ (by kernel_rfl)] at h
 unfold laid2 at h
 rw [dSquare, dCube] at h
 have t1 := Lib.tabIs_of_head gSquare tSquare Tryz.underlying130 Tryz.underlying120 cW c8 h
 have t2 := Lib.tabIs_of_head gCube tCube Tryz.underlying162 Tryz.underlying120 cW c64 h.tail
 have a1 : ∀ i, i < 8 → W.cell? ⟨0, i, none⟩ = some (.int .u32 (SH.H0.list.getD i 0 : Nat)) := fun i hi => by rw [t1.cell gSquare i (by rw [List.length_map]; exact hi), map_getD]
 have a2 : ∀ i, i < 64 → W.cell? ⟨1, i, none⟩ = some (.int .u32 (SH.K.getD i 0 : Nat)) := fun i hi => by rw [t2.cell gCube i (by rw [List.length_map, SH.K_len]; exact hi), map_getD]
 exact ⟨a1, a2, block_lt (a1 0 (by omega)), block_lt (a2 0 (by omega))⟩
theorem door_met (os : Os) (args : Array Value) : laidMetH Tryz.prog laid2 ((World.doorLaid Tryz.prog 400 os).forCall (fun _ _ => 0) ⟨#[], args, []⟩).memory :=
 laidMetH_of_parts3 (fuel := 8) (laidMet_of_run' 8 (by kernel_rfl) (by kernel_rfl)) (by kernel_rfl) (by kernel_rfl)
end
end Go.Proofs.YtnlhkpmgbpfjmaaGreatDoor
