import Derived.Test.YtnlhkpmgbpfjmaaGreatDoorQc0
import Derived.Test.YtnlhkpmgbpfjmaaGreatDoorQc24
import Derived.Test.YtnlhkpmgbpfjmaaGreatDoorQc32
import Derived.Test.YtnlhkpmgbpfjmaaGreatDoorQc34
import Derived.Test.YtnlhkpmgbpfjmaaGreatDoorQc20
import Derived.Test.YtnlhkpmgbpfjmaaGreatDoorQc15
import Derived.Test.YtnlhkpmgbpfjmaaGreatDoorQc26
import Derived.Test.YtnlhkpmgbpfjmaaGreatDoorQc21
import Derived.Test.YtnlhkpmgbpfjmaaGreatDoorQc2
import Derived.Test.YtnlhkpmgbpfjmaaGreatDoorQc13
import Derived.Test.YtnlhkpmgbpfjmaaGreatDoorQc25
import Derived.Test.YtnlhkpmgbpfjmaaGreatDoorQc28
import Derived.Test.YtnlhkpmgbpfjmaaGreatDoorQc9
import Derived.Test.YtnlhkpmgbpfjmaaGreatDoorQc7
import Derived.Test.YtnlhkpmgbpfjmaaGreatDoorQc23
import Derived.Test.YtnlhkpmgbpfjmaaGreatDoorQc12
import Derived.Test.YtnlhkpmgbpfjmaaGreatDoorQc14
import Derived.Test.YtnlhkpmgbpfjmaaGreatDoorQc1
import Derived.Test.YtnlhkpmgbpfjmaaGreatDoorQc4
import Derived.Test.YtnlhkpmgbpfjmaaGreatDoorQc5
import Derived.Test.YtnlhkpmgbpfjmaaGreatDoorQc6
import Derived.Test.YtnlhkpmgbpfjmaaGreatDoorQc8
import Derived.Test.YtnlhkpmgbpfjmaaGreatDoorQc22
import Derived.Test.YtnlhkpmgbpfjmaaGreatDoorQc16
import Derived.Test.YtnlhkpmgbpfjmaaGreatDoorQc19
import Derived.Test.YtnlhkpmgbpfjmaaGreatDoorQc18
import Derived.Test.YtnlhkpmgbpfjmaaGreatDoorQc17
import Derived.RangeFuncNested
import Derived.RangeFuncBound
import Derived.RangeFuncCalls
import Derived.RangeFuncLeaves
import Derived.RangeFuncBox
import Derived.Shelf.Abstract
import Derived.Shelf.RegionOpen
import Derived.WalkKit
import Derived.OwnWalkIn
import Derived.TacticsInMore
import Derived.LoopNIn
import Derived.LoopIn
import Derived.BigQuiet
import Derived.Deep.RegionHeld3
import Derived.Defers
import Derived.Recover
/-
  What the functions that a law of this layer reaches answer, part 35. Nothing that was there is written.
-/
namespace Go.Proofs.YtnlhkpmgbpfjmaaGreatDoor
set_option linter.unusedVariables false
set_option linter.unusedSimpArgs false
section
open Go.RowKit WM
set_option maxRecDepth 100000
set_option maxHeartbeats 16000000 in
theorem abAwake (w : World) (hlaid : Laid w) : Calls Tryz.prog 9 #[] w fun e w' => e = .returned (.bool true) ∧ Below w.heap.size w w' := by
 have HLA := Lib.hid (fun (X : World) (hX : Below w.heap.size w X) => hlaid.below hX (Nat.le_refl _))
 have hzb : ∀ w : World, (zeroValue 24).run Tryz.prog w = .ok (.agg #[.slice none 0 0]) w := zeroBook
 have hzm := zeroMn
 rw [show mnA0.v = .agg mnA0.cs.toArray from rfl] at hzm
 have hzne1 : ¬ mnA0.cs.toArray = #[] := by decide
 have hb0 := build_book0
 have hb7 := build_z7
 have HB7 := Lib.hid build_z7
 have HWX := Lib.hid write_X
 have HAD := Lib.hid addE_X
 obtain ⟨MX, hMX⟩ : ∃ M, mof SH.sum (SH.sum (bbs [recX])) [recX] = M := ⟨_, rfl⟩
 obtain ⟨M0, hM0⟩ : ∃ M, mof SH.sum (SH.sum [0]) [] = M := ⟨_, rfl⟩
 have HMX := Lib.hid (show mofB [recX] = some MX from by rw [← hMX]; exact if_pos may_X12)
 have HM0 := Lib.hid (show mofB bk0.rs = some M0 from by rw [← hM0]; rfl)
 have HA0 := Lib.hid (show aparts [recX] M0 = [recX] from by rw [← hM0]; exact aparts_none)
 have HA1 := Lib.hid (show aparts [recX] MX = [] from by rw [← hMX]; exact aparts_own may_X12)
 have HX0 := Lib.hid (show exc fldX.c M0 z7 2 = true from by rw [← hM0]; exact exc_X0)
 have HX1 := Lib.hid (show exc fldX.c MX z7 2 = false from by rw [← hMX]; exact exc_X1)
 have HBD0 := Lib.hid (fun (q : MnA) (h : q.m = M0) => mmay_bd (m := q) (by rw [h, ← hM0]; rfl))
 have HBDX := Lib.hid (fun (q : MnA) (h : q.m = MX) => mmay_bd (m := q) (by rw [h, ← hMX]; exact mof_may _ _ _ may_X12))
 clear hlaid hMX hM0
 have B1 := Lib.hid (Below.refl w.heap.size w)
 go_enter Tryz.func9, Tryz.ntmps9
 have C5 := Lib.hid ((show Calls Tryz.prog 32 #[.agg #[.slice none 0 0], .agg (bvals z7), .int .i64 2, .int .i64 1, .string ⟨#[120]⟩] w (fun e w' => ∃ d : Bk, e = .returned (.tuple #[.agg #[.slice d.A d.xs.length d.c], .int .i64 0]) ∧ d.rs = [recX] ∧ BkAt w' d ∧ Below (w).heap.size w w') from by have h := bwrite_any bk0 z7 2 1 ⟨#[120]⟩ w (HLA.out _ B1.out) (BkAt.zero _) z7_len z7_bytes; unfold BJoinPost at h; rw [show bk0.rs = [] from rfl, HWX.out] at h; exact h))
 go_wp2_with fail
 refine C5.out.mono ?_
 rintro e w6 ⟨d2, rfl, hd3, hk4, hb7⟩
 have B8 := Lib.hid (B1.out.trans (hb7.mono B1.out.size))
 clear hb7
 have E9 := Lib.hid (hd3)
 have F10 := Lib.hid (hk4)
 clear hd3 hk4
 have hb11 := (Below.refl w6.heap.size w6).alloc (Nat.le_refl _) (.cells #[(.slice d2.A d2.xs.length d2.c)] 24)
 have T12 := Lib.hid (BoAt.new w6 (.slice d2.A d2.xs.length d2.c))
 have F13 := Lib.hid (F10.out.below hb11 (Nat.le_refl _))
 have B14 := Lib.hid (B8.out.trans (hb11.mono B8.out.size))
 clear hb11
 have M18 := Lib.hid (T12.out.load)
 have C19 := Lib.hid ((show Calls Tryz.prog 21 #[.agg #[.slice d2.A d2.xs.length d2.c]] (w6.alloc (.cells #[(.slice d2.A d2.xs.length d2.c)] 24)) (fun e w' => ∃ m : MnA, e = .returned (.tuple #[.agg m.cs.toArray, .bool true]) ∧ m.m = MX ∧ m.Ok w' ∧ Below ((w6.alloc (.cells #[(.slice d2.A d2.xs.length d2.c)] 24))).heap.size (w6.alloc (.cells #[(.slice d2.A d2.xs.length d2.c)] 24)) w') from by have h := pof12_any d2 (w6.alloc (.cells #[(.slice d2.A d2.xs.length d2.c)] 24)) (HLA.out _ B14.out) F13.out; rw [(congrArg mofB E9.out).trans HMX.out] at h; exact h))
 go_wp2_with (first | ((with_reducible refine wpList_load_by (o := ⟨some 17, .load 24 (.tmp 1), _, _, _, _⟩) ?e1 24 (.tmp 1) ?e2 ⟨w6.heap.size, 0, none⟩ ?e3 _ M18.out ?_); (case e1 => rfl); (case e2 => rfl); (case e3 => rfl)))
 refine C19.out.mono ?_
 rintro e w20 ⟨d15, rfl, hd16, hk17, hb21⟩
 have T22 := Lib.hid (T12.out.below hb21 T12.out.lt)
 have F23 := Lib.hid (F13.out.below hb21 (Nat.le_refl _))
 have B24 := Lib.hid (B14.out.trans (hb21.mono B14.out.size))
 clear hb21
 have E25 := Lib.hid (hd16)
 have F26 := Lib.hid (hk17)
 clear hd16 hk17
 have SZ26 := Lib.hid (mn_size F26.out)
 have SQ26 := Lib.hid (show mnA0.cs.toArray.size = d15.cs.toArray.size by rw [mnA0_size, List.size_toArray]; exact (MnA.len F26.out).symm)
 have SO26 := Lib.hid (mn_ones d15)
 have L28 := Lib.hid (MnA.len F26.out)
 have hb29 := (Below.refl w20.heap.size w20).alloc (Nat.le_refl _) (.cells d15.cs.toArray 29)
 have T30 := Lib.hid (RowAt.new w20 d15.cs.toArray 29)
 have T31 := Lib.hid (T22.out.below hb29 T22.out.lt)
 have F32 := Lib.hid (F23.out.below hb29 (Nat.le_refl _))
 have F33 := Lib.hid (F26.out.below hb29 (Nat.le_refl _))
 have B34 := Lib.hid (B24.out.trans (hb29.mono B24.out.size))
 clear hb29
 have C38 := Lib.hid ((show Calls Tryz.prog 21 #[.agg #[.slice none 0 0]] (w20.alloc (.cells d15.cs.toArray 29)) (fun e w' => ∃ m : MnA, e = .returned (.tuple #[.agg m.cs.toArray, .bool true]) ∧ m.m = M0 ∧ m.Ok w' ∧ Below ((w20.alloc (.cells d15.cs.toArray 29))).heap.size (w20.alloc (.cells d15.cs.toArray 29)) w') from by have h := pof12_any bk0 (w20.alloc (.cells d15.cs.toArray 29)) (HLA.out _ B34.out) (BkAt.zero _); rw [HM0.out] at h; exact h))
 go_wp2_with (first | ((with_reducible refine wpList_store_new (o := ⟨none, .store 29 (.tmp 3) (.tmp 19), _, _, _, _⟩) ?e1 29 (.tmp 3) (.tmp 19) ?e2 ?e3 mnA0.cs.toArray d15.cs.toArray ?e4 SZ26.out SQ26.out SO26.out ?_); (case e1 => rfl); (case e2 => rfl); (case e3 => (first | rfl | exact congrArg (fun q => Value.pointer (some ⟨q, 0, none⟩)) (World.size_alloc _ _).symm)); (case e4 => rfl)))
 refine C38.out.mono ?_
 rintro e w39 ⟨d35, rfl, hd36, hk37, hb40⟩
 have T41 := Lib.hid (T31.out.below hb40 T31.out.lt)
 have T42 := Lib.hid (T30.out.below hb40 T30.out.lt)
 have F43 := Lib.hid (F32.out.below hb40 (Nat.le_refl _))
 have F44 := Lib.hid (F33.out.below hb40 (Nat.le_refl _))
 have B45 := Lib.hid (B34.out.trans (hb40.mono B34.out.size))
 clear hb40
 have E46 := Lib.hid (hd36)
 have F47 := Lib.hid (hk37)
 clear hd36 hk37
 have SZ47 := Lib.hid (mn_size F47.out)
 have SQ47 := Lib.hid (show mnA0.cs.toArray.size = d35.cs.toArray.size by rw [mnA0_size, List.size_toArray]; exact (MnA.len F47.out).symm)
 have SO47 := Lib.hid (mn_ones d35)
 have L49 := Lib.hid (MnA.len F47.out)
 have hb50 := (Below.refl w39.heap.size w39).alloc (Nat.le_refl _) (.cells d35.cs.toArray 29)
 have T51 := Lib.hid (RowAt.new w39 d35.cs.toArray 29)
 have T52 := Lib.hid (T41.out.below hb50 T41.out.lt)
 have T53 := Lib.hid (T42.out.below hb50 T42.out.lt)
 have F54 := Lib.hid (F43.out.below hb50 (Nat.le_refl _))
 have F55 := Lib.hid (F44.out.below hb50 (Nat.le_refl _))
 have F56 := Lib.hid (F47.out.below hb50 (Nat.le_refl _))
 have B57 := Lib.hid (B45.out.trans (hb50.mono B45.out.size))
 clear hb50
 have M58 := Lib.hid (T51.out.mn L49.out)
 have M59 := Lib.hid (T52.out.load)
 have C60 := Lib.hid ((show Calls Tryz.prog 16 #[.agg #[.slice d2.A d2.xs.length d2.c], .agg d35.cs.toArray] (w39.alloc (.cells d35.cs.toArray 29)) (fun e w' => ∃ l : Bk, e = .returned (.slice l.A l.xs.length l.c) ∧ l.rs = [recX] ∧ BkAt w' l ∧ (∀ x ∈ l.xs, FTag w' x.A) ∧ Below ((w39.alloc (.cells d35.cs.toArray 29))).heap.size (w39.alloc (.cells d35.cs.toArray 29)) w') from by have h := parts14_any d2 d35 (w39.alloc (.cells d35.cs.toArray 29)) (HLA.out _ B57.out) F54.out F56.out; unfold PartsPost at h; rw [E9.out, E46.out, HA0.out] at h; exact h))
 go_wp2_with (first | ((with_reducible refine wpList_load_at (o := ⟨some 27, .load 29 (.tmp 5), _, _, _, _⟩) ?e1 29 (.tmp 5) ?e2 ⟨w39.heap.size, 0, none⟩ ?e3 _ M58.out ?_); (case e1 => rfl); (case e2 => rfl); (case e3 => rfl)) | ((with_reducible refine wpList_load_by (o := ⟨some 26, .load 24 (.tmp 1), _, _, _, _⟩) ?e1 24 (.tmp 1) ?e2 ⟨w6.heap.size, 0, none⟩ ?e3 _ M59.out ?_); (case e1 => rfl); (case e2 => rfl); (case e3 => rfl)) | ((with_reducible refine wpList_store_new (o := ⟨none, .store 29 (.tmp 5) (.tmp 24), _, _, _, _⟩) ?e1 29 (.tmp 5) (.tmp 24) ?e2 ?e3 mnA0.cs.toArray d35.cs.toArray ?e4 SZ47.out SQ47.out SO47.out ?_); (case e1 => rfl); (case e2 => rfl); (case e3 => (first | rfl | exact congrArg (fun q => Value.pointer (some ⟨q, 0, none⟩)) (World.size_alloc _ _).symm)); (case e4 => rfl)))
 refine C60.out.mono ?_
 rintro e w61 ⟨l, rfl, hlr, hlk, hlt, hb62⟩
 obtain ⟨lb, lo, lc, fb, fo, fc, hl9, hone⟩ := one_part hlr hlk rfl
 clear hlr hlk hlt
 subst hl9
 dsimp only [List.length_cons, List.length_nil]
 rw [Nat.zero_add]
 have T63 := Lib.hid (T52.out.below hb62 T52.out.lt)
 have T64 := Lib.hid (T53.out.below hb62 T53.out.lt)
 have T65 := Lib.hid (T51.out.below hb62 T51.out.lt)
 have F66 := Lib.hid (F54.out.below hb62 (Nat.le_refl _))
 have F67 := Lib.hid (F55.out.below hb62 (Nat.le_refl _))
 have F68 := Lib.hid (F56.out.below hb62 (Nat.le_refl _))
 have B69 := Lib.hid (B57.out.trans (hb62.mono B57.out.size))
 clear hb62
 have F70 := Lib.hid (hone)
 clear hone
 have M71 := Lib.hid (T64.out.mn L28.out)
 have M72 := Lib.hid (T63.out.load)
 have C73 := Lib.hid ((show Calls Tryz.prog 16 #[.agg #[.slice d2.A d2.xs.length d2.c], .agg d15.cs.toArray] w61 (fun e w' => ∃ l : Bk, e = .returned (.slice l.A l.xs.length l.c) ∧ l.rs = [] ∧ BkAt w' l ∧ (∀ x ∈ l.xs, FTag w' x.A) ∧ Below (w61).heap.size w61 w') from by have h := parts14_any d2 d15 w61 (HLA.out _ B69.out) F66.out F67.out; unfold PartsPost at h; rw [E9.out, E25.out, HA1.out] at h; exact h))
 go_wp2_with (first | ((with_reducible refine wpList_load_at (o := ⟨some 30, .load 29 (.tmp 3), _, _, _, _⟩) ?e1 29 (.tmp 3) ?e2 ⟨w20.heap.size, 0, none⟩ ?e3 _ M71.out ?_); (case e1 => rfl); (case e2 => rfl); (case e3 => rfl)) | ((with_reducible refine wpList_load_by (o := ⟨some 29, .load 24 (.tmp 1), _, _, _, _⟩) ?e1 24 (.tmp 1) ?e2 ⟨w6.heap.size, 0, none⟩ ?e3 _ M72.out ?_); (case e1 => rfl); (case e2 => rfl); (case e3 => rfl)))
 refine C73.out.mono ?_
 rintro e w74 ⟨l, he9, hlr, hlk, hlt, hb75⟩
 have hl0 : l.xs.length = 0 := by have h := congrArg List.length hlr; unfold Bk.rs at h; rw [List.length_map] at h; exact h
 rw [hl0] at he9
 subst he9
 clear hlr hlk hlt hl0
 have T76 := Lib.hid (T63.out.below hb75 T63.out.lt)
 have T77 := Lib.hid (T64.out.below hb75 T64.out.lt)
 have T78 := Lib.hid (T65.out.below hb75 T65.out.lt)
 have F79 := Lib.hid (F66.out.below hb75 (Nat.le_refl _))
 have F80 := Lib.hid (F67.out.below hb75 (Nat.le_refl _))
 have F81 := Lib.hid (F68.out.below hb75 (Nat.le_refl _))
 have F82 := Lib.hid (F70.out.below hb75 (Nat.le_refl _))
 have B83 := Lib.hid (B69.out.trans (hb75.mono B69.out.size))
 clear hb75
 have HIR := Lib.hid (fun w : World => (show (Instr.indexAt 22 (.slice (some ⟨lb, lo, none⟩) 1 lc) (.int .i64 0)).run Tryz.prog w = .ok (.pointer (some ⟨lb, lo, none⟩)) w from by have h := ix_rec lb lo 1 lc 0 (by omega) 0 rfl w; simpa using h))
 have HIF := Lib.hid (fun w : World => (show (Instr.indexAt 34 (.slice (some ⟨fb, fo, none⟩) 1 fc) (.int .i64 0)).run Tryz.prog w = .ok (.pointer (some ⟨fb, fo, none⟩)) w from by have h := ix_fld fb fo 1 fc 0 (by omega) 0 rfl w; simpa using h))
 have ix0 := HIR.out
 have g18 := (show (w74).cell? ⟨lb, lo + 18, none⟩ = some (.slice (some ⟨fb, fo, none⟩) 1 fc) from F82.out.r.c18)
 have M51 := Lib.hid F82.out.r.load
 have C87 := Lib.hid ((show Calls Tryz.prog 13 #[.agg #[.slice none 0 0], (⟨recX, some ⟨fb, fo, none⟩, fc⟩ : RcA).v] w74 (fun e w' => ∃ d : Bk, e = .returned (.tuple #[.agg #[.slice d.A d.xs.length d.c], .int .i64 0]) ∧ d.rs = [recX] ∧ BkAt w' d ∧ Below (w74).heap.size w74 w') from by have h := padd14_any bk0 (⟨recX, some ⟨fb, fo, none⟩, fc⟩ : RcA) w74 (HLA.out _ B83.out) (BkAt.zero _) F82.out.v; unfold BJoinPost at h; rw [show addE bk0.rs (RcA.R (⟨recX, some ⟨fb, fo, none⟩, fc⟩ : RcA)) = (0, [recX]) from HAD.out] at h; exact h))
 go_wp2_with (first | ((with_reducible refine wpList_load_at (o := ⟨some 51, .load 36 (.tmp 50), _, _, _, _⟩) ?e1 36 (.tmp 50) ?e2 ⟨lb, lo, none⟩ ?e3 _ M51.out ?_); (case e1 => rfl); (case e2 => rfl); (case e3 => rfl)))
 refine C87.out.mono ?_
 rintro e w88 ⟨d84, rfl, hd85, hk86, hb89⟩
 clear ix0 g18
 have T90 := Lib.hid (T76.out.below hb89 T76.out.lt)
 have T91 := Lib.hid (T77.out.below hb89 T77.out.lt)
 have T92 := Lib.hid (T78.out.below hb89 T78.out.lt)
 have F93 := Lib.hid (F79.out.below hb89 (Nat.le_refl _))
 have F94 := Lib.hid (F80.out.below hb89 (Nat.le_refl _))
 have F95 := Lib.hid (F81.out.below hb89 (Nat.le_refl _))
 have F96 := Lib.hid (F82.out.below hb89 (Nat.le_refl _))
 have B97 := Lib.hid (B83.out.trans (hb89.mono B83.out.size))
 clear hb89
 have E98 := Lib.hid (hd85)
 have F99 := Lib.hid (hk86)
 clear hd85 hk86
 have hb100 := (Below.refl w88.heap.size w88).alloc (Nat.le_refl _) (.cells #[(.slice d84.A d84.xs.length d84.c)] 24)
 have T101 := Lib.hid (BoAt.new w88 (.slice d84.A d84.xs.length d84.c))
 have T102 := Lib.hid (T90.out.below hb100 T90.out.lt)
 have T103 := Lib.hid (T91.out.below hb100 T91.out.lt)
 have T104 := Lib.hid (T92.out.below hb100 T92.out.lt)
 have F105 := Lib.hid (F93.out.below hb100 (Nat.le_refl _))
 have F106 := Lib.hid (F94.out.below hb100 (Nat.le_refl _))
 have F107 := Lib.hid (F95.out.below hb100 (Nat.le_refl _))
 have F108 := Lib.hid (F96.out.below hb100 (Nat.le_refl _))
 have F109 := Lib.hid (F99.out.below hb100 (Nat.le_refl _))
 have B110 := Lib.hid (B97.out.trans (hb100.mono B97.out.size))
 clear hb100
 have T1' := Lib.hid T102.out
 have T3' := Lib.hid T103.out
 have T5' := Lib.hid T104.out
 have T8' := Lib.hid T101.out
 have HB1 := Lib.hid B110.out
 have ON := Lib.hid F108.out
 have OM := Lib.hid F106.out
 have OZ := Lib.hid F107.out
 have OB := Lib.hid F105.out
 have OC := Lib.hid F109.out
 have CSM := Lib.hid (fun (X : World) (hX : Below ((w88.alloc (.cells #[(.slice d84.A d84.xs.length d84.c)] 24))).heap.size (w88.alloc (.cells #[(.slice d84.A d84.xs.length d84.c)] 24)) X) => (show Calls Tryz.prog 24 #[.agg #[.slice d84.A d84.xs.length d84.c], .agg #[.slice d2.A d2.xs.length d2.c]] X (fun e w' => e = .returned (.bool true) ∧ Below X.heap.size X w') from by have h := bsame_any d84 d2 X (OC.out.below hX (Nat.le_refl _)) (OB.out.below hX (Nat.le_refl _)); rw [E98.out, E9.out, bsame_self] at h; exact h))
 have CX0 := Lib.hid (fun (X : World) (hX : Below ((w88.alloc (.cells #[(.slice d84.A d84.xs.length d84.c)] 24))).heap.size (w88.alloc (.cells #[(.slice d84.A d84.xs.length d84.c)] 24)) X) => (show Calls Tryz.prog 20 #[.agg #[.int .i64 1, .int .i64 1, .string ⟨#[120]⟩], .agg d35.cs.toArray, .agg (bvals z7), .int .i64 2] X (fun e w' => e = .returned (.bool true) ∧ Below X.heap.size X w') from by have h := pexc14_any fldX.c d35 z7 2 X (HLA.out _ (HB1.out.trans (hX.mono HB1.out.size))) (OZ.out.below hX (Nat.le_refl _)) ⟨z7_len, z7_bytes⟩ (by decide) (HBD0.out d35 E46.out); rw [E46.out, HX0.out] at h; exact h))
 have CX1 := Lib.hid (fun (X : World) (hX : Below ((w88.alloc (.cells #[(.slice d84.A d84.xs.length d84.c)] 24))).heap.size (w88.alloc (.cells #[(.slice d84.A d84.xs.length d84.c)] 24)) X) => (show Calls Tryz.prog 20 #[.agg #[.int .i64 1, .int .i64 1, .string ⟨#[120]⟩], .agg d15.cs.toArray, .agg (bvals z7), .int .i64 2] X (fun e w' => e = .returned (.bool false) ∧ Below X.heap.size X w') from by have h := pexc14_any fldX.c d15 z7 2 X (HLA.out _ (HB1.out.trans (hX.mono HB1.out.size))) (OM.out.below hX (Nat.le_refl _)) ⟨z7_len, z7_bytes⟩ (by decide) (HBDX.out d15 E25.out); rw [E25.out, HX1.out] at h; exact h))
 have G18 := Lib.hid (fun (X : World) (hX : Below ((w88.alloc (.cells #[(.slice d84.A d84.xs.length d84.c)] 24))).heap.size (w88.alloc (.cells #[(.slice d84.A d84.xs.length d84.c)] 24)) X) => (show X.cell? ⟨lb, lo + 18, none⟩ = some (.slice (some ⟨fb, fo, none⟩) 1 fc) from (ON.out.below hX (Nat.le_refl _)).r.c18))
 have LCX := Lib.hid (fun (X : World) (hX : Below ((w88.alloc (.cells #[(.slice d84.A d84.xs.length d84.c)] 24))).heap.size (w88.alloc (.cells #[(.slice d84.A d84.xs.length d84.c)] 24)) X) => load_fcell (ON.out.below hX (Nat.le_refl _)).fl)
 have LM3 := Lib.hid (fun (X : World) (hX : Below ((w88.alloc (.cells #[(.slice d84.A d84.xs.length d84.c)] 24))).heap.size (w88.alloc (.cells #[(.slice d84.A d84.xs.length d84.c)] 24)) X) => RowAt.mn (T3'.out.below hX T3'.out.lt) (MnA.len OM.out))
 have LM5 := Lib.hid (fun (X : World) (hX : Below ((w88.alloc (.cells #[(.slice d84.A d84.xs.length d84.c)] 24))).heap.size (w88.alloc (.cells #[(.slice d84.A d84.xs.length d84.c)] 24)) X) => RowAt.mn (T5'.out.below hX T5'.out.lt) (MnA.len OZ.out))
 have LB1' := Lib.hid (fun (X : World) (hX : Below ((w88.alloc (.cells #[(.slice d84.A d84.xs.length d84.c)] 24))).heap.size (w88.alloc (.cells #[(.slice d84.A d84.xs.length d84.c)] 24)) X) => (T1'.out.below hX T1'.out.lt).load)
 have LB8' := Lib.hid (fun (X : World) (hX : Below ((w88.alloc (.cells #[(.slice d84.A d84.xs.length d84.c)] 24))).heap.size (w88.alloc (.cells #[(.slice d84.A d84.xs.length d84.c)] 24)) X) => (T8'.out.below hX T8'.out.lt).load)
 go_wp2_with fail
 refine wp_region_G _ (by kernel_rfl) ?_
 refine wpGv (i := 0) (oi := ⟨some 55, _, _, _, _, _⟩) (v := ?_) rfl ?_ ?_; rotate_left; (focus (intro w9 hSw; go_simp; try with_reducible rfl)); simp only [Act.put, Z2, Z3, Z4]
 refine wpGv (i := 1) (oi := ⟨some 56, _, _, _, _, _⟩) (v := ?_) rfl ?_ ?_; rotate_left; (focus (intro w9 hSw; go_simp; try with_reducible rfl)); simp only [Act.put, Z2, Z3, Z4]
 refine wpGv (i := 2) (oi := ⟨some 57, _, _, _, _, _⟩) (v := ?_) rfl ?_ ?_; rotate_left; (focus (intro w9 hSw; go_simp; try with_reducible rfl)); simp only [Act.put, Z2, Z3, Z4]
 refine wpGv (i := 3) (oi := ⟨some 58, _, _, _, _, _⟩) (v := (.agg #[.slice d84.A d84.xs.length d84.c])) rfl ?_ ?_; (focus (intro w9 hSw; exact exec_load_at 24 _ rfl _ rfl (LB8'.out w9 hSw))); simp only [Act.put, Z2, Z3, Z4]
 refine wpGv (i := 4) (oi := ⟨some 59, _, _, _, _, _⟩) (v := (.agg #[.slice d2.A d2.xs.length d2.c])) rfl ?_ ?_; (focus (intro w9 hSw; exact exec_load_at 24 _ rfl _ rfl (LB1'.out w9 hSw))); simp only [Act.put, Z2, Z3, Z4]
 refine wpG_take (i := 5) (oi := ⟨some 60, _, _, _, _, _⟩) rfl (by kernel_rfl) (by kernel_rfl) (by kernel_rfl) (Or.inl ⟨by rfl, unib_call_if ?_ CSM.out⟩) ?_; (focus (intro w9 hSw; go_simp; try with_reducible rfl)); simp only [Act.put, Z2, Z3, Z4]
 refine wpGv (i := 6) (oi := ⟨some 61, _, _, _, _, _⟩) (v := ?_) rfl ?_ ?_; rotate_left; (focus (intro w9 hSw; go_simp; try with_reducible rfl)); simp only [Act.put, Z2, Z3, Z4]
 refine wpGv (i := 7) (oi := ⟨some 62, _, _, _, _, _⟩) (v := ?_) rfl ?_ ?_; rotate_left; (focus (intro w9 hSw; go_simp; try with_reducible rfl)); simp only [Act.put, Z2, Z3, Z4]
 refine wpGv (i := 8) (oi := ⟨some 63, _, _, _, _, _⟩) (v := ?_) rfl ?_ ?_; rotate_left; (focus (intro w9 hSw; go_simp; try with_reducible rfl)); simp only [Act.put, Z2, Z3, Z4]
 refine wpGv (i := 9) (oi := ⟨some 64, _, _, _, _, _⟩) (v := ?_) rfl ?_ ?_; rotate_left; (focus (intro w9 hSw; have q0 := HIR.out w9; go_simp; try with_reducible rfl)); simp only [Act.put, Z2, Z3, Z4]
 refine wpGv (i := 10) (oi := ⟨some 65, _, _, _, _, _⟩) (v := ?_) rfl ?_ ?_; rotate_left; (focus (intro w9 hSw; go_simp; try with_reducible rfl)); simp only [Act.put, Z2, Z3, Z4]
 refine wpGv (i := 11) (oi := ⟨some 66, _, _, _, _, _⟩) (v := ?_) rfl ?_ ?_; rotate_left; (focus (intro w9 hSw; have q0 := G18.out w9 hSw; go_simp; try with_reducible rfl)); simp only [Act.put, Z2, Z3, Z4]
 refine wpGv (i := 12) (oi := ⟨some 67, _, _, _, _, _⟩) (v := ?_) rfl ?_ ?_; rotate_left; (focus (intro w9 hSw; have q0 := HIF.out w9; go_simp; try with_reducible rfl)); simp only [Act.put, Z2, Z3, Z4]
 refine wpGv (i := 13) (oi := ⟨some 68, _, _, _, _, _⟩) (v := ?_) rfl ?_ ?_; rotate_left; (focus (intro w9 hSw; go_simp; try with_reducible rfl)); simp only [Act.put, Z2, Z3, Z4]
 refine wpGv (i := 14) (oi := ⟨some 69, _, _, _, _, _⟩) (v := (.agg #[.int .i64 1, .int .i64 1, .string ⟨#[120]⟩])) rfl ?_ ?_; (focus (intro w9 hSw; exact exec_load_at 38 _ rfl _ rfl (LCX.out w9 hSw))); simp only [Act.put, Z2, Z3, Z4]
 refine wpGv (i := 15) (oi := ⟨some 70, _, _, _, _, _⟩) (v := (.agg d35.cs.toArray)) rfl ?_ ?_; (focus (intro w9 hSw; exact exec_load_at 29 _ rfl _ rfl (LM5.out w9 hSw))); simp only [Act.put, Z2, Z3, Z4]
 refine wpGv (i := 16) (oi := ⟨some 71, _, _, _, _, _⟩) (v := (.agg (bvals z7))) rfl ?_ ?_; (focus (intro w9 hSw; exact exec_build_at 31 #[(0, .const (.int .u8 7))] rfl _ (by simp only [List.map_toArray, List.map_cons, List.map_nil]; rfl) (HB7.out w9))); simp only [Act.put, Z2, Z3, Z4]
 refine wpG_take (i := 17) (oi := ⟨some 72, _, _, _, _, _⟩) rfl (by kernel_rfl) (by kernel_rfl) (by kernel_rfl) (Or.inl ⟨by rfl, unib_call_if ?_ CX0.out⟩) ?_; (focus (intro w9 hSw; go_simp; try with_reducible rfl)); simp only [Act.put, Z2, Z3, Z4]
 refine wpGv (i := 18) (oi := ⟨some 73, _, _, _, _, _⟩) (v := ?_) rfl ?_ ?_; rotate_left; (focus (intro w9 hSw; go_simp; try with_reducible rfl)); simp only [Act.put, Z2, Z3, Z4]
 refine wpGv (i := 19) (oi := ⟨some 74, _, _, _, _, _⟩) (v := ?_) rfl ?_ ?_; rotate_left; (focus (intro w9 hSw; go_simp; try with_reducible rfl)); simp only [Act.put, Z2, Z3, Z4]
 refine wpGv (i := 20) (oi := ⟨some 75, _, _, _, _, _⟩) (v := ?_) rfl ?_ ?_; rotate_left; (focus (intro w9 hSw; go_simp; try with_reducible rfl)); simp only [Act.put, Z2, Z3, Z4]
 refine wpGv (i := 21) (oi := ⟨some 76, _, _, _, _, _⟩) (v := ?_) rfl ?_ ?_; rotate_left; (focus (intro w9 hSw; have q0 := HIR.out w9; go_simp; try with_reducible rfl)); simp only [Act.put, Z2, Z3, Z4]
 refine wpGv (i := 22) (oi := ⟨some 77, _, _, _, _, _⟩) (v := ?_) rfl ?_ ?_; rotate_left; (focus (intro w9 hSw; go_simp; try with_reducible rfl)); simp only [Act.put, Z2, Z3, Z4]
 refine wpGv (i := 23) (oi := ⟨some 78, _, _, _, _, _⟩) (v := ?_) rfl ?_ ?_; rotate_left; (focus (intro w9 hSw; have q0 := G18.out w9 hSw; go_simp; try with_reducible rfl)); simp only [Act.put, Z2, Z3, Z4]
 refine wpGv (i := 24) (oi := ⟨some 79, _, _, _, _, _⟩) (v := ?_) rfl ?_ ?_; rotate_left; (focus (intro w9 hSw; have q0 := HIF.out w9; go_simp; try with_reducible rfl)); simp only [Act.put, Z2, Z3, Z4]
 refine wpGv (i := 25) (oi := ⟨some 80, _, _, _, _, _⟩) (v := ?_) rfl ?_ ?_; rotate_left; (focus (intro w9 hSw; go_simp; try with_reducible rfl)); simp only [Act.put, Z2, Z3, Z4]
 refine wpGv (i := 26) (oi := ⟨some 81, _, _, _, _, _⟩) (v := (.agg #[.int .i64 1, .int .i64 1, .string ⟨#[120]⟩])) rfl ?_ ?_; (focus (intro w9 hSw; exact exec_load_at 38 _ rfl _ rfl (LCX.out w9 hSw))); simp only [Act.put, Z2, Z3, Z4]
 refine wpGv (i := 27) (oi := ⟨some 82, _, _, _, _, _⟩) (v := (.agg d15.cs.toArray)) rfl ?_ ?_; (focus (intro w9 hSw; exact exec_load_at 29 _ rfl _ rfl (LM3.out w9 hSw))); simp only [Act.put, Z2, Z3, Z4]
 refine wpGv (i := 28) (oi := ⟨some 83, _, _, _, _, _⟩) (v := (.agg (bvals z7))) rfl ?_ ?_; (focus (intro w9 hSw; exact exec_build_at 31 #[(0, .const (.int .u8 7))] rfl _ (by simp only [List.map_toArray, List.map_cons, List.map_nil]; rfl) (HB7.out w9))); simp only [Act.put, Z2, Z3, Z4]
 refine wpG_take (i := 29) (oi := ⟨some 84, _, _, _, _, _⟩) rfl (by kernel_rfl) (by kernel_rfl) (by kernel_rfl) (Or.inl ⟨by rfl, unib_call_if ?_ CX1.out⟩) ?_; (focus (intro w9 hSw; go_simp; try with_reducible rfl)); simp only [Act.put, Z2, Z3, Z4]
 refine wpGv (i := 30) (oi := ⟨some 85, _, _, _, _, _⟩) (v := ?_) rfl ?_ ?_; rotate_left; (focus (intro w9 hSw; go_simp; try with_reducible rfl)); simp only [Act.put, Z2, Z3, Z4]
 refine wpGv (i := 31) (oi := ⟨some 86, _, _, _, _, _⟩) (v := ?_) rfl ?_ ?_; rotate_left; (focus (intro w9 hSw; go_simp; try with_reducible rfl)); simp only [Act.put, Z2, Z3, Z4]
 refine wpGv (i := 32) (oi := ⟨some 0, _, _, _, _, _⟩) (v := ?_) rfl ?_ ?_; rotate_left; (focus (intro w9 hSw; go_simp; try with_reducible rfl)); simp only [Act.put, Z2, Z3]
 refine wpG_done (by kernel_rfl) ?_ _
 intro w9 hSw _
 have B9 := Lib.hid (HB1.out.trans (hSw.mono HB1.out.size))
 clear hSw
 go_wp2
 go_ret
 exact ⟨rfl, B9.out⟩
end
section
open Go.RowKit WM
set_option maxRecDepth 100000
def fewB (rs : List Rc) : Bool := decide (rs.length ≤ 14) && rs.all fun r => fewR r.fs
theorem fewB_drop {xs : List RcA} {k : Nat} (hk : k < xs.length) : ((xs.drop k).map (·.R)).all (fun r => fewR r.fs) = (fewR (xs.getD k rcA0).R.fs && ((xs.drop (k + 1)).map (·.R)).all fun r => fewR r.fs) := by
 rw [List.drop_eq_getElem_cons hk, List.map_cons, List.all_cons]
 simp only [List.getD, List.getElem?_eq_getElem hk, Option.getD_some]
theorem fewB_fs {b : Bk} (h : fewB b.rs = true) : b.xs.length ≤ 14 ∧ ∀ x ∈ b.xs, x.R.fs.length ≤ 1000 := by
 unfold fewB Bk.rs at h
 simp only [Bool.and_eq_true, decide_eq_true_eq, List.length_map, List.all_eq_true] at h
 refine ⟨h.1, fun x hx => ?_⟩
 have h2 := h.2 x.R (List.mem_map_of_mem hx)
 unfold fewR at h2
 simp only [Bool.and_eq_true, decide_eq_true_eq] at h2
 omega
set_option maxHeartbeats 4000000 in
theorem fewB_any (b : Bk) (w : World) (h : BkAt w b) :
  Calls Tryz.prog 10 #[.agg #[.slice b.A b.xs.length b.c]] w fun e w' => e = .returned (.bool (fewB b.rs)) ∧ Below w.heap.size w w' := by
 obtain ⟨xs, A, c⟩ := b
 dsimp only at h ⊢
 have S0 := Lib.hid (BoAt.new w (.slice A xs.length c))
 have HB := Lib.hid ((Below.refl w.heap.size w).alloc (Nat.le_refl _) (.cells #[.slice A xs.length c] 24))
 have s0 := S0.out.c0
 have HRV := Lib.hid (fun i (hi : i < xs.length) => RsAt.rv h hi)
 obtain ⟨hc1, hc2, hc3, hcell, _⟩ := h
 dsimp only at hc1 hc2 hc3 hcell HRV
 simp only [maxLen] at hc2
 have HC := Lib.hid hcell
 have HV : Hid (fewB (Bk.rs ⟨xs, A, c⟩) = (decide (xs.length ≤ 14) && ((xs.drop 0).map (·.R)).all fun r => fewR r.fs)) := Lib.hid (by unfold fewB Bk.rs; rw [List.length_map]; rfl)
 generalize fewB (Bk.rs ⟨xs, A, c⟩) = V at HV ⊢
 generalize hlen : xs.length = len at *
 have HLN := Lib.hid hlen
 clear hcell hlen
 by_cases h14 : len ≤ 14
 ·have hV2 := HV.out
  rw [decide_eq_true h14, Bool.true_and] at hV2
  have HV2 := Lib.hid hV2
  have t1 : ¬ 14 < (len : Int) := by omega
  clear hV2
  go_enter Tryz.func10, Tryz.ntmps10
  go_wp2
  clear s0
  go_loopw [3] (fun i wr => ∃ k : Nat, k ≤ len ∧ i = .int .i64 k ∧ BoAt wr w.heap.size (.slice A len c) ∧ Below w.heap.size w wr ∧ V = ((xs.drop k).map (·.R)).all fun r => fewR r.fs) (fun i _ => len - (intOf i).toNat)
  case atStart => exact ⟨0, Nat.zero_le _, rfl, S0.out, HB.out, HV2.out⟩
  case round =>
   obtain ⟨k, hk, rfl, hs, hb, hf⟩ := hrel
   have d0 := hs.c0
   by_cases hlt : k < len
   ·obtain ⟨b0, off, rfl, hbB, hcc⟩ := HC.out (by omega)
    have hx := (hcc k hlt).same (hb.block b0 hbB)
    have IX := ix_rec b0 off len c k hlt k rfl
    have hvx := (HRV.out k hlt).below hb (Nat.le_refl _)
    rw [fewB_drop (by rw [HLN.out]; exact hlt)] at hf
    generalize xs.getD k rcA0 = x at *
    generalize off + k * 19 = ox at *
    have LX := Lib.hid hx.load
    have HFW := Lib.hid (xfew_any x wr hvx)
    have HBB := Lib.hid (And.intro hs hb)
    clear hcc hx hvx hs hb
    cases hq : fewR x.R.fs
    ·rw [hq] at HFW hf
     rw [Bool.false_and] at hf
     have HF := Lib.hid hf
     clear hf hq
     go_wp2_with (first | ((with_reducible refine wpList_load_by (o := ⟨some 20, .load 36 (.tmp 19), _, _, _, _⟩) ?e1 36 (.tmp 19) ?e2 ⟨b0, ox, none⟩ ?e3 _ LX.out ?_); (case e1 => rfl); (case e2 => rfl); (case e3 => rfl)))
     refine HFW.out.mono ?_
     rintro e w2 ⟨rfl, hb⟩
     have B2 := Lib.hid (HBB.out.2.trans (hb.mono HBB.out.2.size))
     clear hb
     go_wp2
     go_ret
     exact ⟨by rw [HF.out]; rfl, B2.out⟩
    ·rw [hq] at HFW hf
     rw [Bool.true_and] at hf
     have HF := Lib.hid hf
     clear hf hq
     go_wp2_with (first | ((with_reducible refine wpList_load_by (o := ⟨some 20, .load 36 (.tmp 19), _, _, _, _⟩) ?e1 36 (.tmp 19) ?e2 ⟨b0, ox, none⟩ ?e3 _ LX.out ?_); (case e1 => rfl); (case e2 => rfl); (case e3 => rfl)))
     refine HFW.out.mono ?_
     rintro e w2 ⟨rfl, hb⟩
     have B2 := Lib.hid (HBB.out.2.trans (hb.mono HBB.out.2.size))
     have S2 := Lib.hid (HBB.out.1.below hb HBB.out.1.lt)
     clear hb
     go_wp2
     go_roundw
     case rel => exact ⟨k + 1, by omega, by go_num, S2.out, B2.out, HF.out⟩
     case measure => simp [intOf]; omega
   ·obtain rfl : k = len := by omega
    rw [List.drop_eq_nil_of_le (by rw [HLN.out]; exact Nat.le_refl _)] at hf
    have HF := Lib.hid hf
    have HBB := Lib.hid hb
    clear hf hb hs
    go_wp2
    go_ret
    exact ⟨by rw [HF.out]; rfl, HBB.out⟩
 ·have hV2 := HV.out
  rw [decide_eq_false h14, Bool.false_and] at hV2
  have HF := Lib.hid hV2
  have t1 : 14 < (len : Int) := by omega
  clear hV2
  go_enter Tryz.func10, Tryz.ntmps10
  go_wp2
  go_ret
  exact ⟨by rw [HF.out]; rfl, HB.out⟩
end
end Go.Proofs.YtnlhkpmgbpfjmaaGreatDoor
