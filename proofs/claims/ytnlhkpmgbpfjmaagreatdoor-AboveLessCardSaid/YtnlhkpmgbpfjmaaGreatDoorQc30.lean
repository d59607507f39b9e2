import Derived.Test.YtnlhkpmgbpfjmaaGreatDoorQc0
import Derived.Test.YtnlhkpmgbpfjmaaGreatDoorQc24
import Derived.Test.YtnlhkpmgbpfjmaaGreatDoorQc26
import Derived.Test.YtnlhkpmgbpfjmaaGreatDoorQc15
import Derived.Test.YtnlhkpmgbpfjmaaGreatDoorQc21
import Derived.Test.YtnlhkpmgbpfjmaaGreatDoorQc2
import Derived.Test.YtnlhkpmgbpfjmaaGreatDoorQc13
import Derived.Test.YtnlhkpmgbpfjmaaGreatDoorQc25
import Derived.Test.YtnlhkpmgbpfjmaaGreatDoorQc28
import Derived.Test.YtnlhkpmgbpfjmaaGreatDoorQc9
import Derived.Test.YtnlhkpmgbpfjmaaGreatDoorQc7
import Derived.Test.YtnlhkpmgbpfjmaaGreatDoorQc23
import Derived.Test.YtnlhkpmgbpfjmaaGreatDoorQc12
import Derived.Test.YtnlhkpmgbpfjmaaGreatDoorQc14
import Derived.Test.YtnlhkpmgbpfjmaaGreatDoorQc1
import Derived.Test.YtnlhkpmgbpfjmaaGreatDoorQc4
import Derived.Test.YtnlhkpmgbpfjmaaGreatDoorQc5
import Derived.Test.YtnlhkpmgbpfjmaaGreatDoorQc6
import Derived.Test.YtnlhkpmgbpfjmaaGreatDoorQc8
import Derived.Test.YtnlhkpmgbpfjmaaGreatDoorQc22
import Derived.Test.YtnlhkpmgbpfjmaaGreatDoorQc16
import Derived.Test.YtnlhkpmgbpfjmaaGreatDoorQc19
import Derived.Test.YtnlhkpmgbpfjmaaGreatDoorQc18
import Derived.Test.YtnlhkpmgbpfjmaaGreatDoorQc17
import Derived.Test.YtnlhkpmgbpfjmaaGreatDoorQc29
import Derived.RangeFuncNested
import Derived.RangeFuncBound
import Derived.RangeFuncCalls
import Derived.RangeFuncLeaves
import Derived.RangeFuncBox
import Derived.Shelf.Abstract
import Derived.Shelf.RegionOpen
import Derived.WalkKit
import Derived.OwnWalkIn
import Derived.TacticsInMore
import Derived.LoopNIn
import Derived.LoopIn
import Derived.BigQuiet
import Derived.Deep.RegionHeld3
import Derived.Defers
import Derived.Recover
/-
  What the functions that a law of this layer reaches answer, part 30. Nothing that was there is written.
-/
namespace Go.Proofs.YtnlhkpmgbpfjmaaGreatDoor
set_option linter.unusedVariables false
set_option linter.unusedSimpArgs false
section
open Go.RowKit WM
set_option maxRecDepth 100000
set_option maxHeartbeats 8000000 in
theorem pexcA (c : Cel) (m : MnA) (z : List Int) (no : Int) (w : World) (hlaid : Laid w) (h : m.Ok w) (hz16 : z.length = 16 ∧ AllBytes z) (hs : c.s.size ≤ 100000000) (hbd : ∀ x ∈ m.ls, x.es.length ≤ 1000000 ∧ ∀ e ∈ x.es, e.e.bs.length ≤ 1000000) (dn dr : Int) (hdn : ((lineA m.ls z).getD lnA0).x.n = dn) (hdr : ((lineA m.ls z).getD lnA0).x.r = dr) (ee : En) (hee : ((findA m.ls z no).getD enA0).e = ee) (h1 : stLess dn dr c.n c.r = false) : Calls Tryz.prog 20 #[.agg #[.int .i64 c.n, .int .i64 c.r, .string c.s], .agg m.cs.toArray, .agg (bvals z), .int .i64 no] w fun e w' => e = .returned (.bool false) ∧ Below w.heap.size w w' := by
 have HLA := Lib.hid (fun (X : World) (hX : Below w.heap.size w X) => hlaid.below hX (Nat.le_refl _))
 have LM := Lib.hid (MnA.len h)
 have HZ := Lib.hid hz16
 have HZL := Lib.hid hz16.1
 have HS8 := Lib.hid hs
 have HBD := Lib.hid hbd
 have HDN := Lib.hid hdn
 have HDR := Lib.hid hdr
 have HEE := Lib.hid hee
 have Fm := Lib.hid h
 generalize hsm : (lineA m.ls z).isSome = sm
 have HSM := Lib.hid hsm
 clear hlaid h hz16 hs hbd hdn hdr hee hsm
 have hz := zeroEn
 rw [show KEn.v enA0 = .agg (KEn.cs enA0).toArray from rfl] at hz
 have hzl := zeroLn
 rw [show KLn.v lnA0 = .agg (KLn.cs lnA0).toArray from rfl] at hzl
 have hzne : ¬ (KEn.cs enA0).toArray = #[] := by decide
 have hzne2 : ¬ (KLn.cs lnA0).toArray = #[] := by decide
 have H1 := Lib.hid h1
 clear h1
 have B1 := Lib.hid (Below.refl w.heap.size w)
 have T2n := RowAt.new w #[.int .i64 c.n, .int .i64 c.r, .string c.s] 38
 have T2 := Lib.hid T2n
 clear T2n
 have B3 := Lib.hid (B1.out.alloc B1.out.size (.cells #[.int .i64 c.n, .int .i64 c.r, .string c.s] 38))
 have T4 := Lib.hid (T2.out.old (.cells m.cs.toArray 29))
 have T5n := RowAt.new (w.alloc (.cells #[.int .i64 c.n, .int .i64 c.r, .string c.s] 38)) m.cs.toArray 29
 simp only [World.size_alloc] at T5n
 have T5 := Lib.hid T5n
 clear T5n
 have B6 := Lib.hid (B3.out.alloc B3.out.size (.cells m.cs.toArray 29))
 have T7 := Lib.hid (T4.out.old (.cells (bvals z) 31))
 have T8 := Lib.hid (T5.out.old (.cells (bvals z) 31))
 have T9n := RowAt.new ((w.alloc (.cells #[.int .i64 c.n, .int .i64 c.r, .string c.s] 38)).alloc (.cells m.cs.toArray 29)) (bvals z) 31
 simp only [World.size_alloc] at T9n
 have T9 := Lib.hid T9n
 clear T9n
 have B10 := Lib.hid (B6.out.alloc B6.out.size (.cells (bvals z) 31))
 have F11 := Lib.hid (Fm.out.below B10.out (Nat.le_refl _))
 go_enter Tryz.func20, Tryz.ntmps20
 have M15 := Lib.hid (T8.out.mn LM.out)
 have M16 := Lib.hid (T9.out.id HZL.out)
 have C17 := Lib.hid ((show Calls Tryz.prog 29 #[.agg m.cs.toArray, .agg (bvals z)] (((w.alloc (.cells #[.int .i64 c.n, .int .i64 c.r, .string c.s] 38)).alloc (.cells m.cs.toArray 29)).alloc (.cells (bvals z) 31)) (LineN (((w.alloc (.cells #[.int .i64 c.n, .int .i64 c.r, .string c.s] 38)).alloc (.cells m.cs.toArray 29)).alloc (.cells (bvals z) 31)) (lineA m.ls z)) from pline12_any m z (((w.alloc (.cells #[.int .i64 c.n, .int .i64 c.r, .string c.s] 38)).alloc (.cells m.cs.toArray 29)).alloc (.cells (bvals z) 31)) F11.out HZ.out HBD.out))
 unfold LineN at C17
 rw [HSM.out] at C17
 go_wp2_with (first | ((with_reducible refine wpList_load_at (o := ⟨some 14, .load 29 (.tmp 5), _, _, _, _⟩) ?e1 29 (.tmp 5) ?e2 ⟨(w.heap.size + 1), 0, none⟩ ?e3 _ M15.out ?_); (case e1 => rfl); (case e2 => rfl); (case e3 => rfl)) | ((with_reducible refine wpList_load_at (o := ⟨some 15, .load 31 (.tmp 6), _, _, _, _⟩) ?e1 31 (.tmp 6) ?e2 ⟨(w.heap.size + 1 + 1), 0, none⟩ ?e3 _ M16.out ?_); (case e1 => rfl); (case e2 => rfl); (case e3 => rfl)))
 refine C17.out.mono ?_
 rintro e w18 ⟨d12, rfl, hd13, hk14, hb19⟩
 have T20 := Lib.hid (T7.out.below hb19 T7.out.lt)
 have T21 := Lib.hid (T8.out.below hb19 T8.out.lt)
 have T22 := Lib.hid (T9.out.below hb19 T9.out.lt)
 have F23 := Lib.hid (F11.out.below hb19 (Nat.le_refl _))
 have B24 := Lib.hid (B10.out.trans (hb19.mono B10.out.size))
 clear hb19
 have E25 := Lib.hid (hd13)
 have F26 := Lib.hid (hk14)
 clear hd13 hk14
 have SZ26 := Lib.hid (ln_size F26.out)
 have SQ26 := Lib.hid (show (KLn.cs lnA0).toArray.size = (KLn.cs d12).toArray.size by rw [lnA0_size, List.size_toArray]; exact (LnA.len F26.out).symm)
 have SO26 := Lib.hid (ln_ones d12)
 have L28 := Lib.hid (LnA.len F26.out)
 have hb29 := (Below.refl w18.heap.size w18).alloc (Nat.le_refl _) (.cells (KLn.cs d12).toArray 63)
 have T30 := Lib.hid (RowAt.new w18 (KLn.cs d12).toArray 63)
 have T31 := Lib.hid (T20.out.below hb29 T20.out.lt)
 have T32 := Lib.hid (T21.out.below hb29 T21.out.lt)
 have T33 := Lib.hid (T22.out.below hb29 T22.out.lt)
 have F34 := Lib.hid (F23.out.below hb29 (Nat.le_refl _))
 have F35 := Lib.hid (F26.out.below hb29 (Nat.le_refl _))
 have B36 := Lib.hid (B24.out.trans (hb29.mono B24.out.size))
 clear hb29
 have GN := Lib.hid (show d12.n = dn from (congrArg Ln.n E25.out).trans HDN.out)
 have GR := Lib.hid (show d12.r = dr from (congrArg Ln.r E25.out).trans HDR.out)
 have ca16 := ln_c16 (Kind.at_blk (K := KLn) (x := d12) T30.out) F35.out.1
 rw [Nat.zero_add, GN.out] at ca16
 have ca17 := ln_c17 (Kind.at_blk (K := KLn) (x := d12) T30.out) F35.out.1
 rw [Nat.zero_add, GR.out] at ca17
 have cb0 := ClAt.c0 (show ClAt (w18.alloc (.cells (KLn.cs d12).toArray 63)) w.heap.size c from T31.out)
 have cb1 := ClAt.c1 (show ClAt (w18.alloc (.cells (KLn.cs d12).toArray 63)) w.heap.size c from T31.out)
 have C37 := Lib.hid (stLess_any dn dr c.n c.r (w18.alloc (.cells (KLn.cs d12).toArray 63)))
 unfold st at C37
 rw [H1.out] at C37
 go_wp2_with (first | ((with_reducible refine wpList_store_new (o := ⟨none, .store 63 (.tmp 9) (.tmp 17), _, _, _, _⟩) ?e1 63 (.tmp 9) (.tmp 17) ?e2 ?e3 (KLn.cs lnA0).toArray (KLn.cs d12).toArray ?e4 SZ26.out SQ26.out SO26.out ?_); (case e1 => rfl); (case e2 => rfl); (case e3 => (first | rfl | exact congrArg (fun q => Value.pointer (some ⟨q, 0, none⟩)) (World.size_alloc _ _).symm)); (case e4 => rfl)))
 refine C37.out.mono ?_
 rintro e w38 ⟨rfl, hb39⟩
 have T40 := Lib.hid (T31.out.below hb39 T31.out.lt)
 have T41 := Lib.hid (T32.out.below hb39 T32.out.lt)
 have T42 := Lib.hid (T33.out.below hb39 T33.out.lt)
 have T43 := Lib.hid (T30.out.below hb39 T30.out.lt)
 have F44 := Lib.hid (F34.out.below hb39 (Nat.le_refl _))
 have F45 := Lib.hid (F35.out.below hb39 (Nat.le_refl _))
 have B46 := Lib.hid (B36.out.trans (hb39.mono B36.out.size))
 clear hb39
 clear ca16 ca17 cb0 cb1
 go_wp2
 go_ret
 exact ⟨rfl, B46.out⟩
set_option maxHeartbeats 8000000 in
theorem pexcB (c : Cel) (m : MnA) (z : List Int) (no : Int) (w : World) (hlaid : Laid w) (h : m.Ok w) (hz16 : z.length = 16 ∧ AllBytes z) (hs : c.s.size ≤ 100000000) (hbd : ∀ x ∈ m.ls, x.es.length ≤ 1000000 ∧ ∀ e ∈ x.es, e.e.bs.length ≤ 1000000) (dn dr : Int) (hdn : ((lineA m.ls z).getD lnA0).x.n = dn) (hdr : ((lineA m.ls z).getD lnA0).x.r = dr) (ee : En) (hee : ((findA m.ls z no).getD enA0).e = ee) (h1 : stLess dn dr c.n c.r = true) (hi : (findA m.ls z no).isSome = false) : Calls Tryz.prog 20 #[.agg #[.int .i64 c.n, .int .i64 c.r, .string c.s], .agg m.cs.toArray, .agg (bvals z), .int .i64 no] w fun e w' => e = .returned (.bool true) ∧ Below w.heap.size w w' := by
 have HLA := Lib.hid (fun (X : World) (hX : Below w.heap.size w X) => hlaid.below hX (Nat.le_refl _))
 have LM := Lib.hid (MnA.len h)
 have HZ := Lib.hid hz16
 have HZL := Lib.hid hz16.1
 have HS8 := Lib.hid hs
 have HBD := Lib.hid hbd
 have HDN := Lib.hid hdn
 have HDR := Lib.hid hdr
 have HEE := Lib.hid hee
 have Fm := Lib.hid h
 generalize hsm : (lineA m.ls z).isSome = sm
 have HSM := Lib.hid hsm
 clear hlaid h hz16 hs hbd hdn hdr hee hsm
 have hz := zeroEn
 rw [show KEn.v enA0 = .agg (KEn.cs enA0).toArray from rfl] at hz
 have hzl := zeroLn
 rw [show KLn.v lnA0 = .agg (KLn.cs lnA0).toArray from rfl] at hzl
 have hzne : ¬ (KEn.cs enA0).toArray = #[] := by decide
 have hzne2 : ¬ (KLn.cs lnA0).toArray = #[] := by decide
 have H1 := Lib.hid h1
 clear h1
 have HI := Lib.hid hi
 clear hi
 have B1 := Lib.hid (Below.refl w.heap.size w)
 have T2n := RowAt.new w #[.int .i64 c.n, .int .i64 c.r, .string c.s] 38
 have T2 := Lib.hid T2n
 clear T2n
 have B3 := Lib.hid (B1.out.alloc B1.out.size (.cells #[.int .i64 c.n, .int .i64 c.r, .string c.s] 38))
 have T4 := Lib.hid (T2.out.old (.cells m.cs.toArray 29))
 have T5n := RowAt.new (w.alloc (.cells #[.int .i64 c.n, .int .i64 c.r, .string c.s] 38)) m.cs.toArray 29
 simp only [World.size_alloc] at T5n
 have T5 := Lib.hid T5n
 clear T5n
 have B6 := Lib.hid (B3.out.alloc B3.out.size (.cells m.cs.toArray 29))
 have T7 := Lib.hid (T4.out.old (.cells (bvals z) 31))
 have T8 := Lib.hid (T5.out.old (.cells (bvals z) 31))
 have T9n := RowAt.new ((w.alloc (.cells #[.int .i64 c.n, .int .i64 c.r, .string c.s] 38)).alloc (.cells m.cs.toArray 29)) (bvals z) 31
 simp only [World.size_alloc] at T9n
 have T9 := Lib.hid T9n
 clear T9n
 have B10 := Lib.hid (B6.out.alloc B6.out.size (.cells (bvals z) 31))
 have F11 := Lib.hid (Fm.out.below B10.out (Nat.le_refl _))
 go_enter Tryz.func20, Tryz.ntmps20
 have M15 := Lib.hid (T8.out.mn LM.out)
 have M16 := Lib.hid (T9.out.id HZL.out)
 have C17 := Lib.hid ((show Calls Tryz.prog 29 #[.agg m.cs.toArray, .agg (bvals z)] (((w.alloc (.cells #[.int .i64 c.n, .int .i64 c.r, .string c.s] 38)).alloc (.cells m.cs.toArray 29)).alloc (.cells (bvals z) 31)) (LineN (((w.alloc (.cells #[.int .i64 c.n, .int .i64 c.r, .string c.s] 38)).alloc (.cells m.cs.toArray 29)).alloc (.cells (bvals z) 31)) (lineA m.ls z)) from pline12_any m z (((w.alloc (.cells #[.int .i64 c.n, .int .i64 c.r, .string c.s] 38)).alloc (.cells m.cs.toArray 29)).alloc (.cells (bvals z) 31)) F11.out HZ.out HBD.out))
 unfold LineN at C17
 rw [HSM.out] at C17
 go_wp2_with (first | ((with_reducible refine wpList_load_at (o := ⟨some 14, .load 29 (.tmp 5), _, _, _, _⟩) ?e1 29 (.tmp 5) ?e2 ⟨(w.heap.size + 1), 0, none⟩ ?e3 _ M15.out ?_); (case e1 => rfl); (case e2 => rfl); (case e3 => rfl)) | ((with_reducible refine wpList_load_at (o := ⟨some 15, .load 31 (.tmp 6), _, _, _, _⟩) ?e1 31 (.tmp 6) ?e2 ⟨(w.heap.size + 1 + 1), 0, none⟩ ?e3 _ M16.out ?_); (case e1 => rfl); (case e2 => rfl); (case e3 => rfl)))
 refine C17.out.mono ?_
 rintro e w18 ⟨d12, rfl, hd13, hk14, hb19⟩
 have T20 := Lib.hid (T7.out.below hb19 T7.out.lt)
 have T21 := Lib.hid (T8.out.below hb19 T8.out.lt)
 have T22 := Lib.hid (T9.out.below hb19 T9.out.lt)
 have F23 := Lib.hid (F11.out.below hb19 (Nat.le_refl _))
 have B24 := Lib.hid (B10.out.trans (hb19.mono B10.out.size))
 clear hb19
 have E25 := Lib.hid (hd13)
 have F26 := Lib.hid (hk14)
 clear hd13 hk14
 have SZ26 := Lib.hid (ln_size F26.out)
 have SQ26 := Lib.hid (show (KLn.cs lnA0).toArray.size = (KLn.cs d12).toArray.size by rw [lnA0_size, List.size_toArray]; exact (LnA.len F26.out).symm)
 have SO26 := Lib.hid (ln_ones d12)
 have L28 := Lib.hid (LnA.len F26.out)
 have hb29 := (Below.refl w18.heap.size w18).alloc (Nat.le_refl _) (.cells (KLn.cs d12).toArray 63)
 have T30 := Lib.hid (RowAt.new w18 (KLn.cs d12).toArray 63)
 have T31 := Lib.hid (T20.out.below hb29 T20.out.lt)
 have T32 := Lib.hid (T21.out.below hb29 T21.out.lt)
 have T33 := Lib.hid (T22.out.below hb29 T22.out.lt)
 have F34 := Lib.hid (F23.out.below hb29 (Nat.le_refl _))
 have F35 := Lib.hid (F26.out.below hb29 (Nat.le_refl _))
 have B36 := Lib.hid (B24.out.trans (hb29.mono B24.out.size))
 clear hb29
 have GN := Lib.hid (show d12.n = dn from (congrArg Ln.n E25.out).trans HDN.out)
 have GR := Lib.hid (show d12.r = dr from (congrArg Ln.r E25.out).trans HDR.out)
 have ca16 := ln_c16 (Kind.at_blk (K := KLn) (x := d12) T30.out) F35.out.1
 rw [Nat.zero_add, GN.out] at ca16
 have ca17 := ln_c17 (Kind.at_blk (K := KLn) (x := d12) T30.out) F35.out.1
 rw [Nat.zero_add, GR.out] at ca17
 have cb0 := ClAt.c0 (show ClAt (w18.alloc (.cells (KLn.cs d12).toArray 63)) w.heap.size c from T31.out)
 have cb1 := ClAt.c1 (show ClAt (w18.alloc (.cells (KLn.cs d12).toArray 63)) w.heap.size c from T31.out)
 have C37 := Lib.hid (stLess_any dn dr c.n c.r (w18.alloc (.cells (KLn.cs d12).toArray 63)))
 unfold st at C37
 rw [H1.out] at C37
 go_wp2_with (first | ((with_reducible refine wpList_store_new (o := ⟨none, .store 63 (.tmp 9) (.tmp 17), _, _, _, _⟩) ?e1 63 (.tmp 9) (.tmp 17) ?e2 ?e3 (KLn.cs lnA0).toArray (KLn.cs d12).toArray ?e4 SZ26.out SQ26.out SO26.out ?_); (case e1 => rfl); (case e2 => rfl); (case e3 => (first | rfl | exact congrArg (fun q => Value.pointer (some ⟨q, 0, none⟩)) (World.size_alloc _ _).symm)); (case e4 => rfl)))
 refine C37.out.mono ?_
 rintro e w38 ⟨rfl, hb39⟩
 have T40 := Lib.hid (T31.out.below hb39 T31.out.lt)
 have T41 := Lib.hid (T32.out.below hb39 T32.out.lt)
 have T42 := Lib.hid (T33.out.below hb39 T33.out.lt)
 have T43 := Lib.hid (T30.out.below hb39 T30.out.lt)
 have F44 := Lib.hid (F34.out.below hb39 (Nat.le_refl _))
 have F45 := Lib.hid (F35.out.below hb39 (Nat.le_refl _))
 have B46 := Lib.hid (B36.out.trans (hb39.mono B36.out.size))
 clear hb39
 clear ca16 ca17 cb0 cb1
 have M50 := Lib.hid (T41.out.mn LM.out)
 have M51 := Lib.hid (T42.out.id HZL.out)
 have C52 := Lib.hid ((show Calls Tryz.prog 30 #[.agg m.cs.toArray, .agg (bvals z), .int .i64 no] w38 (FindN w38 (findA m.ls z no)) from pfind12_any m z no w38 F44.out HZ.out HBD.out))
 unfold FindN at C52
 rw [HI.out] at C52
 go_wp2_with (first | ((with_reducible refine wpList_load_at (o := ⟨some 26, .load 29 (.tmp 5), _, _, _, _⟩) ?e1 29 (.tmp 5) ?e2 ⟨(w.heap.size + 1), 0, none⟩ ?e3 _ M50.out ?_); (case e1 => rfl); (case e2 => rfl); (case e3 => rfl)) | ((with_reducible refine wpList_load_at (o := ⟨some 27, .load 31 (.tmp 6), _, _, _, _⟩) ?e1 31 (.tmp 6) ?e2 ⟨(w.heap.size + 1 + 1), 0, none⟩ ?e3 _ M51.out ?_); (case e1 => rfl); (case e2 => rfl); (case e3 => rfl)))
 refine C52.out.mono ?_
 rintro e w53 ⟨d47, rfl, hd48, hk49, hb54⟩
 have T55 := Lib.hid (T40.out.below hb54 T40.out.lt)
 have T56 := Lib.hid (T41.out.below hb54 T41.out.lt)
 have T57 := Lib.hid (T42.out.below hb54 T42.out.lt)
 have T58 := Lib.hid (T43.out.below hb54 T43.out.lt)
 have F59 := Lib.hid (F44.out.below hb54 (Nat.le_refl _))
 have F60 := Lib.hid (F45.out.below hb54 (Nat.le_refl _))
 have B61 := Lib.hid (B46.out.trans (hb54.mono B46.out.size))
 clear hb54
 have E62 := Lib.hid (hd48)
 have F63 := Lib.hid (hk49)
 clear hd48 hk49
 have SZ63 := Lib.hid (en_size F63.out)
 have SQ63 := Lib.hid (show (KEn.cs enA0).toArray.size = (KEn.cs d47).toArray.size by rw [enA0_size, List.size_toArray]; exact (EnA.len F63.out).symm)
 have SO63 := Lib.hid (en_ones d47)
 have L65 := Lib.hid (EnA.len F63.out)
 have hb66 := (Below.refl w53.heap.size w53).alloc (Nat.le_refl _) (.cells (KEn.cs d47).toArray 68)
 have T67 := Lib.hid (RowAt.new w53 (KEn.cs d47).toArray 68)
 have T68 := Lib.hid (T55.out.below hb66 T55.out.lt)
 have T69 := Lib.hid (T56.out.below hb66 T56.out.lt)
 have T70 := Lib.hid (T57.out.below hb66 T57.out.lt)
 have T71 := Lib.hid (T58.out.below hb66 T58.out.lt)
 have F72 := Lib.hid (F59.out.below hb66 (Nat.le_refl _))
 have F73 := Lib.hid (F60.out.below hb66 (Nat.le_refl _))
 have F74 := Lib.hid (F63.out.below hb66 (Nat.le_refl _))
 have B75 := Lib.hid (B61.out.trans (hb66.mono B61.out.size))
 clear hb66
 have T4' := Lib.hid T68.out
 have T5' := Lib.hid T69.out
 have T11' := Lib.hid T67.out
 have HB1 := Lib.hid B75.out
 have OU := Lib.hid F74.out
 have EE := Lib.hid (E62.out.trans HEE.out)
 have EC1 := Lib.hid (fun (X : World) (hX : Below ((w53.alloc (.cells (KEn.cs d47).toArray 68))).heap.size (w53.alloc (.cells (KEn.cs d47).toArray 68)) X) => (show X.cell? ⟨w53.heap.size, 1, none⟩ = some (.int .i64 ee.n) from by have h := en_c1 (Kind.at_blk (K := KEn) (x := d47) (T11'.out.below hX T11'.out.lt)); (try simp only [Nat.zero_add] at h); rw [EE.out] at h; exact h))
 have EC2 := Lib.hid (fun (X : World) (hX : Below ((w53.alloc (.cells (KEn.cs d47).toArray 68))).heap.size (w53.alloc (.cells (KEn.cs d47).toArray 68)) X) => (show X.cell? ⟨w53.heap.size, 2, none⟩ = some (.int .i64 ee.r) from by have h := en_c2 (Kind.at_blk (K := KEn) (x := d47) (T11'.out.below hX T11'.out.lt)); (try simp only [Nat.zero_add] at h); rw [EE.out] at h; exact h))
 have LED := Lib.hid (fun (X : World) (hX : Below ((w53.alloc (.cells (KEn.cs d47).toArray 68))).heap.size (w53.alloc (.cells (KEn.cs d47).toArray 68)) X) => (show (loadVar 26 ⟨w53.heap.size, 4, none⟩).run Tryz.prog X = .ok (.agg (bvals ee.ds)) X from by have h := load_dig (en_dig (Kind.at_blk (K := KEn) (x := d47) (T11'.out.below hX T11'.out.lt)) OU.out.2.2.2.2.1) OU.out.2.2.2.2.1; rw [EE.out] at h; exact h))
 have HD32 := Lib.hid (show ee.ds.length = 32 from by rw [← EE.out]; exact OU.out.2.2.2.2.1)
 have HDB := Lib.hid (show AllBytes ee.ds from by rw [← EE.out]; exact OU.out.2.2.2.2.2.1)
 have CC0 := Lib.hid (fun (X : World) (hX : Below ((w53.alloc (.cells (KEn.cs d47).toArray 68))).heap.size (w53.alloc (.cells (KEn.cs d47).toArray 68)) X) => ClAt.c0 (show ClAt X w.heap.size c from T4'.out.below hX T4'.out.lt))
 have CC1 := Lib.hid (fun (X : World) (hX : Below ((w53.alloc (.cells (KEn.cs d47).toArray 68))).heap.size (w53.alloc (.cells (KEn.cs d47).toArray 68)) X) => ClAt.c1 (show ClAt X w.heap.size c from T4'.out.below hX T4'.out.lt))
 have CC2 := Lib.hid (fun (X : World) (hX : Below ((w53.alloc (.cells (KEn.cs d47).toArray 68))).heap.size (w53.alloc (.cells (KEn.cs d47).toArray 68)) X) => ClAt.c2 (show ClAt X w.heap.size c from T4'.out.below hX T4'.out.lt))
 go_wp2_with (((with_reducible refine wpList_store_new (o := ⟨none, .store 68 (.tmp 11) (.tmp 30), _, _, _, _⟩) ?e1 68 (.tmp 11) (.tmp 30) ?e2 ?e3 (KEn.cs enA0).toArray (KEn.cs d47).toArray ?e4 SZ63.out SQ63.out SO63.out ?_); (case e1 => rfl); (case e2 => rfl); (case e3 => (first | rfl | exact congrArg (fun q => Value.pointer (some ⟨q, 0, none⟩)) (World.size_alloc _ _).symm)); (case e4 => rfl)))
 generalize ((w53.alloc (.cells (KEn.cs d47).toArray 68))) = w1 at *
 refine wp_region_G _ (by kernel_rfl) ?_
 refine wpGv (i := 0) (oi := ⟨some 32, _, _, _, _, _⟩) (v := ?_) rfl ?_ ?_; rotate_left; (focus (intro w9 hSw; go_simp; try with_reducible rfl)); simp only [Act.put, Z2, Z3, Z4]
 refine wpGv (i := 1) (oi := ⟨some 33, _, _, _, _, _⟩) (v := ?_) rfl ?_ ?_; rotate_left; (focus (intro w9 hSw; go_simp; try with_reducible rfl)); simp only [Act.put, Z2, Z3, Z4]
 refine wpGv (i := 2) (oi := ⟨some 34, _, _, _, _, _⟩) (v := ?_) rfl ?_ ?_; rotate_left; (focus (intro w9 hSw; go_simp; try with_reducible rfl)); simp only [Act.put, Z2, Z3, Z4]
 refine wpGo (i := 3) (oi := ⟨some 35, _, _, _, _, _⟩) rfl ?_; simp only [Act.put, Z2, Z3, Z4]
 refine wpGo (i := 4) (oi := ⟨some 36, _, _, _, _, _⟩) rfl ?_; simp only [Act.put, Z2, Z3, Z4]
 refine wpGo (i := 5) (oi := ⟨some 37, _, _, _, _, _⟩) rfl ?_; simp only [Act.put, Z2, Z3, Z4]
 refine wpGo (i := 6) (oi := ⟨some 38, _, _, _, _, _⟩) rfl ?_; simp only [Act.put, Z2, Z3, Z4]
 refine wpGo (i := 7) (oi := ⟨some 39, _, _, _, _, _⟩) rfl ?_; simp only [Act.put, Z2, Z3, Z4]
 refine wpGv (i := 8) (oi := ⟨some 40, _, _, _, _, _⟩) (v := ?_) rfl ?_ ?_; rotate_left; (focus (intro w9 hSw; go_simp; try with_reducible rfl)); simp only [Act.put, Z2, Z3, Z4]
 refine wpGv (i := 9) (oi := ⟨some 41, _, _, _, _, _⟩) (v := ?_) rfl ?_ ?_; rotate_left; (focus (intro w9 hSw; go_simp; try with_reducible rfl)); simp only [Act.put, Z2, Z3, Z4]
 refine wpGo (i := 10) (oi := ⟨some 42, _, _, _, _, _⟩) rfl ?_; simp only [Act.put, Z2, Z3, Z4]
 refine wpGo (i := 11) (oi := ⟨some 43, _, _, _, _, _⟩) rfl ?_; simp only [Act.put, Z2, Z3, Z4]
 refine wpGo (i := 12) (oi := ⟨some 44, _, _, _, _, _⟩) rfl ?_; simp only [Act.put, Z2, Z3, Z4]
 refine wpGo (i := 13) (oi := ⟨some 45, _, _, _, _, _⟩) rfl ?_; simp only [Act.put, Z2, Z3, Z4]
 refine wpGo (i := 14) (oi := ⟨some 46, _, _, _, _, _⟩) rfl ?_; simp only [Act.put, Z2, Z3, Z4]
 refine wpGo (i := 15) (oi := ⟨some 47, _, _, _, _, _⟩) rfl ?_; simp only [Act.put, Z2, Z3, Z4]
 refine wpGo (i := 16) (oi := ⟨some 48, _, _, _, _, _⟩) rfl ?_; simp only [Act.put, Z2, Z3, Z4]
 refine wpGo (i := 17) (oi := ⟨some 49, _, _, _, _, _⟩) rfl ?_; simp only [Act.put, Z2, Z3, Z4]
 refine wpGo (i := 18) (oi := ⟨some 50, _, _, _, _, _⟩) rfl ?_; simp only [Act.put, Z2, Z3, Z4]
 refine wpGo (i := 19) (oi := ⟨some 51, _, _, _, _, _⟩) rfl ?_; simp only [Act.put, Z2, Z3, Z4]
 refine wpGo (i := 20) (oi := ⟨some 52, _, _, _, _, _⟩) rfl ?_; simp only [Act.put, Z2, Z3, Z4]
 refine wpGo (i := 21) (oi := ⟨some 53, _, _, _, _, _⟩) rfl ?_; simp only [Act.put, Z2, Z3, Z4]
 refine wpGo (i := 22) (oi := ⟨some 54, _, _, _, _, _⟩) rfl ?_; simp only [Act.put, Z2, Z3, Z4]
 refine wpGv (i := 23) (oi := ⟨some 55, _, _, _, _, _⟩) (v := ?_) rfl ?_ ?_; rotate_left; (focus (intro w9 hSw; go_simp; try with_reducible rfl)); simp only [Act.put, Z2, Z3, Z4]
 refine wpGv (i := 24) (oi := ⟨some 8, _, _, _, _, _⟩) (v := ?_) rfl ?_ ?_; rotate_left; (focus (intro w9 hSw; go_simp; try with_reducible rfl)); simp only [Act.put, Z2, Z3, Z4]
 refine wpG_done (by kernel_rfl) ?_ _
 intro w9 hSw _
 have B9 := Lib.hid (HB1.out.trans (hSw.mono HB1.out.size))
 clear hSw
 go_wp2
 go_ret
 exact ⟨rfl, B9.out⟩
set_option maxHeartbeats 8000000 in
theorem pexcC (c : Cel) (m : MnA) (z : List Int) (no : Int) (w : World) (hlaid : Laid w) (h : m.Ok w) (hz16 : z.length = 16 ∧ AllBytes z) (hs : c.s.size ≤ 100000000) (hbd : ∀ x ∈ m.ls, x.es.length ≤ 1000000 ∧ ∀ e ∈ x.es, e.e.bs.length ≤ 1000000) (dn dr : Int) (hdn : ((lineA m.ls z).getD lnA0).x.n = dn) (hdr : ((lineA m.ls z).getD lnA0).x.r = dr) (ee : En) (hee : ((findA m.ls z no).getD enA0).e = ee) (h1 : stLess dn dr c.n c.r = true) (hi : (findA m.ls z no).isSome = true) (h2 : stLess ee.n ee.r c.n c.r = true) : Calls Tryz.prog 20 #[.agg #[.int .i64 c.n, .int .i64 c.r, .string c.s], .agg m.cs.toArray, .agg (bvals z), .int .i64 no] w fun e w' => e = .returned (.bool true) ∧ Below w.heap.size w w' := by
 have HLA := Lib.hid (fun (X : World) (hX : Below w.heap.size w X) => hlaid.below hX (Nat.le_refl _))
 have LM := Lib.hid (MnA.len h)
 have HZ := Lib.hid hz16
 have HZL := Lib.hid hz16.1
 have HS8 := Lib.hid hs
 have HBD := Lib.hid hbd
 have HDN := Lib.hid hdn
 have HDR := Lib.hid hdr
 have HEE := Lib.hid hee
 have Fm := Lib.hid h
 generalize hsm : (lineA m.ls z).isSome = sm
 have HSM := Lib.hid hsm
 clear hlaid h hz16 hs hbd hdn hdr hee hsm
 have hz := zeroEn
 rw [show KEn.v enA0 = .agg (KEn.cs enA0).toArray from rfl] at hz
 have hzl := zeroLn
 rw [show KLn.v lnA0 = .agg (KLn.cs lnA0).toArray from rfl] at hzl
 have hzne : ¬ (KEn.cs enA0).toArray = #[] := by decide
 have hzne2 : ¬ (KLn.cs lnA0).toArray = #[] := by decide
 have H1 := Lib.hid h1
 clear h1
 have HI := Lib.hid hi
 clear hi
 have H2 := Lib.hid h2
 clear h2
 have B1 := Lib.hid (Below.refl w.heap.size w)
 have T2n := RowAt.new w #[.int .i64 c.n, .int .i64 c.r, .string c.s] 38
 have T2 := Lib.hid T2n
 clear T2n
 have B3 := Lib.hid (B1.out.alloc B1.out.size (.cells #[.int .i64 c.n, .int .i64 c.r, .string c.s] 38))
 have T4 := Lib.hid (T2.out.old (.cells m.cs.toArray 29))
 have T5n := RowAt.new (w.alloc (.cells #[.int .i64 c.n, .int .i64 c.r, .string c.s] 38)) m.cs.toArray 29
 simp only [World.size_alloc] at T5n
 have T5 := Lib.hid T5n
 clear T5n
 have B6 := Lib.hid (B3.out.alloc B3.out.size (.cells m.cs.toArray 29))
 have T7 := Lib.hid (T4.out.old (.cells (bvals z) 31))
 have T8 := Lib.hid (T5.out.old (.cells (bvals z) 31))
 have T9n := RowAt.new ((w.alloc (.cells #[.int .i64 c.n, .int .i64 c.r, .string c.s] 38)).alloc (.cells m.cs.toArray 29)) (bvals z) 31
 simp only [World.size_alloc] at T9n
 have T9 := Lib.hid T9n
 clear T9n
 have B10 := Lib.hid (B6.out.alloc B6.out.size (.cells (bvals z) 31))
 have F11 := Lib.hid (Fm.out.below B10.out (Nat.le_refl _))
 go_enter Tryz.func20, Tryz.ntmps20
 have M15 := Lib.hid (T8.out.mn LM.out)
 have M16 := Lib.hid (T9.out.id HZL.out)
 have C17 := Lib.hid ((show Calls Tryz.prog 29 #[.agg m.cs.toArray, .agg (bvals z)] (((w.alloc (.cells #[.int .i64 c.n, .int .i64 c.r, .string c.s] 38)).alloc (.cells m.cs.toArray 29)).alloc (.cells (bvals z) 31)) (LineN (((w.alloc (.cells #[.int .i64 c.n, .int .i64 c.r, .string c.s] 38)).alloc (.cells m.cs.toArray 29)).alloc (.cells (bvals z) 31)) (lineA m.ls z)) from pline12_any m z (((w.alloc (.cells #[.int .i64 c.n, .int .i64 c.r, .string c.s] 38)).alloc (.cells m.cs.toArray 29)).alloc (.cells (bvals z) 31)) F11.out HZ.out HBD.out))
 unfold LineN at C17
 rw [HSM.out] at C17
 go_wp2_with (first | ((with_reducible refine wpList_load_at (o := ⟨some 14, .load 29 (.tmp 5), _, _, _, _⟩) ?e1 29 (.tmp 5) ?e2 ⟨(w.heap.size + 1), 0, none⟩ ?e3 _ M15.out ?_); (case e1 => rfl); (case e2 => rfl); (case e3 => rfl)) | ((with_reducible refine wpList_load_at (o := ⟨some 15, .load 31 (.tmp 6), _, _, _, _⟩) ?e1 31 (.tmp 6) ?e2 ⟨(w.heap.size + 1 + 1), 0, none⟩ ?e3 _ M16.out ?_); (case e1 => rfl); (case e2 => rfl); (case e3 => rfl)))
 refine C17.out.mono ?_
 rintro e w18 ⟨d12, rfl, hd13, hk14, hb19⟩
 have T20 := Lib.hid (T7.out.below hb19 T7.out.lt)
 have T21 := Lib.hid (T8.out.below hb19 T8.out.lt)
 have T22 := Lib.hid (T9.out.below hb19 T9.out.lt)
 have F23 := Lib.hid (F11.out.below hb19 (Nat.le_refl _))
 have B24 := Lib.hid (B10.out.trans (hb19.mono B10.out.size))
 clear hb19
 have E25 := Lib.hid (hd13)
 have F26 := Lib.hid (hk14)
 clear hd13 hk14
 have SZ26 := Lib.hid (ln_size F26.out)
 have SQ26 := Lib.hid (show (KLn.cs lnA0).toArray.size = (KLn.cs d12).toArray.size by rw [lnA0_size, List.size_toArray]; exact (LnA.len F26.out).symm)
 have SO26 := Lib.hid (ln_ones d12)
 have L28 := Lib.hid (LnA.len F26.out)
 have hb29 := (Below.refl w18.heap.size w18).alloc (Nat.le_refl _) (.cells (KLn.cs d12).toArray 63)
 have T30 := Lib.hid (RowAt.new w18 (KLn.cs d12).toArray 63)
 have T31 := Lib.hid (T20.out.below hb29 T20.out.lt)
 have T32 := Lib.hid (T21.out.below hb29 T21.out.lt)
 have T33 := Lib.hid (T22.out.below hb29 T22.out.lt)
 have F34 := Lib.hid (F23.out.below hb29 (Nat.le_refl _))
 have F35 := Lib.hid (F26.out.below hb29 (Nat.le_refl _))
 have B36 := Lib.hid (B24.out.trans (hb29.mono B24.out.size))
 clear hb29
 have GN := Lib.hid (show d12.n = dn from (congrArg Ln.n E25.out).trans HDN.out)
 have GR := Lib.hid (show d12.r = dr from (congrArg Ln.r E25.out).trans HDR.out)
 have ca16 := ln_c16 (Kind.at_blk (K := KLn) (x := d12) T30.out) F35.out.1
 rw [Nat.zero_add, GN.out] at ca16
 have ca17 := ln_c17 (Kind.at_blk (K := KLn) (x := d12) T30.out) F35.out.1
 rw [Nat.zero_add, GR.out] at ca17
 have cb0 := ClAt.c0 (show ClAt (w18.alloc (.cells (KLn.cs d12).toArray 63)) w.heap.size c from T31.out)
 have cb1 := ClAt.c1 (show ClAt (w18.alloc (.cells (KLn.cs d12).toArray 63)) w.heap.size c from T31.out)
 have C37 := Lib.hid (stLess_any dn dr c.n c.r (w18.alloc (.cells (KLn.cs d12).toArray 63)))
 unfold st at C37
 rw [H1.out] at C37
 go_wp2_with (first | ((with_reducible refine wpList_store_new (o := ⟨none, .store 63 (.tmp 9) (.tmp 17), _, _, _, _⟩) ?e1 63 (.tmp 9) (.tmp 17) ?e2 ?e3 (KLn.cs lnA0).toArray (KLn.cs d12).toArray ?e4 SZ26.out SQ26.out SO26.out ?_); (case e1 => rfl); (case e2 => rfl); (case e3 => (first | rfl | exact congrArg (fun q => Value.pointer (some ⟨q, 0, none⟩)) (World.size_alloc _ _).symm)); (case e4 => rfl)))
 refine C37.out.mono ?_
 rintro e w38 ⟨rfl, hb39⟩
 have T40 := Lib.hid (T31.out.below hb39 T31.out.lt)
 have T41 := Lib.hid (T32.out.below hb39 T32.out.lt)
 have T42 := Lib.hid (T33.out.below hb39 T33.out.lt)
 have T43 := Lib.hid (T30.out.below hb39 T30.out.lt)
 have F44 := Lib.hid (F34.out.below hb39 (Nat.le_refl _))
 have F45 := Lib.hid (F35.out.below hb39 (Nat.le_refl _))
 have B46 := Lib.hid (B36.out.trans (hb39.mono B36.out.size))
 clear hb39
 clear ca16 ca17 cb0 cb1
 have M50 := Lib.hid (T41.out.mn LM.out)
 have M51 := Lib.hid (T42.out.id HZL.out)
 have C52 := Lib.hid ((show Calls Tryz.prog 30 #[.agg m.cs.toArray, .agg (bvals z), .int .i64 no] w38 (FindN w38 (findA m.ls z no)) from pfind12_any m z no w38 F44.out HZ.out HBD.out))
 unfold FindN at C52
 rw [HI.out] at C52
 go_wp2_with (first | ((with_reducible refine wpList_load_at (o := ⟨some 26, .load 29 (.tmp 5), _, _, _, _⟩) ?e1 29 (.tmp 5) ?e2 ⟨(w.heap.size + 1), 0, none⟩ ?e3 _ M50.out ?_); (case e1 => rfl); (case e2 => rfl); (case e3 => rfl)) | ((with_reducible refine wpList_load_at (o := ⟨some 27, .load 31 (.tmp 6), _, _, _, _⟩) ?e1 31 (.tmp 6) ?e2 ⟨(w.heap.size + 1 + 1), 0, none⟩ ?e3 _ M51.out ?_); (case e1 => rfl); (case e2 => rfl); (case e3 => rfl)))
 refine C52.out.mono ?_
 rintro e w53 ⟨d47, rfl, hd48, hk49, hb54⟩
 have T55 := Lib.hid (T40.out.below hb54 T40.out.lt)
 have T56 := Lib.hid (T41.out.below hb54 T41.out.lt)
 have T57 := Lib.hid (T42.out.below hb54 T42.out.lt)
 have T58 := Lib.hid (T43.out.below hb54 T43.out.lt)
 have F59 := Lib.hid (F44.out.below hb54 (Nat.le_refl _))
 have F60 := Lib.hid (F45.out.below hb54 (Nat.le_refl _))
 have B61 := Lib.hid (B46.out.trans (hb54.mono B46.out.size))
 clear hb54
 have E62 := Lib.hid (hd48)
 have F63 := Lib.hid (hk49)
 clear hd48 hk49
 have SZ63 := Lib.hid (en_size F63.out)
 have SQ63 := Lib.hid (show (KEn.cs enA0).toArray.size = (KEn.cs d47).toArray.size by rw [enA0_size, List.size_toArray]; exact (EnA.len F63.out).symm)
 have SO63 := Lib.hid (en_ones d47)
 have L65 := Lib.hid (EnA.len F63.out)
 have hb66 := (Below.refl w53.heap.size w53).alloc (Nat.le_refl _) (.cells (KEn.cs d47).toArray 68)
 have T67 := Lib.hid (RowAt.new w53 (KEn.cs d47).toArray 68)
 have T68 := Lib.hid (T55.out.below hb66 T55.out.lt)
 have T69 := Lib.hid (T56.out.below hb66 T56.out.lt)
 have T70 := Lib.hid (T57.out.below hb66 T57.out.lt)
 have T71 := Lib.hid (T58.out.below hb66 T58.out.lt)
 have F72 := Lib.hid (F59.out.below hb66 (Nat.le_refl _))
 have F73 := Lib.hid (F60.out.below hb66 (Nat.le_refl _))
 have F74 := Lib.hid (F63.out.below hb66 (Nat.le_refl _))
 have B75 := Lib.hid (B61.out.trans (hb66.mono B61.out.size))
 clear hb66
 have T4' := Lib.hid T68.out
 have T5' := Lib.hid T69.out
 have T11' := Lib.hid T67.out
 have HB1 := Lib.hid B75.out
 have OU := Lib.hid F74.out
 have EE := Lib.hid (E62.out.trans HEE.out)
 have EC1 := Lib.hid (fun (X : World) (hX : Below ((w53.alloc (.cells (KEn.cs d47).toArray 68))).heap.size (w53.alloc (.cells (KEn.cs d47).toArray 68)) X) => (show X.cell? ⟨w53.heap.size, 1, none⟩ = some (.int .i64 ee.n) from by have h := en_c1 (Kind.at_blk (K := KEn) (x := d47) (T11'.out.below hX T11'.out.lt)); (try simp only [Nat.zero_add] at h); rw [EE.out] at h; exact h))
 have EC2 := Lib.hid (fun (X : World) (hX : Below ((w53.alloc (.cells (KEn.cs d47).toArray 68))).heap.size (w53.alloc (.cells (KEn.cs d47).toArray 68)) X) => (show X.cell? ⟨w53.heap.size, 2, none⟩ = some (.int .i64 ee.r) from by have h := en_c2 (Kind.at_blk (K := KEn) (x := d47) (T11'.out.below hX T11'.out.lt)); (try simp only [Nat.zero_add] at h); rw [EE.out] at h; exact h))
 have LED := Lib.hid (fun (X : World) (hX : Below ((w53.alloc (.cells (KEn.cs d47).toArray 68))).heap.size (w53.alloc (.cells (KEn.cs d47).toArray 68)) X) => (show (loadVar 26 ⟨w53.heap.size, 4, none⟩).run Tryz.prog X = .ok (.agg (bvals ee.ds)) X from by have h := load_dig (en_dig (Kind.at_blk (K := KEn) (x := d47) (T11'.out.below hX T11'.out.lt)) OU.out.2.2.2.2.1) OU.out.2.2.2.2.1; rw [EE.out] at h; exact h))
 have HD32 := Lib.hid (show ee.ds.length = 32 from by rw [← EE.out]; exact OU.out.2.2.2.2.1)
 have HDB := Lib.hid (show AllBytes ee.ds from by rw [← EE.out]; exact OU.out.2.2.2.2.2.1)
 have CC0 := Lib.hid (fun (X : World) (hX : Below ((w53.alloc (.cells (KEn.cs d47).toArray 68))).heap.size (w53.alloc (.cells (KEn.cs d47).toArray 68)) X) => ClAt.c0 (show ClAt X w.heap.size c from T4'.out.below hX T4'.out.lt))
 have CC1 := Lib.hid (fun (X : World) (hX : Below ((w53.alloc (.cells (KEn.cs d47).toArray 68))).heap.size (w53.alloc (.cells (KEn.cs d47).toArray 68)) X) => ClAt.c1 (show ClAt X w.heap.size c from T4'.out.below hX T4'.out.lt))
 have CC2 := Lib.hid (fun (X : World) (hX : Below ((w53.alloc (.cells (KEn.cs d47).toArray 68))).heap.size (w53.alloc (.cells (KEn.cs d47).toArray 68)) X) => ClAt.c2 (show ClAt X w.heap.size c from T4'.out.below hX T4'.out.lt))
 have CLS := Lib.hid (fun X => stLess_any ee.n ee.r c.n c.r X)
 unfold st at CLS
 rw [H2.out] at CLS
 go_wp2_with (((with_reducible refine wpList_store_new (o := ⟨none, .store 68 (.tmp 11) (.tmp 30), _, _, _, _⟩) ?e1 68 (.tmp 11) (.tmp 30) ?e2 ?e3 (KEn.cs enA0).toArray (KEn.cs d47).toArray ?e4 SZ63.out SQ63.out SO63.out ?_); (case e1 => rfl); (case e2 => rfl); (case e3 => (first | rfl | exact congrArg (fun q => Value.pointer (some ⟨q, 0, none⟩)) (World.size_alloc _ _).symm)); (case e4 => rfl)))
 generalize ((w53.alloc (.cells (KEn.cs d47).toArray 68))) = w1 at *
 refine wp_region_G _ (by kernel_rfl) ?_
 refine wpGv (i := 0) (oi := ⟨some 32, _, _, _, _, _⟩) (v := ?_) rfl ?_ ?_; rotate_left; (focus (intro w9 hSw; go_simp; try with_reducible rfl)); simp only [Act.put, Z2, Z3, Z4]
 refine wpGv (i := 1) (oi := ⟨some 33, _, _, _, _, _⟩) (v := ?_) rfl ?_ ?_; rotate_left; (focus (intro w9 hSw; go_simp; try with_reducible rfl)); simp only [Act.put, Z2, Z3, Z4]
 refine wpGv (i := 2) (oi := ⟨some 34, _, _, _, _, _⟩) (v := ?_) rfl ?_ ?_; rotate_left; (focus (intro w9 hSw; go_simp; try with_reducible rfl)); simp only [Act.put, Z2, Z3, Z4]
 refine wpGv (i := 3) (oi := ⟨some 35, _, _, _, _, _⟩) (v := ?_) rfl ?_ ?_; rotate_left; (focus (intro w9 hSw; go_simp; try with_reducible rfl)); simp only [Act.put, Z2, Z3, Z4]
 refine wpGv (i := 4) (oi := ⟨some 36, _, _, _, _, _⟩) (v := ?_) rfl ?_ ?_; rotate_left; (focus (intro w9 hSw; have q0 := EC1.out w9 hSw; have q1 := EC2.out w9 hSw; go_simp; try with_reducible rfl)); simp only [Act.put, Z2, Z3, Z4]
 refine wpGv (i := 5) (oi := ⟨some 37, _, _, _, _, _⟩) (v := ?_) rfl ?_ ?_; rotate_left; (focus (intro w9 hSw; go_simp; try with_reducible rfl)); simp only [Act.put, Z2, Z3, Z4]
 refine wpGv (i := 6) (oi := ⟨some 38, _, _, _, _, _⟩) (v := ?_) rfl ?_ ?_; rotate_left; (focus (intro w9 hSw; have q0 := CC0.out w9 hSw; have q1 := CC1.out w9 hSw; go_simp; try with_reducible rfl)); simp only [Act.put, Z2, Z3, Z4]
 refine wpG_take (i := 7) (oi := ⟨some 39, _, _, _, _, _⟩) rfl (by kernel_rfl) (by kernel_rfl) (by kernel_rfl) (Or.inl ⟨by rfl, unib_call ?_ CLS.out⟩) ?_; (focus (intro w9 hSw; go_simp; try with_reducible rfl)); simp only [Act.put, Z2, Z3, Z4]
 refine wpGv (i := 8) (oi := ⟨some 40, _, _, _, _, _⟩) (v := ?_) rfl ?_ ?_; rotate_left; (focus (intro w9 hSw; go_simp; try with_reducible rfl)); simp only [Act.put, Z2, Z3, Z4]
 refine wpGv (i := 9) (oi := ⟨some 41, _, _, _, _, _⟩) (v := ?_) rfl ?_ ?_; rotate_left; (focus (intro w9 hSw; go_simp; try with_reducible rfl)); simp only [Act.put, Z2, Z3, Z4]
 refine wpGo (i := 10) (oi := ⟨some 42, _, _, _, _, _⟩) rfl ?_; simp only [Act.put, Z2, Z3, Z4]
 refine wpGo (i := 11) (oi := ⟨some 43, _, _, _, _, _⟩) rfl ?_; simp only [Act.put, Z2, Z3, Z4]
 refine wpGo (i := 12) (oi := ⟨some 44, _, _, _, _, _⟩) rfl ?_; simp only [Act.put, Z2, Z3, Z4]
 refine wpGo (i := 13) (oi := ⟨some 45, _, _, _, _, _⟩) rfl ?_; simp only [Act.put, Z2, Z3, Z4]
 refine wpGo (i := 14) (oi := ⟨some 46, _, _, _, _, _⟩) rfl ?_; simp only [Act.put, Z2, Z3, Z4]
 refine wpGo (i := 15) (oi := ⟨some 47, _, _, _, _, _⟩) rfl ?_; simp only [Act.put, Z2, Z3, Z4]
 refine wpGo (i := 16) (oi := ⟨some 48, _, _, _, _, _⟩) rfl ?_; simp only [Act.put, Z2, Z3, Z4]
 refine wpGo (i := 17) (oi := ⟨some 49, _, _, _, _, _⟩) rfl ?_; simp only [Act.put, Z2, Z3, Z4]
 refine wpGo (i := 18) (oi := ⟨some 50, _, _, _, _, _⟩) rfl ?_; simp only [Act.put, Z2, Z3, Z4]
 refine wpGo (i := 19) (oi := ⟨some 51, _, _, _, _, _⟩) rfl ?_; simp only [Act.put, Z2, Z3, Z4]
 refine wpGo (i := 20) (oi := ⟨some 52, _, _, _, _, _⟩) rfl ?_; simp only [Act.put, Z2, Z3, Z4]
 refine wpGo (i := 21) (oi := ⟨some 53, _, _, _, _, _⟩) rfl ?_; simp only [Act.put, Z2, Z3, Z4]
 refine wpGo (i := 22) (oi := ⟨some 54, _, _, _, _, _⟩) rfl ?_; simp only [Act.put, Z2, Z3, Z4]
 refine wpGv (i := 23) (oi := ⟨some 55, _, _, _, _, _⟩) (v := ?_) rfl ?_ ?_; rotate_left; (focus (intro w9 hSw; go_simp; try with_reducible rfl)); simp only [Act.put, Z2, Z3, Z4]
 refine wpGv (i := 24) (oi := ⟨some 8, _, _, _, _, _⟩) (v := ?_) rfl ?_ ?_; rotate_left; (focus (intro w9 hSw; go_simp; try with_reducible rfl)); simp only [Act.put, Z2, Z3, Z4]
 refine wpG_done (by kernel_rfl) ?_ _
 intro w9 hSw _
 have B9 := Lib.hid (HB1.out.trans (hSw.mono HB1.out.size))
 clear hSw
 go_wp2
 go_ret
 exact ⟨rfl, B9.out⟩
set_option maxHeartbeats 8000000 in
theorem pexcD (c : Cel) (m : MnA) (z : List Int) (no : Int) (w : World) (hlaid : Laid w) (h : m.Ok w) (hz16 : z.length = 16 ∧ AllBytes z) (hs : c.s.size ≤ 100000000) (hbd : ∀ x ∈ m.ls, x.es.length ≤ 1000000 ∧ ∀ e ∈ x.es, e.e.bs.length ≤ 1000000) (dn dr : Int) (hdn : ((lineA m.ls z).getD lnA0).x.n = dn) (hdr : ((lineA m.ls z).getD lnA0).x.r = dr) (ee : En) (hee : ((findA m.ls z no).getD enA0).e = ee) (h1 : stLess dn dr c.n c.r = true) (hi : (findA m.ls z no).isSome = true) (h2 : stLess ee.n ee.r c.n c.r = false) (h3 : decide (ee.n = c.n ∧ ee.r = c.r) = false) : Calls Tryz.prog 20 #[.agg #[.int .i64 c.n, .int .i64 c.r, .string c.s], .agg m.cs.toArray, .agg (bvals z), .int .i64 no] w fun e w' => e = .returned (.bool false) ∧ Below w.heap.size w w' := by
 have HLA := Lib.hid (fun (X : World) (hX : Below w.heap.size w X) => hlaid.below hX (Nat.le_refl _))
 have LM := Lib.hid (MnA.len h)
 have HZ := Lib.hid hz16
 have HZL := Lib.hid hz16.1
 have HS8 := Lib.hid hs
 have HBD := Lib.hid hbd
 have HDN := Lib.hid hdn
 have HDR := Lib.hid hdr
 have HEE := Lib.hid hee
 have Fm := Lib.hid h
 generalize hsm : (lineA m.ls z).isSome = sm
 have HSM := Lib.hid hsm
 clear hlaid h hz16 hs hbd hdn hdr hee hsm
 have hz := zeroEn
 rw [show KEn.v enA0 = .agg (KEn.cs enA0).toArray from rfl] at hz
 have hzl := zeroLn
 rw [show KLn.v lnA0 = .agg (KLn.cs lnA0).toArray from rfl] at hzl
 have hzne : ¬ (KEn.cs enA0).toArray = #[] := by decide
 have hzne2 : ¬ (KLn.cs lnA0).toArray = #[] := by decide
 have H1 := Lib.hid h1
 clear h1
 have HI := Lib.hid hi
 clear hi
 have H2 := Lib.hid h2
 clear h2
 have H3 := Lib.hid h3
 clear h3
 have B1 := Lib.hid (Below.refl w.heap.size w)
 have T2n := RowAt.new w #[.int .i64 c.n, .int .i64 c.r, .string c.s] 38
 have T2 := Lib.hid T2n
 clear T2n
 have B3 := Lib.hid (B1.out.alloc B1.out.size (.cells #[.int .i64 c.n, .int .i64 c.r, .string c.s] 38))
 have T4 := Lib.hid (T2.out.old (.cells m.cs.toArray 29))
 have T5n := RowAt.new (w.alloc (.cells #[.int .i64 c.n, .int .i64 c.r, .string c.s] 38)) m.cs.toArray 29
 simp only [World.size_alloc] at T5n
 have T5 := Lib.hid T5n
 clear T5n
 have B6 := Lib.hid (B3.out.alloc B3.out.size (.cells m.cs.toArray 29))
 have T7 := Lib.hid (T4.out.old (.cells (bvals z) 31))
 have T8 := Lib.hid (T5.out.old (.cells (bvals z) 31))
 have T9n := RowAt.new ((w.alloc (.cells #[.int .i64 c.n, .int .i64 c.r, .string c.s] 38)).alloc (.cells m.cs.toArray 29)) (bvals z) 31
 simp only [World.size_alloc] at T9n
 have T9 := Lib.hid T9n
 clear T9n
 have B10 := Lib.hid (B6.out.alloc B6.out.size (.cells (bvals z) 31))
 have F11 := Lib.hid (Fm.out.below B10.out (Nat.le_refl _))
 go_enter Tryz.func20, Tryz.ntmps20
 have M15 := Lib.hid (T8.out.mn LM.out)
 have M16 := Lib.hid (T9.out.id HZL.out)
 have C17 := Lib.hid ((show Calls Tryz.prog 29 #[.agg m.cs.toArray, .agg (bvals z)] (((w.alloc (.cells #[.int .i64 c.n, .int .i64 c.r, .string c.s] 38)).alloc (.cells m.cs.toArray 29)).alloc (.cells (bvals z) 31)) (LineN (((w.alloc (.cells #[.int .i64 c.n, .int .i64 c.r, .string c.s] 38)).alloc (.cells m.cs.toArray 29)).alloc (.cells (bvals z) 31)) (lineA m.ls z)) from pline12_any m z (((w.alloc (.cells #[.int .i64 c.n, .int .i64 c.r, .string c.s] 38)).alloc (.cells m.cs.toArray 29)).alloc (.cells (bvals z) 31)) F11.out HZ.out HBD.out))
 unfold LineN at C17
 rw [HSM.out] at C17
 go_wp2_with (first | ((with_reducible refine wpList_load_at (o := ⟨some 14, .load 29 (.tmp 5), _, _, _, _⟩) ?e1 29 (.tmp 5) ?e2 ⟨(w.heap.size + 1), 0, none⟩ ?e3 _ M15.out ?_); (case e1 => rfl); (case e2 => rfl); (case e3 => rfl)) | ((with_reducible refine wpList_load_at (o := ⟨some 15, .load 31 (.tmp 6), _, _, _, _⟩) ?e1 31 (.tmp 6) ?e2 ⟨(w.heap.size + 1 + 1), 0, none⟩ ?e3 _ M16.out ?_); (case e1 => rfl); (case e2 => rfl); (case e3 => rfl)))
 refine C17.out.mono ?_
 rintro e w18 ⟨d12, rfl, hd13, hk14, hb19⟩
 have T20 := Lib.hid (T7.out.below hb19 T7.out.lt)
 have T21 := Lib.hid (T8.out.below hb19 T8.out.lt)
 have T22 := Lib.hid (T9.out.below hb19 T9.out.lt)
 have F23 := Lib.hid (F11.out.below hb19 (Nat.le_refl _))
 have B24 := Lib.hid (B10.out.trans (hb19.mono B10.out.size))
 clear hb19
 have E25 := Lib.hid (hd13)
 have F26 := Lib.hid (hk14)
 clear hd13 hk14
 have SZ26 := Lib.hid (ln_size F26.out)
 have SQ26 := Lib.hid (show (KLn.cs lnA0).toArray.size = (KLn.cs d12).toArray.size by rw [lnA0_size, List.size_toArray]; exact (LnA.len F26.out).symm)
 have SO26 := Lib.hid (ln_ones d12)
 have L28 := Lib.hid (LnA.len F26.out)
 have hb29 := (Below.refl w18.heap.size w18).alloc (Nat.le_refl _) (.cells (KLn.cs d12).toArray 63)
 have T30 := Lib.hid (RowAt.new w18 (KLn.cs d12).toArray 63)
 have T31 := Lib.hid (T20.out.below hb29 T20.out.lt)
 have T32 := Lib.hid (T21.out.below hb29 T21.out.lt)
 have T33 := Lib.hid (T22.out.below hb29 T22.out.lt)
 have F34 := Lib.hid (F23.out.below hb29 (Nat.le_refl _))
 have F35 := Lib.hid (F26.out.below hb29 (Nat.le_refl _))
 have B36 := Lib.hid (B24.out.trans (hb29.mono B24.out.size))
 clear hb29
 have GN := Lib.hid (show d12.n = dn from (congrArg Ln.n E25.out).trans HDN.out)
 have GR := Lib.hid (show d12.r = dr from (congrArg Ln.r E25.out).trans HDR.out)
 have ca16 := ln_c16 (Kind.at_blk (K := KLn) (x := d12) T30.out) F35.out.1
 rw [Nat.zero_add, GN.out] at ca16
 have ca17 := ln_c17 (Kind.at_blk (K := KLn) (x := d12) T30.out) F35.out.1
 rw [Nat.zero_add, GR.out] at ca17
 have cb0 := ClAt.c0 (show ClAt (w18.alloc (.cells (KLn.cs d12).toArray 63)) w.heap.size c from T31.out)
 have cb1 := ClAt.c1 (show ClAt (w18.alloc (.cells (KLn.cs d12).toArray 63)) w.heap.size c from T31.out)
 have C37 := Lib.hid (stLess_any dn dr c.n c.r (w18.alloc (.cells (KLn.cs d12).toArray 63)))
 unfold st at C37
 rw [H1.out] at C37
 go_wp2_with (first | ((with_reducible refine wpList_store_new (o := ⟨none, .store 63 (.tmp 9) (.tmp 17), _, _, _, _⟩) ?e1 63 (.tmp 9) (.tmp 17) ?e2 ?e3 (KLn.cs lnA0).toArray (KLn.cs d12).toArray ?e4 SZ26.out SQ26.out SO26.out ?_); (case e1 => rfl); (case e2 => rfl); (case e3 => (first | rfl | exact congrArg (fun q => Value.pointer (some ⟨q, 0, none⟩)) (World.size_alloc _ _).symm)); (case e4 => rfl)))
 refine C37.out.mono ?_
 rintro e w38 ⟨rfl, hb39⟩
 have T40 := Lib.hid (T31.out.below hb39 T31.out.lt)
 have T41 := Lib.hid (T32.out.below hb39 T32.out.lt)
 have T42 := Lib.hid (T33.out.below hb39 T33.out.lt)
 have T43 := Lib.hid (T30.out.below hb39 T30.out.lt)
 have F44 := Lib.hid (F34.out.below hb39 (Nat.le_refl _))
 have F45 := Lib.hid (F35.out.below hb39 (Nat.le_refl _))
 have B46 := Lib.hid (B36.out.trans (hb39.mono B36.out.size))
 clear hb39
 clear ca16 ca17 cb0 cb1
 have M50 := Lib.hid (T41.out.mn LM.out)
 have M51 := Lib.hid (T42.out.id HZL.out)
 have C52 := Lib.hid ((show Calls Tryz.prog 30 #[.agg m.cs.toArray, .agg (bvals z), .int .i64 no] w38 (FindN w38 (findA m.ls z no)) from pfind12_any m z no w38 F44.out HZ.out HBD.out))
 unfold FindN at C52
 rw [HI.out] at C52
 go_wp2_with (first | ((with_reducible refine wpList_load_at (o := ⟨some 26, .load 29 (.tmp 5), _, _, _, _⟩) ?e1 29 (.tmp 5) ?e2 ⟨(w.heap.size + 1), 0, none⟩ ?e3 _ M50.out ?_); (case e1 => rfl); (case e2 => rfl); (case e3 => rfl)) | ((with_reducible refine wpList_load_at (o := ⟨some 27, .load 31 (.tmp 6), _, _, _, _⟩) ?e1 31 (.tmp 6) ?e2 ⟨(w.heap.size + 1 + 1), 0, none⟩ ?e3 _ M51.out ?_); (case e1 => rfl); (case e2 => rfl); (case e3 => rfl)))
 refine C52.out.mono ?_
 rintro e w53 ⟨d47, rfl, hd48, hk49, hb54⟩
 have T55 := Lib.hid (T40.out.below hb54 T40.out.lt)
 have T56 := Lib.hid (T41.out.below hb54 T41.out.lt)
 have T57 := Lib.hid (T42.out.below hb54 T42.out.lt)
 have T58 := Lib.hid (T43.out.below hb54 T43.out.lt)
 have F59 := Lib.hid (F44.out.below hb54 (Nat.le_refl _))
 have F60 := Lib.hid (F45.out.below hb54 (Nat.le_refl _))
 have B61 := Lib.hid (B46.out.trans (hb54.mono B46.out.size))
 clear hb54
 have E62 := Lib.hid (hd48)
 have F63 := Lib.hid (hk49)
 clear hd48 hk49
 have SZ63 := Lib.hid (en_size F63.out)
 have SQ63 := Lib.hid (show (KEn.cs enA0).toArray.size = (KEn.cs d47).toArray.size by rw [enA0_size, List.size_toArray]; exact (EnA.len F63.out).symm)
 have SO63 := Lib.hid (en_ones d47)
 have L65 := Lib.hid (EnA.len F63.out)
 have hb66 := (Below.refl w53.heap.size w53).alloc (Nat.le_refl _) (.cells (KEn.cs d47).toArray 68)
 have T67 := Lib.hid (RowAt.new w53 (KEn.cs d47).toArray 68)
 have T68 := Lib.hid (T55.out.below hb66 T55.out.lt)
 have T69 := Lib.hid (T56.out.below hb66 T56.out.lt)
 have T70 := Lib.hid (T57.out.below hb66 T57.out.lt)
 have T71 := Lib.hid (T58.out.below hb66 T58.out.lt)
 have F72 := Lib.hid (F59.out.below hb66 (Nat.le_refl _))
 have F73 := Lib.hid (F60.out.below hb66 (Nat.le_refl _))
 have F74 := Lib.hid (F63.out.below hb66 (Nat.le_refl _))
 have B75 := Lib.hid (B61.out.trans (hb66.mono B61.out.size))
 clear hb66
 have T4' := Lib.hid T68.out
 have T5' := Lib.hid T69.out
 have T11' := Lib.hid T67.out
 have HB1 := Lib.hid B75.out
 have OU := Lib.hid F74.out
 have EE := Lib.hid (E62.out.trans HEE.out)
 have EC1 := Lib.hid (fun (X : World) (hX : Below ((w53.alloc (.cells (KEn.cs d47).toArray 68))).heap.size (w53.alloc (.cells (KEn.cs d47).toArray 68)) X) => (show X.cell? ⟨w53.heap.size, 1, none⟩ = some (.int .i64 ee.n) from by have h := en_c1 (Kind.at_blk (K := KEn) (x := d47) (T11'.out.below hX T11'.out.lt)); (try simp only [Nat.zero_add] at h); rw [EE.out] at h; exact h))
 have EC2 := Lib.hid (fun (X : World) (hX : Below ((w53.alloc (.cells (KEn.cs d47).toArray 68))).heap.size (w53.alloc (.cells (KEn.cs d47).toArray 68)) X) => (show X.cell? ⟨w53.heap.size, 2, none⟩ = some (.int .i64 ee.r) from by have h := en_c2 (Kind.at_blk (K := KEn) (x := d47) (T11'.out.below hX T11'.out.lt)); (try simp only [Nat.zero_add] at h); rw [EE.out] at h; exact h))
 have LED := Lib.hid (fun (X : World) (hX : Below ((w53.alloc (.cells (KEn.cs d47).toArray 68))).heap.size (w53.alloc (.cells (KEn.cs d47).toArray 68)) X) => (show (loadVar 26 ⟨w53.heap.size, 4, none⟩).run Tryz.prog X = .ok (.agg (bvals ee.ds)) X from by have h := load_dig (en_dig (Kind.at_blk (K := KEn) (x := d47) (T11'.out.below hX T11'.out.lt)) OU.out.2.2.2.2.1) OU.out.2.2.2.2.1; rw [EE.out] at h; exact h))
 have HD32 := Lib.hid (show ee.ds.length = 32 from by rw [← EE.out]; exact OU.out.2.2.2.2.1)
 have HDB := Lib.hid (show AllBytes ee.ds from by rw [← EE.out]; exact OU.out.2.2.2.2.2.1)
 have CC0 := Lib.hid (fun (X : World) (hX : Below ((w53.alloc (.cells (KEn.cs d47).toArray 68))).heap.size (w53.alloc (.cells (KEn.cs d47).toArray 68)) X) => ClAt.c0 (show ClAt X w.heap.size c from T4'.out.below hX T4'.out.lt))
 have CC1 := Lib.hid (fun (X : World) (hX : Below ((w53.alloc (.cells (KEn.cs d47).toArray 68))).heap.size (w53.alloc (.cells (KEn.cs d47).toArray 68)) X) => ClAt.c1 (show ClAt X w.heap.size c from T4'.out.below hX T4'.out.lt))
 have CC2 := Lib.hid (fun (X : World) (hX : Below ((w53.alloc (.cells (KEn.cs d47).toArray 68))).heap.size (w53.alloc (.cells (KEn.cs d47).toArray 68)) X) => ClAt.c2 (show ClAt X w.heap.size c from T4'.out.below hX T4'.out.lt))
 have CLS := Lib.hid (fun X => stLess_any ee.n ee.r c.n c.r X)
 unfold st at CLS
 rw [H2.out] at CLS
 have QE := Lib.hid (fun X : World => (show (Op.equalIn 10000 33 (.agg #[.int .i64 ee.n, .int .i64 ee.r]) (.agg #[.int .i64 c.n, .int .i64 c.r])).run Tryz.prog X = .ok false X from by have h := eq_st (n := ee.n) (r := ee.r) (m := c.n) (s := c.r) X; rw [H3.out] at h; exact h))
 go_wp2_with (((with_reducible refine wpList_store_new (o := ⟨none, .store 68 (.tmp 11) (.tmp 30), _, _, _, _⟩) ?e1 68 (.tmp 11) (.tmp 30) ?e2 ?e3 (KEn.cs enA0).toArray (KEn.cs d47).toArray ?e4 SZ63.out SQ63.out SO63.out ?_); (case e1 => rfl); (case e2 => rfl); (case e3 => (first | rfl | exact congrArg (fun q => Value.pointer (some ⟨q, 0, none⟩)) (World.size_alloc _ _).symm)); (case e4 => rfl)))
 generalize ((w53.alloc (.cells (KEn.cs d47).toArray 68))) = w1 at *
 refine wp_region_G _ (by kernel_rfl) ?_
 refine wpGv (i := 0) (oi := ⟨some 32, _, _, _, _, _⟩) (v := ?_) rfl ?_ ?_; rotate_left; (focus (intro w9 hSw; go_simp; try with_reducible rfl)); simp only [Act.put, Z2, Z3, Z4]
 refine wpGv (i := 1) (oi := ⟨some 33, _, _, _, _, _⟩) (v := ?_) rfl ?_ ?_; rotate_left; (focus (intro w9 hSw; go_simp; try with_reducible rfl)); simp only [Act.put, Z2, Z3, Z4]
 refine wpGv (i := 2) (oi := ⟨some 34, _, _, _, _, _⟩) (v := ?_) rfl ?_ ?_; rotate_left; (focus (intro w9 hSw; go_simp; try with_reducible rfl)); simp only [Act.put, Z2, Z3, Z4]
 refine wpGv (i := 3) (oi := ⟨some 35, _, _, _, _, _⟩) (v := ?_) rfl ?_ ?_; rotate_left; (focus (intro w9 hSw; go_simp; try with_reducible rfl)); simp only [Act.put, Z2, Z3, Z4]
 refine wpGv (i := 4) (oi := ⟨some 36, _, _, _, _, _⟩) (v := ?_) rfl ?_ ?_; rotate_left; (focus (intro w9 hSw; have q0 := EC1.out w9 hSw; have q1 := EC2.out w9 hSw; go_simp; try with_reducible rfl)); simp only [Act.put, Z2, Z3, Z4]
 refine wpGv (i := 5) (oi := ⟨some 37, _, _, _, _, _⟩) (v := ?_) rfl ?_ ?_; rotate_left; (focus (intro w9 hSw; go_simp; try with_reducible rfl)); simp only [Act.put, Z2, Z3, Z4]
 refine wpGv (i := 6) (oi := ⟨some 38, _, _, _, _, _⟩) (v := ?_) rfl ?_ ?_; rotate_left; (focus (intro w9 hSw; have q0 := CC0.out w9 hSw; have q1 := CC1.out w9 hSw; go_simp; try with_reducible rfl)); simp only [Act.put, Z2, Z3, Z4]
 refine wpG_take (i := 7) (oi := ⟨some 39, _, _, _, _, _⟩) rfl (by kernel_rfl) (by kernel_rfl) (by kernel_rfl) (Or.inl ⟨by rfl, unib_call ?_ CLS.out⟩) ?_; (focus (intro w9 hSw; go_simp; try with_reducible rfl)); simp only [Act.put, Z2, Z3, Z4]
 refine wpGv (i := 8) (oi := ⟨some 40, _, _, _, _, _⟩) (v := ?_) rfl ?_ ?_; rotate_left; (focus (intro w9 hSw; go_simp; try with_reducible rfl)); simp only [Act.put, Z2, Z3, Z4]
 refine wpGv (i := 9) (oi := ⟨some 41, _, _, _, _, _⟩) (v := ?_) rfl ?_ ?_; rotate_left; (focus (intro w9 hSw; go_simp; try with_reducible rfl)); simp only [Act.put, Z2, Z3, Z4]
 refine wpGv (i := 10) (oi := ⟨some 42, _, _, _, _, _⟩) (v := ?_) rfl ?_ ?_; rotate_left; (focus (intro w9 hSw; go_simp; try with_reducible rfl)); simp only [Act.put, Z2, Z3, Z4]
 refine wpGv (i := 11) (oi := ⟨some 43, _, _, _, _, _⟩) (v := ?_) rfl ?_ ?_; rotate_left; (focus (intro w9 hSw; have q0 := EC1.out w9 hSw; have q1 := EC2.out w9 hSw; go_simp; try with_reducible rfl)); simp only [Act.put, Z2, Z3, Z4]
 refine wpGv (i := 12) (oi := ⟨some 44, _, _, _, _, _⟩) (v := ?_) rfl ?_ ?_; rotate_left; (focus (intro w9 hSw; go_simp; try with_reducible rfl)); simp only [Act.put, Z2, Z3, Z4]
 refine wpGv (i := 13) (oi := ⟨some 45, _, _, _, _, _⟩) (v := ?_) rfl ?_ ?_; rotate_left; (focus (intro w9 hSw; have q0 := CC0.out w9 hSw; have q1 := CC1.out w9 hSw; go_simp; try with_reducible rfl)); simp only [Act.put, Z2, Z3, Z4]
 refine wpGv (i := 14) (oi := ⟨some 46, _, _, _, _, _⟩) (v := (.bool false)) rfl ?_ ?_; (focus (intro w9 hSw; have q0 := QE.out w9; exact exec_eql_at 33 _ _ _ rfl rfl rfl guardStM q0)); simp only [Act.put, Z2, Z3, Z4]
 refine wpGv (i := 15) (oi := ⟨some 47, _, _, _, _, _⟩) (v := ?_) rfl ?_ ?_; rotate_left; (focus (intro w9 hSw; go_simp; try with_reducible rfl)); simp only [Act.put, Z2, Z3, Z4]
 refine wpGo (i := 16) (oi := ⟨some 48, _, _, _, _, _⟩) rfl ?_; simp only [Act.put, Z2, Z3, Z4]
 refine wpGo (i := 17) (oi := ⟨some 49, _, _, _, _, _⟩) rfl ?_; simp only [Act.put, Z2, Z3, Z4]
 refine wpGo (i := 18) (oi := ⟨some 50, _, _, _, _, _⟩) rfl ?_; simp only [Act.put, Z2, Z3, Z4]
 refine wpGo (i := 19) (oi := ⟨some 51, _, _, _, _, _⟩) rfl ?_; simp only [Act.put, Z2, Z3, Z4]
 refine wpGo (i := 20) (oi := ⟨some 52, _, _, _, _, _⟩) rfl ?_; simp only [Act.put, Z2, Z3, Z4]
 refine wpGo (i := 21) (oi := ⟨some 53, _, _, _, _, _⟩) rfl ?_; simp only [Act.put, Z2, Z3, Z4]
 refine wpGv (i := 22) (oi := ⟨some 54, _, _, _, _, _⟩) (v := ?_) rfl ?_ ?_; rotate_left; (focus (intro w9 hSw; go_simp; try with_reducible rfl)); simp only [Act.put, Z2, Z3, Z4]
 refine wpGv (i := 23) (oi := ⟨some 55, _, _, _, _, _⟩) (v := ?_) rfl ?_ ?_; rotate_left; (focus (intro w9 hSw; go_simp; try with_reducible rfl)); simp only [Act.put, Z2, Z3, Z4]
 refine wpGv (i := 24) (oi := ⟨some 8, _, _, _, _, _⟩) (v := ?_) rfl ?_ ?_; rotate_left; (focus (intro w9 hSw; go_simp; try with_reducible rfl)); simp only [Act.put, Z2, Z3, Z4]
 refine wpG_done (by kernel_rfl) ?_ _
 intro w9 hSw _
 have B9 := Lib.hid (HB1.out.trans (hSw.mono HB1.out.size))
 clear hSw
 go_wp2
 go_ret
 exact ⟨rfl, B9.out⟩
set_option maxHeartbeats 8000000 in
theorem pexcE (c : Cel) (m : MnA) (z : List Int) (no : Int) (w : World) (hlaid : Laid w) (h : m.Ok w) (hz16 : z.length = 16 ∧ AllBytes z) (hs : c.s.size ≤ 100000000) (hbd : ∀ x ∈ m.ls, x.es.length ≤ 1000000 ∧ ∀ e ∈ x.es, e.e.bs.length ≤ 1000000) (dn dr : Int) (hdn : ((lineA m.ls z).getD lnA0).x.n = dn) (hdr : ((lineA m.ls z).getD lnA0).x.r = dr) (ee : En) (hee : ((findA m.ls z no).getD enA0).e = ee) (h1 : stLess dn dr c.n c.r = true) (hi : (findA m.ls z no).isSome = true) (h2 : stLess ee.n ee.r c.n c.r = false) (h3 : decide (ee.n = c.n ∧ ee.r = c.r) = true) (v : Bool) (h4 : lessL ee.ds (SH.sum (nums c.s)) = v) : Calls Tryz.prog 20 #[.agg #[.int .i64 c.n, .int .i64 c.r, .string c.s], .agg m.cs.toArray, .agg (bvals z), .int .i64 no] w fun e w' => e = .returned (.bool v) ∧ Below w.heap.size w w' := by
 have HLA := Lib.hid (fun (X : World) (hX : Below w.heap.size w X) => hlaid.below hX (Nat.le_refl _))
 have LM := Lib.hid (MnA.len h)
 have HZ := Lib.hid hz16
 have HZL := Lib.hid hz16.1
 have HS8 := Lib.hid hs
 have HBD := Lib.hid hbd
 have HDN := Lib.hid hdn
 have HDR := Lib.hid hdr
 have HEE := Lib.hid hee
 have Fm := Lib.hid h
 generalize hsm : (lineA m.ls z).isSome = sm
 have HSM := Lib.hid hsm
 clear hlaid h hz16 hs hbd hdn hdr hee hsm
 have hz := zeroEn
 rw [show KEn.v enA0 = .agg (KEn.cs enA0).toArray from rfl] at hz
 have hzl := zeroLn
 rw [show KLn.v lnA0 = .agg (KLn.cs lnA0).toArray from rfl] at hzl
 have hzne : ¬ (KEn.cs enA0).toArray = #[] := by decide
 have hzne2 : ¬ (KLn.cs lnA0).toArray = #[] := by decide
 have H1 := Lib.hid h1
 clear h1
 have HI := Lib.hid hi
 clear hi
 have H2 := Lib.hid h2
 clear h2
 have H3 := Lib.hid h3
 clear h3
 have H4 := Lib.hid h4
 clear h4
 have B1 := Lib.hid (Below.refl w.heap.size w)
 have T2n := RowAt.new w #[.int .i64 c.n, .int .i64 c.r, .string c.s] 38
 have T2 := Lib.hid T2n
 clear T2n
 have B3 := Lib.hid (B1.out.alloc B1.out.size (.cells #[.int .i64 c.n, .int .i64 c.r, .string c.s] 38))
 have T4 := Lib.hid (T2.out.old (.cells m.cs.toArray 29))
 have T5n := RowAt.new (w.alloc (.cells #[.int .i64 c.n, .int .i64 c.r, .string c.s] 38)) m.cs.toArray 29
 simp only [World.size_alloc] at T5n
 have T5 := Lib.hid T5n
 clear T5n
 have B6 := Lib.hid (B3.out.alloc B3.out.size (.cells m.cs.toArray 29))
 have T7 := Lib.hid (T4.out.old (.cells (bvals z) 31))
 have T8 := Lib.hid (T5.out.old (.cells (bvals z) 31))
 have T9n := RowAt.new ((w.alloc (.cells #[.int .i64 c.n, .int .i64 c.r, .string c.s] 38)).alloc (.cells m.cs.toArray 29)) (bvals z) 31
 simp only [World.size_alloc] at T9n
 have T9 := Lib.hid T9n
 clear T9n
 have B10 := Lib.hid (B6.out.alloc B6.out.size (.cells (bvals z) 31))
 have F11 := Lib.hid (Fm.out.below B10.out (Nat.le_refl _))
 go_enter Tryz.func20, Tryz.ntmps20
 have M15 := Lib.hid (T8.out.mn LM.out)
 have M16 := Lib.hid (T9.out.id HZL.out)
 have C17 := Lib.hid ((show Calls Tryz.prog 29 #[.agg m.cs.toArray, .agg (bvals z)] (((w.alloc (.cells #[.int .i64 c.n, .int .i64 c.r, .string c.s] 38)).alloc (.cells m.cs.toArray 29)).alloc (.cells (bvals z) 31)) (LineN (((w.alloc (.cells #[.int .i64 c.n, .int .i64 c.r, .string c.s] 38)).alloc (.cells m.cs.toArray 29)).alloc (.cells (bvals z) 31)) (lineA m.ls z)) from pline12_any m z (((w.alloc (.cells #[.int .i64 c.n, .int .i64 c.r, .string c.s] 38)).alloc (.cells m.cs.toArray 29)).alloc (.cells (bvals z) 31)) F11.out HZ.out HBD.out))
 unfold LineN at C17
 rw [HSM.out] at C17
 go_wp2_with (first | ((with_reducible refine wpList_load_at (o := ⟨some 14, .load 29 (.tmp 5), _, _, _, _⟩) ?e1 29 (.tmp 5) ?e2 ⟨(w.heap.size + 1), 0, none⟩ ?e3 _ M15.out ?_); (case e1 => rfl); (case e2 => rfl); (case e3 => rfl)) | ((with_reducible refine wpList_load_at (o := ⟨some 15, .load 31 (.tmp 6), _, _, _, _⟩) ?e1 31 (.tmp 6) ?e2 ⟨(w.heap.size + 1 + 1), 0, none⟩ ?e3 _ M16.out ?_); (case e1 => rfl); (case e2 => rfl); (case e3 => rfl)))
 refine C17.out.mono ?_
 rintro e w18 ⟨d12, rfl, hd13, hk14, hb19⟩
 have T20 := Lib.hid (T7.out.below hb19 T7.out.lt)
 have T21 := Lib.hid (T8.out.below hb19 T8.out.lt)
 have T22 := Lib.hid (T9.out.below hb19 T9.out.lt)
 have F23 := Lib.hid (F11.out.below hb19 (Nat.le_refl _))
 have B24 := Lib.hid (B10.out.trans (hb19.mono B10.out.size))
 clear hb19
 have E25 := Lib.hid (hd13)
 have F26 := Lib.hid (hk14)
 clear hd13 hk14
 have SZ26 := Lib.hid (ln_size F26.out)
 have SQ26 := Lib.hid (show (KLn.cs lnA0).toArray.size = (KLn.cs d12).toArray.size by rw [lnA0_size, List.size_toArray]; exact (LnA.len F26.out).symm)
 have SO26 := Lib.hid (ln_ones d12)
 have L28 := Lib.hid (LnA.len F26.out)
 have hb29 := (Below.refl w18.heap.size w18).alloc (Nat.le_refl _) (.cells (KLn.cs d12).toArray 63)
 have T30 := Lib.hid (RowAt.new w18 (KLn.cs d12).toArray 63)
 have T31 := Lib.hid (T20.out.below hb29 T20.out.lt)
 have T32 := Lib.hid (T21.out.below hb29 T21.out.lt)
 have T33 := Lib.hid (T22.out.below hb29 T22.out.lt)
 have F34 := Lib.hid (F23.out.below hb29 (Nat.le_refl _))
 have F35 := Lib.hid (F26.out.below hb29 (Nat.le_refl _))
 have B36 := Lib.hid (B24.out.trans (hb29.mono B24.out.size))
 clear hb29
 have GN := Lib.hid (show d12.n = dn from (congrArg Ln.n E25.out).trans HDN.out)
 have GR := Lib.hid (show d12.r = dr from (congrArg Ln.r E25.out).trans HDR.out)
 have ca16 := ln_c16 (Kind.at_blk (K := KLn) (x := d12) T30.out) F35.out.1
 rw [Nat.zero_add, GN.out] at ca16
 have ca17 := ln_c17 (Kind.at_blk (K := KLn) (x := d12) T30.out) F35.out.1
 rw [Nat.zero_add, GR.out] at ca17
 have cb0 := ClAt.c0 (show ClAt (w18.alloc (.cells (KLn.cs d12).toArray 63)) w.heap.size c from T31.out)
 have cb1 := ClAt.c1 (show ClAt (w18.alloc (.cells (KLn.cs d12).toArray 63)) w.heap.size c from T31.out)
 have C37 := Lib.hid (stLess_any dn dr c.n c.r (w18.alloc (.cells (KLn.cs d12).toArray 63)))
 unfold st at C37
 rw [H1.out] at C37
 go_wp2_with (first | ((with_reducible refine wpList_store_new (o := ⟨none, .store 63 (.tmp 9) (.tmp 17), _, _, _, _⟩) ?e1 63 (.tmp 9) (.tmp 17) ?e2 ?e3 (KLn.cs lnA0).toArray (KLn.cs d12).toArray ?e4 SZ26.out SQ26.out SO26.out ?_); (case e1 => rfl); (case e2 => rfl); (case e3 => (first | rfl | exact congrArg (fun q => Value.pointer (some ⟨q, 0, none⟩)) (World.size_alloc _ _).symm)); (case e4 => rfl)))
 refine C37.out.mono ?_
 rintro e w38 ⟨rfl, hb39⟩
 have T40 := Lib.hid (T31.out.below hb39 T31.out.lt)
 have T41 := Lib.hid (T32.out.below hb39 T32.out.lt)
 have T42 := Lib.hid (T33.out.below hb39 T33.out.lt)
 have T43 := Lib.hid (T30.out.below hb39 T30.out.lt)
 have F44 := Lib.hid (F34.out.below hb39 (Nat.le_refl _))
 have F45 := Lib.hid (F35.out.below hb39 (Nat.le_refl _))
 have B46 := Lib.hid (B36.out.trans (hb39.mono B36.out.size))
 clear hb39
 clear ca16 ca17 cb0 cb1
 have M50 := Lib.hid (T41.out.mn LM.out)
 have M51 := Lib.hid (T42.out.id HZL.out)
 have C52 := Lib.hid ((show Calls Tryz.prog 30 #[.agg m.cs.toArray, .agg (bvals z), .int .i64 no] w38 (FindN w38 (findA m.ls z no)) from pfind12_any m z no w38 F44.out HZ.out HBD.out))
 unfold FindN at C52
 rw [HI.out] at C52
 go_wp2_with (first | ((with_reducible refine wpList_load_at (o := ⟨some 26, .load 29 (.tmp 5), _, _, _, _⟩) ?e1 29 (.tmp 5) ?e2 ⟨(w.heap.size + 1), 0, none⟩ ?e3 _ M50.out ?_); (case e1 => rfl); (case e2 => rfl); (case e3 => rfl)) | ((with_reducible refine wpList_load_at (o := ⟨some 27, .load 31 (.tmp 6), _, _, _, _⟩) ?e1 31 (.tmp 6) ?e2 ⟨(w.heap.size + 1 + 1), 0, none⟩ ?e3 _ M51.out ?_); (case e1 => rfl); (case e2 => rfl); (case e3 => rfl)))
 refine C52.out.mono ?_
 rintro e w53 ⟨d47, rfl, hd48, hk49, hb54⟩
 have T55 := Lib.hid (T40.out.below hb54 T40.out.lt)
 have T56 := Lib.hid (T41.out.below hb54 T41.out.lt)
 have T57 := Lib.hid (T42.out.below hb54 T42.out.lt)
 have T58 := Lib.hid (T43.out.below hb54 T43.out.lt)
 have F59 := Lib.hid (F44.out.below hb54 (Nat.le_refl _))
 have F60 := Lib.hid (F45.out.below hb54 (Nat.le_refl _))
 have B61 := Lib.hid (B46.out.trans (hb54.mono B46.out.size))
 clear hb54
 have E62 := Lib.hid (hd48)
 have F63 := Lib.hid (hk49)
 clear hd48 hk49
 have SZ63 := Lib.hid (en_size F63.out)
 have SQ63 := Lib.hid (show (KEn.cs enA0).toArray.size = (KEn.cs d47).toArray.size by rw [enA0_size, List.size_toArray]; exact (EnA.len F63.out).symm)
 have SO63 := Lib.hid (en_ones d47)
 have L65 := Lib.hid (EnA.len F63.out)
 have hb66 := (Below.refl w53.heap.size w53).alloc (Nat.le_refl _) (.cells (KEn.cs d47).toArray 68)
 have T67 := Lib.hid (RowAt.new w53 (KEn.cs d47).toArray 68)
 have T68 := Lib.hid (T55.out.below hb66 T55.out.lt)
 have T69 := Lib.hid (T56.out.below hb66 T56.out.lt)
 have T70 := Lib.hid (T57.out.below hb66 T57.out.lt)
 have T71 := Lib.hid (T58.out.below hb66 T58.out.lt)
 have F72 := Lib.hid (F59.out.below hb66 (Nat.le_refl _))
 have F73 := Lib.hid (F60.out.below hb66 (Nat.le_refl _))
 have F74 := Lib.hid (F63.out.below hb66 (Nat.le_refl _))
 have B75 := Lib.hid (B61.out.trans (hb66.mono B61.out.size))
 clear hb66
 have T4' := Lib.hid T68.out
 have T5' := Lib.hid T69.out
 have T11' := Lib.hid T67.out
 have HB1 := Lib.hid B75.out
 have OU := Lib.hid F74.out
 have EE := Lib.hid (E62.out.trans HEE.out)
 have EC1 := Lib.hid (fun (X : World) (hX : Below ((w53.alloc (.cells (KEn.cs d47).toArray 68))).heap.size (w53.alloc (.cells (KEn.cs d47).toArray 68)) X) => (show X.cell? ⟨w53.heap.size, 1, none⟩ = some (.int .i64 ee.n) from by have h := en_c1 (Kind.at_blk (K := KEn) (x := d47) (T11'.out.below hX T11'.out.lt)); (try simp only [Nat.zero_add] at h); rw [EE.out] at h; exact h))
 have EC2 := Lib.hid (fun (X : World) (hX : Below ((w53.alloc (.cells (KEn.cs d47).toArray 68))).heap.size (w53.alloc (.cells (KEn.cs d47).toArray 68)) X) => (show X.cell? ⟨w53.heap.size, 2, none⟩ = some (.int .i64 ee.r) from by have h := en_c2 (Kind.at_blk (K := KEn) (x := d47) (T11'.out.below hX T11'.out.lt)); (try simp only [Nat.zero_add] at h); rw [EE.out] at h; exact h))
 have LED := Lib.hid (fun (X : World) (hX : Below ((w53.alloc (.cells (KEn.cs d47).toArray 68))).heap.size (w53.alloc (.cells (KEn.cs d47).toArray 68)) X) => (show (loadVar 26 ⟨w53.heap.size, 4, none⟩).run Tryz.prog X = .ok (.agg (bvals ee.ds)) X from by have h := load_dig (en_dig (Kind.at_blk (K := KEn) (x := d47) (T11'.out.below hX T11'.out.lt)) OU.out.2.2.2.2.1) OU.out.2.2.2.2.1; rw [EE.out] at h; exact h))
 have HD32 := Lib.hid (show ee.ds.length = 32 from by rw [← EE.out]; exact OU.out.2.2.2.2.1)
 have HDB := Lib.hid (show AllBytes ee.ds from by rw [← EE.out]; exact OU.out.2.2.2.2.2.1)
 have CC0 := Lib.hid (fun (X : World) (hX : Below ((w53.alloc (.cells (KEn.cs d47).toArray 68))).heap.size (w53.alloc (.cells (KEn.cs d47).toArray 68)) X) => ClAt.c0 (show ClAt X w.heap.size c from T4'.out.below hX T4'.out.lt))
 have CC1 := Lib.hid (fun (X : World) (hX : Below ((w53.alloc (.cells (KEn.cs d47).toArray 68))).heap.size (w53.alloc (.cells (KEn.cs d47).toArray 68)) X) => ClAt.c1 (show ClAt X w.heap.size c from T4'.out.below hX T4'.out.lt))
 have CC2 := Lib.hid (fun (X : World) (hX : Below ((w53.alloc (.cells (KEn.cs d47).toArray 68))).heap.size (w53.alloc (.cells (KEn.cs d47).toArray 68)) X) => ClAt.c2 (show ClAt X w.heap.size c from T4'.out.below hX T4'.out.lt))
 have CLS := Lib.hid (fun X => stLess_any ee.n ee.r c.n c.r X)
 unfold st at CLS
 rw [H2.out] at CLS
 have QE := Lib.hid (fun X : World => (show (Op.equalIn 10000 33 (.agg #[.int .i64 ee.n, .int .i64 ee.r]) (.agg #[.int .i64 c.n, .int .i64 c.r])).run Tryz.prog X = .ok true X from by have h := eq_st (n := ee.n) (r := ee.r) (m := c.n) (s := c.r) X; rw [H3.out] at h; exact h))
 have CSO := Lib.hid (fun (X : World) (hX : Below ((w53.alloc (.cells (KEn.cs d47).toArray 68))).heap.size (w53.alloc (.cells (KEn.cs d47).toArray 68)) X) => (show Calls Tryz.prog 49 #[.string c.s] X fun e w' => e = .returned (.agg (bvals (SH.sum (nums c.s)))) ∧ Below X.heap.size X w' from of_any c.s X (HLA.out _ (HB1.out.trans (hX.mono HB1.out.size))) (by have := HS8.out; omega)))
 have CLE := Lib.hid (fun X => less_any ee.ds (SH.sum (nums c.s)) X HDB.out (SH.sum_bytes _) HD32.out (SH.sum_len _))
 rw [H4.out] at CLE
 go_wp2_with (((with_reducible refine wpList_store_new (o := ⟨none, .store 68 (.tmp 11) (.tmp 30), _, _, _, _⟩) ?e1 68 (.tmp 11) (.tmp 30) ?e2 ?e3 (KEn.cs enA0).toArray (KEn.cs d47).toArray ?e4 SZ63.out SQ63.out SO63.out ?_); (case e1 => rfl); (case e2 => rfl); (case e3 => (first | rfl | exact congrArg (fun q => Value.pointer (some ⟨q, 0, none⟩)) (World.size_alloc _ _).symm)); (case e4 => rfl)))
 generalize ((w53.alloc (.cells (KEn.cs d47).toArray 68))) = w1 at *
 refine wp_region_G _ (by kernel_rfl) ?_
 refine wpGv (i := 0) (oi := ⟨some 32, _, _, _, _, _⟩) (v := ?_) rfl ?_ ?_; rotate_left; (focus (intro w9 hSw; go_simp; try with_reducible rfl)); simp only [Act.put, Z2, Z3, Z4]
 refine wpGv (i := 1) (oi := ⟨some 33, _, _, _, _, _⟩) (v := ?_) rfl ?_ ?_; rotate_left; (focus (intro w9 hSw; go_simp; try with_reducible rfl)); simp only [Act.put, Z2, Z3, Z4]
 refine wpGv (i := 2) (oi := ⟨some 34, _, _, _, _, _⟩) (v := ?_) rfl ?_ ?_; rotate_left; (focus (intro w9 hSw; go_simp; try with_reducible rfl)); simp only [Act.put, Z2, Z3, Z4]
 refine wpGv (i := 3) (oi := ⟨some 35, _, _, _, _, _⟩) (v := ?_) rfl ?_ ?_; rotate_left; (focus (intro w9 hSw; go_simp; try with_reducible rfl)); simp only [Act.put, Z2, Z3, Z4]
 refine wpGv (i := 4) (oi := ⟨some 36, _, _, _, _, _⟩) (v := ?_) rfl ?_ ?_; rotate_left; (focus (intro w9 hSw; have q0 := EC1.out w9 hSw; have q1 := EC2.out w9 hSw; go_simp; try with_reducible rfl)); simp only [Act.put, Z2, Z3, Z4]
 refine wpGv (i := 5) (oi := ⟨some 37, _, _, _, _, _⟩) (v := ?_) rfl ?_ ?_; rotate_left; (focus (intro w9 hSw; go_simp; try with_reducible rfl)); simp only [Act.put, Z2, Z3, Z4]
 refine wpGv (i := 6) (oi := ⟨some 38, _, _, _, _, _⟩) (v := ?_) rfl ?_ ?_; rotate_left; (focus (intro w9 hSw; have q0 := CC0.out w9 hSw; have q1 := CC1.out w9 hSw; go_simp; try with_reducible rfl)); simp only [Act.put, Z2, Z3, Z4]
 refine wpG_take (i := 7) (oi := ⟨some 39, _, _, _, _, _⟩) rfl (by kernel_rfl) (by kernel_rfl) (by kernel_rfl) (Or.inl ⟨by rfl, unib_call ?_ CLS.out⟩) ?_; (focus (intro w9 hSw; go_simp; try with_reducible rfl)); simp only [Act.put, Z2, Z3, Z4]
 refine wpGv (i := 8) (oi := ⟨some 40, _, _, _, _, _⟩) (v := ?_) rfl ?_ ?_; rotate_left; (focus (intro w9 hSw; go_simp; try with_reducible rfl)); simp only [Act.put, Z2, Z3, Z4]
 refine wpGv (i := 9) (oi := ⟨some 41, _, _, _, _, _⟩) (v := ?_) rfl ?_ ?_; rotate_left; (focus (intro w9 hSw; go_simp; try with_reducible rfl)); simp only [Act.put, Z2, Z3, Z4]
 refine wpGv (i := 10) (oi := ⟨some 42, _, _, _, _, _⟩) (v := ?_) rfl ?_ ?_; rotate_left; (focus (intro w9 hSw; go_simp; try with_reducible rfl)); simp only [Act.put, Z2, Z3, Z4]
 refine wpGv (i := 11) (oi := ⟨some 43, _, _, _, _, _⟩) (v := ?_) rfl ?_ ?_; rotate_left; (focus (intro w9 hSw; have q0 := EC1.out w9 hSw; have q1 := EC2.out w9 hSw; go_simp; try with_reducible rfl)); simp only [Act.put, Z2, Z3, Z4]
 refine wpGv (i := 12) (oi := ⟨some 44, _, _, _, _, _⟩) (v := ?_) rfl ?_ ?_; rotate_left; (focus (intro w9 hSw; go_simp; try with_reducible rfl)); simp only [Act.put, Z2, Z3, Z4]
 refine wpGv (i := 13) (oi := ⟨some 45, _, _, _, _, _⟩) (v := ?_) rfl ?_ ?_; rotate_left; (focus (intro w9 hSw; have q0 := CC0.out w9 hSw; have q1 := CC1.out w9 hSw; go_simp; try with_reducible rfl)); simp only [Act.put, Z2, Z3, Z4]
 refine wpGv (i := 14) (oi := ⟨some 46, _, _, _, _, _⟩) (v := (.bool true)) rfl ?_ ?_; (focus (intro w9 hSw; have q0 := QE.out w9; exact exec_eql_at 33 _ _ _ rfl rfl rfl guardStM q0)); simp only [Act.put, Z2, Z3, Z4]
 refine wpGv (i := 15) (oi := ⟨some 47, _, _, _, _, _⟩) (v := ?_) rfl ?_ ?_; rotate_left; (focus (intro w9 hSw; go_simp; try with_reducible rfl)); simp only [Act.put, Z2, Z3, Z4]
 refine wpGv (i := 16) (oi := ⟨some 48, _, _, _, _, _⟩) (v := ?_) rfl ?_ ?_; rotate_left; (focus (intro w9 hSw; go_simp; try with_reducible rfl)); simp only [Act.put, Z2, Z3, Z4]
 refine wpGv (i := 17) (oi := ⟨some 49, _, _, _, _, _⟩) (v := (.agg (bvals ee.ds))) rfl ?_ ?_; (focus (intro w9 hSw; exact exec_load_at 26 _ rfl _ rfl (LED.out w9 hSw))); simp only [Act.put, Z2, Z3, Z4]
 refine wpGv (i := 18) (oi := ⟨some 50, _, _, _, _, _⟩) (v := ?_) rfl ?_ ?_; rotate_left; (focus (intro w9 hSw; go_simp; try with_reducible rfl)); simp only [Act.put, Z2, Z3, Z4]
 refine wpGv (i := 19) (oi := ⟨some 51, _, _, _, _, _⟩) (v := ?_) rfl ?_ ?_; rotate_left; (focus (intro w9 hSw; have q0 := CC2.out w9 hSw; go_simp; try with_reducible rfl)); simp only [Act.put, Z2, Z3, Z4]
 refine wpG_take (i := 20) (oi := ⟨some 52, _, _, _, _, _⟩) rfl (by kernel_rfl) (by kernel_rfl) (by kernel_rfl) (Or.inl ⟨by rfl, unib_call_if ?_ CSO.out⟩) ?_; (focus (intro w9 hSw; go_simp; try with_reducible rfl)); simp only [Act.put, Z2, Z3, Z4]
 refine wpG_take (i := 21) (oi := ⟨some 53, _, _, _, _, _⟩) rfl (by kernel_rfl) (by kernel_rfl) (by kernel_rfl) (Or.inl ⟨by rfl, unib_call ?_ CLE.out⟩) ?_; (focus (intro w9 hSw; go_simp; try with_reducible rfl)); simp only [Act.put, Z2, Z3, Z4]
 refine wpGv (i := 22) (oi := ⟨some 54, _, _, _, _, _⟩) (v := ?_) rfl ?_ ?_; rotate_left; (focus (intro w9 hSw; go_simp; try with_reducible rfl)); simp only [Act.put, Z2, Z3, Z4]
 refine wpGv (i := 23) (oi := ⟨some 55, _, _, _, _, _⟩) (v := ?_) rfl ?_ ?_; rotate_left; (focus (intro w9 hSw; go_simp; try with_reducible rfl)); simp only [Act.put, Z2, Z3, Z4]
 refine wpGv (i := 24) (oi := ⟨some 8, _, _, _, _, _⟩) (v := ?_) rfl ?_ ?_; rotate_left; (focus (intro w9 hSw; go_simp; try with_reducible rfl)); simp only [Act.put, Z2, Z3, Z4]
 refine wpG_done (by kernel_rfl) ?_ _
 intro w9 hSw _
 have B9 := Lib.hid (HB1.out.trans (hSw.mono HB1.out.size))
 clear hSw
 go_wp2
 go_ret
 exact ⟨rfl, B9.out⟩
theorem pexc14_any (c : Cel) (m : MnA) (z : List Int) (no : Int) (w : World) (hlaid : Laid w) (h : m.Ok w) (hz16 : z.length = 16 ∧ AllBytes z) (hs : c.s.size ≤ 100000000) (hbd : ∀ x ∈ m.ls, x.es.length ≤ 1000000 ∧ ∀ e ∈ x.es, e.e.bs.length ≤ 1000000) : Calls Tryz.prog 20 #[c.v, m.v, .agg (bvals z), .int .i64 no] w fun e w' => e = .returned (.bool (exc c m.m z no)) ∧ Below w.heap.size w w' := by
 rw [exc_A]
 cases h1 : stLess ((lineA m.ls z).getD lnA0).n ((lineA m.ls z).getD lnA0).r c.n c.r with
 | false => exact pexcA c m z no w hlaid h hz16 hs hbd _ _ rfl rfl _ rfl h1
 | true =>
  rw [Bool.true_and]
  cases hi : (findA m.ls z no).isSome with
  | false => exact pexcB c m z no w hlaid h hz16 hs hbd _ _ rfl rfl _ rfl h1 hi
  | true =>
   rw [if_pos rfl]
   cases h2 : stLess ((findA m.ls z no).getD enA0).e.n ((findA m.ls z no).getD enA0).e.r c.n c.r with
   | true =>
    rw [if_neg (fun h3 => by rw [h3.1, h3.2] at h2; have := stLess_iff.1 h2; omega)]
    exact pexcC c m z no w hlaid h hz16 hs hbd _ _ rfl rfl _ rfl h1 hi h2
   | false =>
    by_cases h3 : ((findA m.ls z no).getD enA0).e.n = c.n ∧ ((findA m.ls z no).getD enA0).e.r = c.r
    ·rw [if_pos h3]; exact pexcE c m z no w hlaid h hz16 hs hbd _ _ rfl rfl _ rfl h1 hi h2 (decide_eq_true h3) _ rfl
    ·rw [if_neg h3]; exact pexcD c m z no w hlaid h hz16 hs hbd _ _ rfl rfl _ rfl h1 hi h2 (decide_eq_false h3)
end
end Go.Proofs.YtnlhkpmgbpfjmaaGreatDoor
