import Derived.Test.YtkjimhlpbgeagaaDoorC0
import Derived.Test.YtkjimhlpbgeagaaDoorC27
/-
  What the functions that a law of this layer reaches answer, part 30. Nothing that was there is written.
-/
namespace Go.Proofs.YtkjimhlpbgeagaaDoor
set_option linter.unusedVariables false
set_option linter.unusedSimpArgs false
section
open Go.RowKit Go.Shelf WM
set_option maxRecDepth 100000
theorem build_dgM (w : World) : (Instr.build 23 #[]).run Tryd.prog w = .ok (.agg (bvals z32m)) w := run_build w _ _ _ (by kernel_rfl)
theorem eq_dgM (w : World) : (Op.equalIn 10000 23 (.agg (bvals z32m)) (.agg (bvals z32m))).run Tryd.prog w = .ok true w := by
 rw [eq_dig (by unfold AllBytes z32m; decide) (by unfold AllBytes z32m; decide) (by rw [z32m, List.length_replicate]) (by rw [z32m, List.length_replicate]) w]
 simp
theorem load_digM {w : World} {b : Nat} {z : List Int} (h : KDig.at w b 0 z) (hz : z.length = 32) : (loadVar 23 ⟨b, 0, none⟩).run Tryd.prog w = .ok (.agg (bvals z)) w := load_dig h hz
set_option maxHeartbeats 16000000 in
theorem mcb_few (m : MnA) (A : Option Addr) (len cap : Nat) (zs : List Int) (w : World) (hlaid : Laid w) (wm : m.Ok w) (hby : BsAt w A len cap zs) (hab : AllBytes zs) (hlc : len ≤ cap) (hcm : cap ≤ maxLen) (p : mfew m.m = false) :
  Calls Tryd.prog 3 #[.agg m.cs.toArray, .slice A len cap] w fun e w' => e = .returned (.bool true) ∧ Below w.heap.size w w' := by
 have HLA := Lib.hid (fun (X : World) (hX : Below w.heap.size w X) => hlaid.below hX (Nat.le_refl _))
 have Fm := Lib.hid wm
 have LM := Lib.hid (MnA.len wm)
 have GM := Lib.hid (mn_good wm)
 have HBY := Lib.hid hby
 have HAB := Lib.hid hab
 have HZL := Lib.hid hby.2.1
 have HCC := Lib.hid (And.intro hlc hcm)
 have hlen9 : len ≤ 9223372036854775807 := by simp only [maxLen] at hcm; omega
 have hzm := zeroMn
 rw [show mnA0.v = .agg mnA0.cs.toArray from rfl] at hzm
 have hzne1 : ¬ mnA0.cs.toArray = #[] := by decide
 have PM := Lib.hid p
 clear hlaid wm hby hab hlc hcm p
 have B1 := Lib.hid (Below.refl w.heap.size w)
 have T2n := RowAt.new w m.cs.toArray 26
 have T2 := Lib.hid T2n
 clear T2n
 have B3 := Lib.hid (B1.out.alloc B1.out.size (.cells m.cs.toArray 26))
 have F4 := Lib.hid (Fm.out.below B3.out (Nat.le_refl _))
 have F5 := Lib.hid (HBY.out.below B3.out (Nat.le_refl _))
 go_enter Tryd.func3, Tryd.ntmps3
 have C6 := Lib.hid (mcAwake (w.alloc (.cells m.cs.toArray 26)) (HLA.out _ B3.out))
 go_wp2_with fail
 refine C6.out.mono ?_
 rintro e w7 ⟨rfl, hb8⟩
 have T9 := Lib.hid (T2.out.below hb8 T2.out.lt)
 have F10 := Lib.hid (F4.out.below hb8 (Nat.le_refl _))
 have F11 := Lib.hid (F5.out.below hb8 (Nat.le_refl _))
 have B12 := Lib.hid (B3.out.trans (hb8.mono B3.out.size))
 clear hb8
 have M13 := Lib.hid (T9.out.mn LM.out)
 have C14 := Lib.hid (rfew12_any m w7 F10.out)
 rw [PM.out] at C14
 go_wp2_with (first | ((with_reducible refine wpList_load_at (o := ⟨some 16, .load 26 (.tmp 2), _, _, _, _⟩) ?e1 26 (.tmp 2) ?e2 ⟨w.heap.size, 0, none⟩ ?e3 _ M13.out ?_); (case e1 => rfl); (case e2 => rfl); (case e3 => rfl)))
 refine C14.out.mono ?_
 rintro e w15 ⟨rfl, hb16⟩
 have T17 := Lib.hid (T9.out.below hb16 T9.out.lt)
 have F18 := Lib.hid (F10.out.below hb16 (Nat.le_refl _))
 have F19 := Lib.hid (F11.out.below hb16 (Nat.le_refl _))
 have B20 := Lib.hid (B12.out.trans (hb16.mono B12.out.size))
 clear hb16
 go_wp2
 go_ret
 exact ⟨rfl, B20.out⟩
set_option maxHeartbeats 16000000 in
theorem mcb_long (m : MnA) (A : Option Addr) (len cap : Nat) (zs : List Int) (w : World) (hlaid : Laid w) (wm : m.Ok w) (hby : BsAt w A len cap zs) (hab : AllBytes zs) (hlc : len ≤ cap) (hcm : cap ≤ maxLen) (p : mfew m.m = true) (hl : 5000 < len) :
  Calls Tryd.prog 3 #[.agg m.cs.toArray, .slice A len cap] w fun e w' => e = .returned (.bool true) ∧ Below w.heap.size w w' := by
 have HLA := Lib.hid (fun (X : World) (hX : Below w.heap.size w X) => hlaid.below hX (Nat.le_refl _))
 have Fm := Lib.hid wm
 have LM := Lib.hid (MnA.len wm)
 have GM := Lib.hid (mn_good wm)
 have HBY := Lib.hid hby
 have HAB := Lib.hid hab
 have HZL := Lib.hid hby.2.1
 have HCC := Lib.hid (And.intro hlc hcm)
 have hlen9 : len ≤ 9223372036854775807 := by simp only [maxLen] at hcm; omega
 have hzm := zeroMn
 rw [show mnA0.v = .agg mnA0.cs.toArray from rfl] at hzm
 have hzne1 : ¬ mnA0.cs.toArray = #[] := by decide
 have PM := Lib.hid p
 have t1 : (5000 : Int) < (len : Int) := by omega
 clear hlaid wm hby hab hlc hcm p
 have B1 := Lib.hid (Below.refl w.heap.size w)
 have T2n := RowAt.new w m.cs.toArray 26
 have T2 := Lib.hid T2n
 clear T2n
 have B3 := Lib.hid (B1.out.alloc B1.out.size (.cells m.cs.toArray 26))
 have F4 := Lib.hid (Fm.out.below B3.out (Nat.le_refl _))
 have F5 := Lib.hid (HBY.out.below B3.out (Nat.le_refl _))
 go_enter Tryd.func3, Tryd.ntmps3
 have C6 := Lib.hid (mcAwake (w.alloc (.cells m.cs.toArray 26)) (HLA.out _ B3.out))
 go_wp2_with fail
 refine C6.out.mono ?_
 rintro e w7 ⟨rfl, hb8⟩
 have T9 := Lib.hid (T2.out.below hb8 T2.out.lt)
 have F10 := Lib.hid (F4.out.below hb8 (Nat.le_refl _))
 have F11 := Lib.hid (F5.out.below hb8 (Nat.le_refl _))
 have B12 := Lib.hid (B3.out.trans (hb8.mono B3.out.size))
 clear hb8
 have M13 := Lib.hid (T9.out.mn LM.out)
 have C14 := Lib.hid (rfew12_any m w7 F10.out)
 rw [PM.out] at C14
 go_wp2_with (first | ((with_reducible refine wpList_load_at (o := ⟨some 16, .load 26 (.tmp 2), _, _, _, _⟩) ?e1 26 (.tmp 2) ?e2 ⟨w.heap.size, 0, none⟩ ?e3 _ M13.out ?_); (case e1 => rfl); (case e2 => rfl); (case e3 => rfl)))
 refine C14.out.mono ?_
 rintro e w15 ⟨rfl, hb16⟩
 have T17 := Lib.hid (T9.out.below hb16 T9.out.lt)
 have F18 := Lib.hid (F10.out.below hb16 (Nat.le_refl _))
 have F19 := Lib.hid (F11.out.below hb16 (Nat.le_refl _))
 have B20 := Lib.hid (B12.out.trans (hb16.mono B12.out.size))
 clear hb16
 go_wp2
 go_ret
 exact ⟨rfl, B20.out⟩
set_option maxHeartbeats 16000000 in
theorem mcb_tt (m : MnA) (A : Option Addr) (len cap : Nat) (zs : List Int) (w : World) (hlaid : Laid w) (wm : m.Ok w) (hby : BsAt w A len cap zs) (hab : AllBytes zs) (hlc : len ≤ cap) (hcm : cap ≤ maxLen) (p : mfew m.m = true) (hl : len ≤ 5000) (a : mmay m.m = true) (g : (mget zs).2 = 0) :
  Calls Tryd.prog 3 #[.agg m.cs.toArray, .slice A len cap] w fun e w' => e = .returned (.bool true) ∧ Below w.heap.size w w' := by
 have HLA := Lib.hid (fun (X : World) (hX : Below w.heap.size w X) => hlaid.below hX (Nat.le_refl _))
 have Fm := Lib.hid wm
 have LM := Lib.hid (MnA.len wm)
 have GM := Lib.hid (mn_good wm)
 have HBY := Lib.hid hby
 have HAB := Lib.hid hab
 have HZL := Lib.hid hby.2.1
 have HCC := Lib.hid (And.intro hlc hcm)
 have hlen9 : len ≤ 9223372036854775807 := by simp only [maxLen] at hcm; omega
 have hzm := zeroMn
 rw [show mnA0.v = .agg mnA0.cs.toArray from rfl] at hzm
 have hzne1 : ¬ mnA0.cs.toArray = #[] := by decide
 have PM := Lib.hid p
 have t1 : ¬ (5000 : Int) < (len : Int) := by omega
 have MM := Lib.hid a
 have hw1 := mmay_wf a (mn_good wm)
 have HWF := Lib.hid hw1
 have HGE := Lib.hid (mget_put a hw1)
 have HZB := Lib.hid (pack_bytes (k := 1) (by decide) (by decide) (mnB_ok hw1).1)
 obtain ⟨Z, hZ⟩ : ∃ Z, packL 1 (mnB m.m) = Z := ⟨_, rfl⟩
 have HZ := Lib.hid hZ
 rw [hZ] at HGE HZB
 clear hw1 hZ
 have HG3 := Lib.hid (mget_some hab g)
 have HGM := Lib.hid HG3.out.1
 have HGP := Lib.hid HG3.out.2.2
 have HC0 := Lib.hid g
 clear HG3
 obtain ⟨G, hG⟩ : ∃ G, mget zs = G := ⟨_, rfl⟩
 rw [hG] at HGM HGP HC0 g
 have HGQ := Lib.hid hG
 obtain ⟨gm, gc⟩ := G
 dsimp only at HGM HGP HC0 g
 subst g
 clear hG
 clear hlaid wm hby hab hlc hcm p a
 have B1 := Lib.hid (Below.refl w.heap.size w)
 have T2n := RowAt.new w m.cs.toArray 26
 have T2 := Lib.hid T2n
 clear T2n
 have B3 := Lib.hid (B1.out.alloc B1.out.size (.cells m.cs.toArray 26))
 have F4 := Lib.hid (Fm.out.below B3.out (Nat.le_refl _))
 have F5 := Lib.hid (HBY.out.below B3.out (Nat.le_refl _))
 go_enter Tryd.func3, Tryd.ntmps3
 have C6 := Lib.hid (mcAwake (w.alloc (.cells m.cs.toArray 26)) (HLA.out _ B3.out))
 go_wp2_with fail
 refine C6.out.mono ?_
 rintro e w7 ⟨rfl, hb8⟩
 have T9 := Lib.hid (T2.out.below hb8 T2.out.lt)
 have F10 := Lib.hid (F4.out.below hb8 (Nat.le_refl _))
 have F11 := Lib.hid (F5.out.below hb8 (Nat.le_refl _))
 have B12 := Lib.hid (B3.out.trans (hb8.mono B3.out.size))
 clear hb8
 have M13 := Lib.hid (T9.out.mn LM.out)
 have C14 := Lib.hid (rfew12_any m w7 F10.out)
 rw [PM.out] at C14
 go_wp2_with (first | ((with_reducible refine wpList_load_at (o := ⟨some 16, .load 26 (.tmp 2), _, _, _, _⟩) ?e1 26 (.tmp 2) ?e2 ⟨w.heap.size, 0, none⟩ ?e3 _ M13.out ?_); (case e1 => rfl); (case e2 => rfl); (case e3 => rfl)))
 refine C14.out.mono ?_
 rintro e w15 ⟨rfl, hb16⟩
 have T17 := Lib.hid (T9.out.below hb16 T9.out.lt)
 have F18 := Lib.hid (F10.out.below hb16 (Nat.le_refl _))
 have F19 := Lib.hid (F11.out.below hb16 (Nat.le_refl _))
 have B20 := Lib.hid (B12.out.trans (hb16.mono B12.out.size))
 clear hb16
 have M25 := Lib.hid (T17.out.mn LM.out)
 have C26 := Lib.hid (put13_any m w15 F18.out GM.out)
 unfold MPutPost at C26
 simp only [MM.out, if_true] at C26
 unfold GivesT at C26
 rw [HZ.out] at C26
 go_wp2_with (first | ((with_reducible refine wpList_load_at (o := ⟨some 31, .load 26 (.tmp 2), _, _, _, _⟩) ?e1 26 (.tmp 2) ?e2 ⟨w.heap.size, 0, none⟩ ?e3 _ M25.out ?_); (case e1 => rfl); (case e2 => rfl); (case e3 => rfl)))
 refine C26.out.mono ?_
 rintro e w27 ⟨A1, n1, c1, rfl, hn21, h22, h23, ho24, hb28⟩
 have T29 := Lib.hid (T17.out.below hb28 T17.out.lt)
 have F30 := Lib.hid (F18.out.below hb28 (Nat.le_refl _))
 have F31 := Lib.hid (F19.out.below hb28 (Nat.le_refl _))
 have B32 := Lib.hid (B20.out.trans (hb28.mono B20.out.size))
 clear hb28
 have Y33 := Lib.hid (BsAt.own ho24)
 have N34 := Lib.hid (hn21)
 have N35 := Lib.hid (And.intro h22 h23)
 clear hn21 h22 h23 ho24
 have M36 := Lib.hid (T29.out.mn LM.out)
 have C37 := Lib.hid (show Calls Tryd.prog 9 #[.agg m.cs.toArray] w27 fun e w' => e = .returned (.bool (mmay m.m)) ∧ Below (w27).heap.size w27 w' from pmay12_any m w27 F30.out)
 rw [MM.out] at C37
 go_wp2_with (first | ((with_reducible refine wpList_load_at (o := ⟨some 36, .load 26 (.tmp 2), _, _, _, _⟩) ?e1 26 (.tmp 2) ?e2 ⟨w.heap.size, 0, none⟩ ?e3 _ M36.out ?_); (case e1 => rfl); (case e2 => rfl); (case e3 => rfl)))
 refine C37.out.mono ?_
 rintro e w38 ⟨rfl, hb39⟩
 have T40 := Lib.hid (T29.out.below hb39 T29.out.lt)
 have F41 := Lib.hid (F30.out.below hb39 (Nat.le_refl _))
 have F42 := Lib.hid (F31.out.below hb39 (Nat.le_refl _))
 have F43 := Lib.hid (Y33.out.below hb39 (Nat.le_refl _))
 have B44 := Lib.hid (B32.out.trans (hb39.mono B32.out.size))
 clear hb39
 have C48 := Lib.hid (get13_any A1 n1 c1 Z w38 F43.out.1 (Nat.le_refl _) N34.out HZB.out N35.out.1 N35.out.2)
 unfold MGetPost at C48
 rw [HGE.out] at C48
 try dsimp only at C48
 go_wp2_with fail
 refine C48.out.mono ?_
 rintro e w49 ⟨d45, rfl, hd46, hk47, hb50⟩
 have T51 := Lib.hid (T40.out.below hb50 T40.out.lt)
 have F52 := Lib.hid (F41.out.below hb50 (Nat.le_refl _))
 have F53 := Lib.hid (F42.out.below hb50 (Nat.le_refl _))
 have F54 := Lib.hid (F43.out.below hb50 (Nat.le_refl _))
 have B55 := Lib.hid (B44.out.trans (hb50.mono B44.out.size))
 clear hb50
 have E56 := Lib.hid (hd46)
 have F57 := Lib.hid (hk47)
 clear hd46 hk47
 have SZ57 := Lib.hid (mn_size F57.out)
 have SQ57 := Lib.hid (show mnA0.cs.toArray.size = d45.cs.toArray.size by rw [mnA0_size, List.size_toArray]; exact (MnA.len F57.out).symm)
 have SO57 := Lib.hid (mn_ones d45)
 have L59 := Lib.hid (MnA.len F57.out)
 have hb60 := (Below.refl w49.heap.size w49).alloc (Nat.le_refl _) (.cells d45.cs.toArray 26)
 have T61 := Lib.hid (RowAt.new w49 d45.cs.toArray 26)
 have T62 := Lib.hid (T51.out.below hb60 T51.out.lt)
 have F63 := Lib.hid (F52.out.below hb60 (Nat.le_refl _))
 have F64 := Lib.hid (F53.out.below hb60 (Nat.le_refl _))
 have F65 := Lib.hid (F54.out.below hb60 (Nat.le_refl _))
 have F66 := Lib.hid (F57.out.below hb60 (Nat.le_refl _))
 have B67 := Lib.hid (B55.out.trans (hb60.mono B55.out.size))
 clear hb60
 have HYM := Lib.hid E56.out
 have HEQ := Lib.hid (show decide (d45.m = m.m) = true from decide_eq_true HYM.out)
 have HBD := Lib.hid (wf_bound (m := d45) (by rw [HYM.out]; exact HWF.out))
 have M68 := Lib.hid (T61.out.mn L59.out)
 have M69 := Lib.hid (T62.out.mn LM.out)
 have C70 := Lib.hid (show Calls Tryd.prog 11 #[.agg d45.cs.toArray, .agg m.cs.toArray] (w49.alloc (.cells d45.cs.toArray 26)) fun e w' => e = .returned (.bool (decide (d45.m = m.m))) ∧ Below ((w49.alloc (.cells d45.cs.toArray 26))).heap.size (w49.alloc (.cells d45.cs.toArray 26)) w' from psame12_any d45 m (w49.alloc (.cells d45.cs.toArray 26)) F66.out F63.out HBD.out)
 rw [HEQ.out] at C70
 go_wp2_with (first | ((with_reducible refine wpList_load_at (o := ⟨some 48, .load 26 (.tmp 9), _, _, _, _⟩) ?e1 26 (.tmp 9) ?e2 ⟨w49.heap.size, 0, none⟩ ?e3 _ M68.out ?_); (case e1 => rfl); (case e2 => rfl); (case e3 => rfl)) | ((with_reducible refine wpList_load_at (o := ⟨some 49, .load 26 (.tmp 2), _, _, _, _⟩) ?e1 26 (.tmp 2) ?e2 ⟨w.heap.size, 0, none⟩ ?e3 _ M69.out ?_); (case e1 => rfl); (case e2 => rfl); (case e3 => rfl)) | ((with_reducible refine wpList_store_new (o := ⟨none, .store 26 (.tmp 9) (.tmp 43), _, _, _, _⟩) ?e1 26 (.tmp 9) (.tmp 43) ?e2 ?e3 mnA0.cs.toArray d45.cs.toArray ?e4 SZ57.out SQ57.out SO57.out ?_); (case e1 => rfl); (case e2 => rfl); (case e3 => (first | rfl | exact congrArg (fun q => Value.pointer (some ⟨q, 0, none⟩)) (World.size_alloc _ _).symm)); (case e4 => rfl)))
 refine C70.out.mono ?_
 rintro e w71 ⟨rfl, hb72⟩
 have T73 := Lib.hid (T62.out.below hb72 T62.out.lt)
 have T74 := Lib.hid (T61.out.below hb72 T61.out.lt)
 have F75 := Lib.hid (F63.out.below hb72 (Nat.le_refl _))
 have F76 := Lib.hid (F64.out.below hb72 (Nat.le_refl _))
 have F77 := Lib.hid (F65.out.below hb72 (Nat.le_refl _))
 have F78 := Lib.hid (F66.out.below hb72 (Nat.le_refl _))
 have B79 := Lib.hid (B67.out.trans (hb72.mono B67.out.size))
 clear hb72
 have C83 := Lib.hid (get13_any A len cap zs w71 F76.out.1 (Nat.le_refl _) HZL.out HAB.out HCC.out.1 HCC.out.2)
 unfold MGetPost at C83
 rw [HGQ.out] at C83
 try dsimp only at C83
 go_wp2_with fail
 refine C83.out.mono ?_
 rintro e w84 ⟨d80, rfl, hd81, hk82, hb85⟩
 have T86 := Lib.hid (T73.out.below hb85 T73.out.lt)
 have T87 := Lib.hid (T74.out.below hb85 T74.out.lt)
 have F88 := Lib.hid (F75.out.below hb85 (Nat.le_refl _))
 have F89 := Lib.hid (F76.out.below hb85 (Nat.le_refl _))
 have F90 := Lib.hid (F77.out.below hb85 (Nat.le_refl _))
 have F91 := Lib.hid (F78.out.below hb85 (Nat.le_refl _))
 have B92 := Lib.hid (B79.out.trans (hb85.mono B79.out.size))
 clear hb85
 have E93 := Lib.hid (hd81)
 have F94 := Lib.hid (hk82)
 clear hd81 hk82
 have SZ94 := Lib.hid (mn_size F94.out)
 have SQ94 := Lib.hid (show mnA0.cs.toArray.size = d80.cs.toArray.size by rw [mnA0_size, List.size_toArray]; exact (MnA.len F94.out).symm)
 have SO94 := Lib.hid (mn_ones d80)
 have L96 := Lib.hid (MnA.len F94.out)
 have hb97 := (Below.refl w84.heap.size w84).alloc (Nat.le_refl _) (.cells d80.cs.toArray 26)
 have T98 := Lib.hid (RowAt.new w84 d80.cs.toArray 26)
 have T99 := Lib.hid (T86.out.below hb97 T86.out.lt)
 have T100 := Lib.hid (T87.out.below hb97 T87.out.lt)
 have F101 := Lib.hid (F88.out.below hb97 (Nat.le_refl _))
 have F102 := Lib.hid (F89.out.below hb97 (Nat.le_refl _))
 have F103 := Lib.hid (F90.out.below hb97 (Nat.le_refl _))
 have F104 := Lib.hid (F91.out.below hb97 (Nat.le_refl _))
 have F105 := Lib.hid (F94.out.below hb97 (Nat.le_refl _))
 have B106 := Lib.hid (B92.out.trans (hb97.mono B92.out.size))
 clear hb97
 have XM := Lib.hid (show mmay d80.m = true by rw [E93.out]; exact HGM.out)
 have XG := Lib.hid (mn_good F105.out)
 have XZ := Lib.hid (show packL 1 (mnB d80.m) = zs by rw [E93.out]; exact HGP.out)
 have hc0 := HC0.out
 have M111 := Lib.hid (T98.out.mn L96.out)
 have C112 := Lib.hid (put13_any d80 (w84.alloc (.cells d80.cs.toArray 26)) F105.out XG.out)
 unfold MPutPost at C112
 simp only [XM.out, if_true] at C112
 unfold GivesT at C112
 rw [XZ.out] at C112
 go_wp2_with (first | ((with_reducible refine wpList_load_at (o := ⟨some 71, .load 26 (.tmp 11), _, _, _, _⟩) ?e1 26 (.tmp 11) ?e2 ⟨w84.heap.size, 0, none⟩ ?e3 _ M111.out ?_); (case e1 => rfl); (case e2 => rfl); (case e3 => rfl)) | ((with_reducible refine wpList_store_new (o := ⟨none, .store 26 (.tmp 11) (.tmp 56), _, _, _, _⟩) ?e1 26 (.tmp 11) (.tmp 56) ?e2 ?e3 mnA0.cs.toArray d80.cs.toArray ?e4 SZ94.out SQ94.out SO94.out ?_); (case e1 => rfl); (case e2 => rfl); (case e3 => (first | rfl | exact congrArg (fun q => Value.pointer (some ⟨q, 0, none⟩)) (World.size_alloc _ _).symm)); (case e4 => rfl)))
 refine C112.out.mono ?_
 rintro e w113 ⟨A2, n2, c2, rfl, hn107, h108, h109, ho110, hb114⟩
 have T115 := Lib.hid (T99.out.below hb114 T99.out.lt)
 have T116 := Lib.hid (T100.out.below hb114 T100.out.lt)
 have T117 := Lib.hid (T98.out.below hb114 T98.out.lt)
 have F118 := Lib.hid (F101.out.below hb114 (Nat.le_refl _))
 have F119 := Lib.hid (F102.out.below hb114 (Nat.le_refl _))
 have F120 := Lib.hid (F103.out.below hb114 (Nat.le_refl _))
 have F121 := Lib.hid (F104.out.below hb114 (Nat.le_refl _))
 have F122 := Lib.hid (F105.out.below hb114 (Nat.le_refl _))
 have B123 := Lib.hid (B106.out.trans (hb114.mono B106.out.size))
 clear hb114
 have Y124 := Lib.hid (BsAt.own ho110)
 have N125 := Lib.hid (hn107)
 have N126 := Lib.hid (And.intro h108 h109)
 clear hn107 h108 h109 ho110
 have M127 := Lib.hid (T117.out.mn L96.out)
 have C128 := Lib.hid (show Calls Tryd.prog 9 #[.agg d80.cs.toArray] w113 fun e w' => e = .returned (.bool (mmay d80.m)) ∧ Below (w113).heap.size w113 w' from pmay12_any d80 w113 F122.out)
 rw [XM.out] at C128
 go_wp2_with (first | ((with_reducible refine wpList_load_at (o := ⟨some 77, .load 26 (.tmp 11), _, _, _, _⟩) ?e1 26 (.tmp 11) ?e2 ⟨w84.heap.size, 0, none⟩ ?e3 _ M127.out ?_); (case e1 => rfl); (case e2 => rfl); (case e3 => rfl)))
 refine C128.out.mono ?_
 rintro e w129 ⟨rfl, hb130⟩
 have T131 := Lib.hid (T115.out.below hb130 T115.out.lt)
 have T132 := Lib.hid (T116.out.below hb130 T116.out.lt)
 have T133 := Lib.hid (T117.out.below hb130 T117.out.lt)
 have F134 := Lib.hid (F118.out.below hb130 (Nat.le_refl _))
 have F135 := Lib.hid (F119.out.below hb130 (Nat.le_refl _))
 have F136 := Lib.hid (F120.out.below hb130 (Nat.le_refl _))
 have F137 := Lib.hid (F121.out.below hb130 (Nat.le_refl _))
 have F138 := Lib.hid (F122.out.below hb130 (Nat.le_refl _))
 have F139 := Lib.hid (Y124.out.below hb130 (Nat.le_refl _))
 have B140 := Lib.hid (B123.out.trans (hb130.mono B123.out.size))
 clear hb130
 have q1 := F139.out.1.text (P := Tryd.prog) (cap := c2) F139.out.2.1 27 5 9 Tryd.underlying27 Tryd.underlying5 Tryd.underlying9
 have q2 := F135.out.1.text (P := Tryd.prog) (cap := cap) HZL.out 27 5 9 Tryd.underlying27 Tryd.underlying5 Tryd.underlying9
 go_wp2
 go_ret
 exact ⟨rfl, B140.out⟩
set_option maxHeartbeats 16000000 in
theorem mcb_tf (m : MnA) (A : Option Addr) (len cap : Nat) (zs : List Int) (w : World) (hlaid : Laid w) (wm : m.Ok w) (hby : BsAt w A len cap zs) (hab : AllBytes zs) (hlc : len ≤ cap) (hcm : cap ≤ maxLen) (p : mfew m.m = true) (hl : len ≤ 5000) (a : mmay m.m = true) (g : (mget zs).2 ≠ 0) :
  Calls Tryd.prog 3 #[.agg m.cs.toArray, .slice A len cap] w fun e w' => e = .returned (.bool true) ∧ Below w.heap.size w w' := by
 have HLA := Lib.hid (fun (X : World) (hX : Below w.heap.size w X) => hlaid.below hX (Nat.le_refl _))
 have Fm := Lib.hid wm
 have LM := Lib.hid (MnA.len wm)
 have GM := Lib.hid (mn_good wm)
 have HBY := Lib.hid hby
 have HAB := Lib.hid hab
 have HZL := Lib.hid hby.2.1
 have HCC := Lib.hid (And.intro hlc hcm)
 have hlen9 : len ≤ 9223372036854775807 := by simp only [maxLen] at hcm; omega
 have hzm := zeroMn
 rw [show mnA0.v = .agg mnA0.cs.toArray from rfl] at hzm
 have hzne1 : ¬ mnA0.cs.toArray = #[] := by decide
 have PM := Lib.hid p
 have t1 : ¬ (5000 : Int) < (len : Int) := by omega
 have MM := Lib.hid a
 have hw1 := mmay_wf a (mn_good wm)
 have HWF := Lib.hid hw1
 have HGE := Lib.hid (mget_put a hw1)
 have HZB := Lib.hid (pack_bytes (k := 1) (by decide) (by decide) (mnB_ok hw1).1)
 obtain ⟨Z, hZ⟩ : ∃ Z, packL 1 (mnB m.m) = Z := ⟨_, rfl⟩
 have HZ := Lib.hid hZ
 rw [hZ] at HGE HZB
 clear hw1 hZ
 have HGZ := Lib.hid (mget_err g)
 have HC0 := Lib.hid g
 obtain ⟨G, hG⟩ : ∃ G, mget zs = G := ⟨_, rfl⟩
 rw [hG] at HGZ HC0 g
 have HGQ := Lib.hid hG
 obtain ⟨gm, gc⟩ := G
 dsimp only at HGZ HC0 g
 clear hG
 clear hlaid wm hby hab hlc hcm p a g
 have B1 := Lib.hid (Below.refl w.heap.size w)
 have T2n := RowAt.new w m.cs.toArray 26
 have T2 := Lib.hid T2n
 clear T2n
 have B3 := Lib.hid (B1.out.alloc B1.out.size (.cells m.cs.toArray 26))
 have F4 := Lib.hid (Fm.out.below B3.out (Nat.le_refl _))
 have F5 := Lib.hid (HBY.out.below B3.out (Nat.le_refl _))
 go_enter Tryd.func3, Tryd.ntmps3
 have C6 := Lib.hid (mcAwake (w.alloc (.cells m.cs.toArray 26)) (HLA.out _ B3.out))
 go_wp2_with fail
 refine C6.out.mono ?_
 rintro e w7 ⟨rfl, hb8⟩
 have T9 := Lib.hid (T2.out.below hb8 T2.out.lt)
 have F10 := Lib.hid (F4.out.below hb8 (Nat.le_refl _))
 have F11 := Lib.hid (F5.out.below hb8 (Nat.le_refl _))
 have B12 := Lib.hid (B3.out.trans (hb8.mono B3.out.size))
 clear hb8
 have M13 := Lib.hid (T9.out.mn LM.out)
 have C14 := Lib.hid (rfew12_any m w7 F10.out)
 rw [PM.out] at C14
 go_wp2_with (first | ((with_reducible refine wpList_load_at (o := ⟨some 16, .load 26 (.tmp 2), _, _, _, _⟩) ?e1 26 (.tmp 2) ?e2 ⟨w.heap.size, 0, none⟩ ?e3 _ M13.out ?_); (case e1 => rfl); (case e2 => rfl); (case e3 => rfl)))
 refine C14.out.mono ?_
 rintro e w15 ⟨rfl, hb16⟩
 have T17 := Lib.hid (T9.out.below hb16 T9.out.lt)
 have F18 := Lib.hid (F10.out.below hb16 (Nat.le_refl _))
 have F19 := Lib.hid (F11.out.below hb16 (Nat.le_refl _))
 have B20 := Lib.hid (B12.out.trans (hb16.mono B12.out.size))
 clear hb16
 have M25 := Lib.hid (T17.out.mn LM.out)
 have C26 := Lib.hid (put13_any m w15 F18.out GM.out)
 unfold MPutPost at C26
 simp only [MM.out, if_true] at C26
 unfold GivesT at C26
 rw [HZ.out] at C26
 go_wp2_with (first | ((with_reducible refine wpList_load_at (o := ⟨some 31, .load 26 (.tmp 2), _, _, _, _⟩) ?e1 26 (.tmp 2) ?e2 ⟨w.heap.size, 0, none⟩ ?e3 _ M25.out ?_); (case e1 => rfl); (case e2 => rfl); (case e3 => rfl)))
 refine C26.out.mono ?_
 rintro e w27 ⟨A1, n1, c1, rfl, hn21, h22, h23, ho24, hb28⟩
 have T29 := Lib.hid (T17.out.below hb28 T17.out.lt)
 have F30 := Lib.hid (F18.out.below hb28 (Nat.le_refl _))
 have F31 := Lib.hid (F19.out.below hb28 (Nat.le_refl _))
 have B32 := Lib.hid (B20.out.trans (hb28.mono B20.out.size))
 clear hb28
 have Y33 := Lib.hid (BsAt.own ho24)
 have N34 := Lib.hid (hn21)
 have N35 := Lib.hid (And.intro h22 h23)
 clear hn21 h22 h23 ho24
 have M36 := Lib.hid (T29.out.mn LM.out)
 have C37 := Lib.hid (show Calls Tryd.prog 9 #[.agg m.cs.toArray] w27 fun e w' => e = .returned (.bool (mmay m.m)) ∧ Below (w27).heap.size w27 w' from pmay12_any m w27 F30.out)
 rw [MM.out] at C37
 go_wp2_with (first | ((with_reducible refine wpList_load_at (o := ⟨some 36, .load 26 (.tmp 2), _, _, _, _⟩) ?e1 26 (.tmp 2) ?e2 ⟨w.heap.size, 0, none⟩ ?e3 _ M36.out ?_); (case e1 => rfl); (case e2 => rfl); (case e3 => rfl)))
 refine C37.out.mono ?_
 rintro e w38 ⟨rfl, hb39⟩
 have T40 := Lib.hid (T29.out.below hb39 T29.out.lt)
 have F41 := Lib.hid (F30.out.below hb39 (Nat.le_refl _))
 have F42 := Lib.hid (F31.out.below hb39 (Nat.le_refl _))
 have F43 := Lib.hid (Y33.out.below hb39 (Nat.le_refl _))
 have B44 := Lib.hid (B32.out.trans (hb39.mono B32.out.size))
 clear hb39
 have C48 := Lib.hid (get13_any A1 n1 c1 Z w38 F43.out.1 (Nat.le_refl _) N34.out HZB.out N35.out.1 N35.out.2)
 unfold MGetPost at C48
 rw [HGE.out] at C48
 try dsimp only at C48
 go_wp2_with fail
 refine C48.out.mono ?_
 rintro e w49 ⟨d45, rfl, hd46, hk47, hb50⟩
 have T51 := Lib.hid (T40.out.below hb50 T40.out.lt)
 have F52 := Lib.hid (F41.out.below hb50 (Nat.le_refl _))
 have F53 := Lib.hid (F42.out.below hb50 (Nat.le_refl _))
 have F54 := Lib.hid (F43.out.below hb50 (Nat.le_refl _))
 have B55 := Lib.hid (B44.out.trans (hb50.mono B44.out.size))
 clear hb50
 have E56 := Lib.hid (hd46)
 have F57 := Lib.hid (hk47)
 clear hd46 hk47
 have SZ57 := Lib.hid (mn_size F57.out)
 have SQ57 := Lib.hid (show mnA0.cs.toArray.size = d45.cs.toArray.size by rw [mnA0_size, List.size_toArray]; exact (MnA.len F57.out).symm)
 have SO57 := Lib.hid (mn_ones d45)
 have L59 := Lib.hid (MnA.len F57.out)
 have hb60 := (Below.refl w49.heap.size w49).alloc (Nat.le_refl _) (.cells d45.cs.toArray 26)
 have T61 := Lib.hid (RowAt.new w49 d45.cs.toArray 26)
 have T62 := Lib.hid (T51.out.below hb60 T51.out.lt)
 have F63 := Lib.hid (F52.out.below hb60 (Nat.le_refl _))
 have F64 := Lib.hid (F53.out.below hb60 (Nat.le_refl _))
 have F65 := Lib.hid (F54.out.below hb60 (Nat.le_refl _))
 have F66 := Lib.hid (F57.out.below hb60 (Nat.le_refl _))
 have B67 := Lib.hid (B55.out.trans (hb60.mono B55.out.size))
 clear hb60
 have HYM := Lib.hid E56.out
 have HEQ := Lib.hid (show decide (d45.m = m.m) = true from decide_eq_true HYM.out)
 have HBD := Lib.hid (wf_bound (m := d45) (by rw [HYM.out]; exact HWF.out))
 have M68 := Lib.hid (T61.out.mn L59.out)
 have M69 := Lib.hid (T62.out.mn LM.out)
 have C70 := Lib.hid (show Calls Tryd.prog 11 #[.agg d45.cs.toArray, .agg m.cs.toArray] (w49.alloc (.cells d45.cs.toArray 26)) fun e w' => e = .returned (.bool (decide (d45.m = m.m))) ∧ Below ((w49.alloc (.cells d45.cs.toArray 26))).heap.size (w49.alloc (.cells d45.cs.toArray 26)) w' from psame12_any d45 m (w49.alloc (.cells d45.cs.toArray 26)) F66.out F63.out HBD.out)
 rw [HEQ.out] at C70
 go_wp2_with (first | ((with_reducible refine wpList_load_at (o := ⟨some 48, .load 26 (.tmp 9), _, _, _, _⟩) ?e1 26 (.tmp 9) ?e2 ⟨w49.heap.size, 0, none⟩ ?e3 _ M68.out ?_); (case e1 => rfl); (case e2 => rfl); (case e3 => rfl)) | ((with_reducible refine wpList_load_at (o := ⟨some 49, .load 26 (.tmp 2), _, _, _, _⟩) ?e1 26 (.tmp 2) ?e2 ⟨w.heap.size, 0, none⟩ ?e3 _ M69.out ?_); (case e1 => rfl); (case e2 => rfl); (case e3 => rfl)) | ((with_reducible refine wpList_store_new (o := ⟨none, .store 26 (.tmp 9) (.tmp 43), _, _, _, _⟩) ?e1 26 (.tmp 9) (.tmp 43) ?e2 ?e3 mnA0.cs.toArray d45.cs.toArray ?e4 SZ57.out SQ57.out SO57.out ?_); (case e1 => rfl); (case e2 => rfl); (case e3 => (first | rfl | exact congrArg (fun q => Value.pointer (some ⟨q, 0, none⟩)) (World.size_alloc _ _).symm)); (case e4 => rfl)))
 refine C70.out.mono ?_
 rintro e w71 ⟨rfl, hb72⟩
 have T73 := Lib.hid (T62.out.below hb72 T62.out.lt)
 have T74 := Lib.hid (T61.out.below hb72 T61.out.lt)
 have F75 := Lib.hid (F63.out.below hb72 (Nat.le_refl _))
 have F76 := Lib.hid (F64.out.below hb72 (Nat.le_refl _))
 have F77 := Lib.hid (F65.out.below hb72 (Nat.le_refl _))
 have F78 := Lib.hid (F66.out.below hb72 (Nat.le_refl _))
 have B79 := Lib.hid (B67.out.trans (hb72.mono B67.out.size))
 clear hb72
 have C83 := Lib.hid (get13_any A len cap zs w71 F76.out.1 (Nat.le_refl _) HZL.out HAB.out HCC.out.1 HCC.out.2)
 unfold MGetPost at C83
 rw [HGQ.out] at C83
 try dsimp only at C83
 go_wp2_with fail
 refine C83.out.mono ?_
 rintro e w84 ⟨d80, rfl, hd81, hk82, hb85⟩
 have T86 := Lib.hid (T73.out.below hb85 T73.out.lt)
 have T87 := Lib.hid (T74.out.below hb85 T74.out.lt)
 have F88 := Lib.hid (F75.out.below hb85 (Nat.le_refl _))
 have F89 := Lib.hid (F76.out.below hb85 (Nat.le_refl _))
 have F90 := Lib.hid (F77.out.below hb85 (Nat.le_refl _))
 have F91 := Lib.hid (F78.out.below hb85 (Nat.le_refl _))
 have B92 := Lib.hid (B79.out.trans (hb85.mono B79.out.size))
 clear hb85
 have E93 := Lib.hid (hd81)
 have F94 := Lib.hid (hk82)
 clear hd81 hk82
 have SZ94 := Lib.hid (mn_size F94.out)
 have SQ94 := Lib.hid (show mnA0.cs.toArray.size = d80.cs.toArray.size by rw [mnA0_size, List.size_toArray]; exact (MnA.len F94.out).symm)
 have SO94 := Lib.hid (mn_ones d80)
 have L96 := Lib.hid (MnA.len F94.out)
 have hb97 := (Below.refl w84.heap.size w84).alloc (Nat.le_refl _) (.cells d80.cs.toArray 26)
 have T98 := Lib.hid (RowAt.new w84 d80.cs.toArray 26)
 have T99 := Lib.hid (T86.out.below hb97 T86.out.lt)
 have T100 := Lib.hid (T87.out.below hb97 T87.out.lt)
 have F101 := Lib.hid (F88.out.below hb97 (Nat.le_refl _))
 have F102 := Lib.hid (F89.out.below hb97 (Nat.le_refl _))
 have F103 := Lib.hid (F90.out.below hb97 (Nat.le_refl _))
 have F104 := Lib.hid (F91.out.below hb97 (Nat.le_refl _))
 have F105 := Lib.hid (F94.out.below hb97 (Nat.le_refl _))
 have B106 := Lib.hid (B92.out.trans (hb97.mono B92.out.size))
 clear hb97
 have X0 := Lib.hid (show d80.m = mnZ by rw [E93.out]; exact HGZ.out)
 have XL := Lib.hid (show d80.ls.length = 0 by have h := congrArg (fun m => m.ls.length) X0.out; simpa [MnA.m, mnZ] using h)
 have XB := Lib.hid (show d80.base = z32m from congrArg Mn.base X0.out)
 have c32 := MnAt.c32 (show MnAt (w84.alloc (.cells d80.cs.toArray 26)) w84.heap.size d80 from T98.out) F105.out.1
 rw [XL.out] at c32
 have LD66 := Lib.hid (load_digM (MnAt.dig (show MnAt (w84.alloc (.cells d80.cs.toArray 26)) w84.heap.size d80 from T98.out) F105.out.1) F105.out.1)
 rw [XB.out] at LD66
 have HDZ := Lib.hid build_dgM
 have HDE := Lib.hid eq_dgM
 have hc0 := HC0.out
 go_wp2_with (first | ((with_reducible refine wpList_store_new (o := ⟨none, .store 26 (.tmp 11) (.tmp 56), _, _, _, _⟩) ?e1 26 (.tmp 11) (.tmp 56) ?e2 ?e3 mnA0.cs.toArray d80.cs.toArray ?e4 SZ94.out SQ94.out SO94.out ?_); (case e1 => rfl); (case e2 => rfl); (case e3 => (first | rfl | exact congrArg (fun q => Value.pointer (some ⟨q, 0, none⟩)) (World.size_alloc _ _).symm)); (case e4 => rfl)) | ((with_reducible refine wpList_load_at (o := ⟨some 66, .load 23 (.tmp 65), _, _, _, _⟩) ?e1 23 (.tmp 65) ?e2 ⟨w84.heap.size, 0, none⟩ ?e3 _ LD66.out ?_); (case e1 => rfl); (case e2 => rfl); (case e3 => rfl)) | ((with_reducible refine wpList_build_at (o := ⟨some 67, .build 23 #[], _, _, _, _⟩) ?e1 23 #[] ?e2 #[] ?e3 _ (HDZ.out _) ?_); (case e1 => rfl); (case e2 => rfl); (case e3 => simp)) | ((with_reducible refine wpList_eqlM (o := ⟨some 68, .binOp .eql 23 (.tmp 66) (.tmp 67) 23, _, _, _, _⟩) ?e1 23 (.tmp 66) (.tmp 67) 23 ?e2 ?e3 ?e4 guardDig (HDE.out _) ?_); (case e1 => rfl); (case e2 => rfl); (case e3 => rfl); (case e4 => rfl)) | fail)
 go_ret
 exact ⟨rfl, B106.out⟩
set_option maxHeartbeats 16000000 in
theorem mcb_ft (m : MnA) (A : Option Addr) (len cap : Nat) (zs : List Int) (w : World) (hlaid : Laid w) (wm : m.Ok w) (hby : BsAt w A len cap zs) (hab : AllBytes zs) (hlc : len ≤ cap) (hcm : cap ≤ maxLen) (p : mfew m.m = true) (hl : len ≤ 5000) (a : mmay m.m = false) (g : (mget zs).2 = 0) :
  Calls Tryd.prog 3 #[.agg m.cs.toArray, .slice A len cap] w fun e w' => e = .returned (.bool true) ∧ Below w.heap.size w w' := by
 have HLA := Lib.hid (fun (X : World) (hX : Below w.heap.size w X) => hlaid.below hX (Nat.le_refl _))
 have Fm := Lib.hid wm
 have LM := Lib.hid (MnA.len wm)
 have GM := Lib.hid (mn_good wm)
 have HBY := Lib.hid hby
 have HAB := Lib.hid hab
 have HZL := Lib.hid hby.2.1
 have HCC := Lib.hid (And.intro hlc hcm)
 have hlen9 : len ≤ 9223372036854775807 := by simp only [maxLen] at hcm; omega
 have hzm := zeroMn
 rw [show mnA0.v = .agg mnA0.cs.toArray from rfl] at hzm
 have hzne1 : ¬ mnA0.cs.toArray = #[] := by decide
 have PM := Lib.hid p
 have t1 : ¬ (5000 : Int) < (len : Int) := by omega
 have MM := Lib.hid a
 have HG3 := Lib.hid (mget_some hab g)
 have HGM := Lib.hid HG3.out.1
 have HGP := Lib.hid HG3.out.2.2
 have HC0 := Lib.hid g
 clear HG3
 obtain ⟨G, hG⟩ : ∃ G, mget zs = G := ⟨_, rfl⟩
 rw [hG] at HGM HGP HC0 g
 have HGQ := Lib.hid hG
 obtain ⟨gm, gc⟩ := G
 dsimp only at HGM HGP HC0 g
 subst g
 clear hG
 clear hlaid wm hby hab hlc hcm p a
 have B1 := Lib.hid (Below.refl w.heap.size w)
 have T2n := RowAt.new w m.cs.toArray 26
 have T2 := Lib.hid T2n
 clear T2n
 have B3 := Lib.hid (B1.out.alloc B1.out.size (.cells m.cs.toArray 26))
 have F4 := Lib.hid (Fm.out.below B3.out (Nat.le_refl _))
 have F5 := Lib.hid (HBY.out.below B3.out (Nat.le_refl _))
 go_enter Tryd.func3, Tryd.ntmps3
 have C6 := Lib.hid (mcAwake (w.alloc (.cells m.cs.toArray 26)) (HLA.out _ B3.out))
 go_wp2_with fail
 refine C6.out.mono ?_
 rintro e w7 ⟨rfl, hb8⟩
 have T9 := Lib.hid (T2.out.below hb8 T2.out.lt)
 have F10 := Lib.hid (F4.out.below hb8 (Nat.le_refl _))
 have F11 := Lib.hid (F5.out.below hb8 (Nat.le_refl _))
 have B12 := Lib.hid (B3.out.trans (hb8.mono B3.out.size))
 clear hb8
 have M13 := Lib.hid (T9.out.mn LM.out)
 have C14 := Lib.hid (rfew12_any m w7 F10.out)
 rw [PM.out] at C14
 go_wp2_with (first | ((with_reducible refine wpList_load_at (o := ⟨some 16, .load 26 (.tmp 2), _, _, _, _⟩) ?e1 26 (.tmp 2) ?e2 ⟨w.heap.size, 0, none⟩ ?e3 _ M13.out ?_); (case e1 => rfl); (case e2 => rfl); (case e3 => rfl)))
 refine C14.out.mono ?_
 rintro e w15 ⟨rfl, hb16⟩
 have T17 := Lib.hid (T9.out.below hb16 T9.out.lt)
 have F18 := Lib.hid (F10.out.below hb16 (Nat.le_refl _))
 have F19 := Lib.hid (F11.out.below hb16 (Nat.le_refl _))
 have B20 := Lib.hid (B12.out.trans (hb16.mono B12.out.size))
 clear hb16
 have M21 := Lib.hid (T17.out.mn LM.out)
 have C22 := Lib.hid (put13_any m w15 F18.out GM.out)
 unfold MPutPost at C22
 simp only [MM.out, Bool.false_eq_true, if_false] at C22
 go_wp2_with (first | ((with_reducible refine wpList_load_at (o := ⟨some 31, .load 26 (.tmp 2), _, _, _, _⟩) ?e1 26 (.tmp 2) ?e2 ⟨w.heap.size, 0, none⟩ ?e3 _ M21.out ?_); (case e1 => rfl); (case e2 => rfl); (case e3 => rfl)))
 refine C22.out.mono ?_
 rintro e w23 ⟨rfl, hb24⟩
 have T25 := Lib.hid (T17.out.below hb24 T17.out.lt)
 have F26 := Lib.hid (F18.out.below hb24 (Nat.le_refl _))
 have F27 := Lib.hid (F19.out.below hb24 (Nat.le_refl _))
 have B28 := Lib.hid (B20.out.trans (hb24.mono B20.out.size))
 clear hb24
 have M29 := Lib.hid (T25.out.mn LM.out)
 have C30 := Lib.hid (show Calls Tryd.prog 9 #[.agg m.cs.toArray] w23 fun e w' => e = .returned (.bool (mmay m.m)) ∧ Below (w23).heap.size w23 w' from pmay12_any m w23 F26.out)
 rw [MM.out] at C30
 go_wp2_with (first | ((with_reducible refine wpList_load_at (o := ⟨some 36, .load 26 (.tmp 2), _, _, _, _⟩) ?e1 26 (.tmp 2) ?e2 ⟨w.heap.size, 0, none⟩ ?e3 _ M29.out ?_); (case e1 => rfl); (case e2 => rfl); (case e3 => rfl)))
 refine C30.out.mono ?_
 rintro e w31 ⟨rfl, hb32⟩
 have T33 := Lib.hid (T25.out.below hb32 T25.out.lt)
 have F34 := Lib.hid (F26.out.below hb32 (Nat.le_refl _))
 have F35 := Lib.hid (F27.out.below hb32 (Nat.le_refl _))
 have B36 := Lib.hid (B28.out.trans (hb32.mono B28.out.size))
 clear hb32
 have C40 := Lib.hid (get13_any A len cap zs w31 F35.out.1 (Nat.le_refl _) HZL.out HAB.out HCC.out.1 HCC.out.2)
 unfold MGetPost at C40
 rw [HGQ.out] at C40
 try dsimp only at C40
 go_wp2_with fail
 refine C40.out.mono ?_
 rintro e w41 ⟨d37, rfl, hd38, hk39, hb42⟩
 have T43 := Lib.hid (T33.out.below hb42 T33.out.lt)
 have F44 := Lib.hid (F34.out.below hb42 (Nat.le_refl _))
 have F45 := Lib.hid (F35.out.below hb42 (Nat.le_refl _))
 have B46 := Lib.hid (B36.out.trans (hb42.mono B36.out.size))
 clear hb42
 have E47 := Lib.hid (hd38)
 have F48 := Lib.hid (hk39)
 clear hd38 hk39
 have SZ48 := Lib.hid (mn_size F48.out)
 have SQ48 := Lib.hid (show mnA0.cs.toArray.size = d37.cs.toArray.size by rw [mnA0_size, List.size_toArray]; exact (MnA.len F48.out).symm)
 have SO48 := Lib.hid (mn_ones d37)
 have L50 := Lib.hid (MnA.len F48.out)
 have hb51 := (Below.refl w41.heap.size w41).alloc (Nat.le_refl _) (.cells d37.cs.toArray 26)
 have T52 := Lib.hid (RowAt.new w41 d37.cs.toArray 26)
 have T53 := Lib.hid (T43.out.below hb51 T43.out.lt)
 have F54 := Lib.hid (F44.out.below hb51 (Nat.le_refl _))
 have F55 := Lib.hid (F45.out.below hb51 (Nat.le_refl _))
 have F56 := Lib.hid (F48.out.below hb51 (Nat.le_refl _))
 have B57 := Lib.hid (B46.out.trans (hb51.mono B46.out.size))
 clear hb51
 have XM := Lib.hid (show mmay d37.m = true by rw [E47.out]; exact HGM.out)
 have XG := Lib.hid (mn_good F56.out)
 have XZ := Lib.hid (show packL 1 (mnB d37.m) = zs by rw [E47.out]; exact HGP.out)
 have hc0 := HC0.out
 have M62 := Lib.hid (T52.out.mn L50.out)
 have C63 := Lib.hid (put13_any d37 (w41.alloc (.cells d37.cs.toArray 26)) F56.out XG.out)
 unfold MPutPost at C63
 simp only [XM.out, if_true] at C63
 unfold GivesT at C63
 rw [XZ.out] at C63
 go_wp2_with (first | ((with_reducible refine wpList_load_at (o := ⟨some 71, .load 26 (.tmp 11), _, _, _, _⟩) ?e1 26 (.tmp 11) ?e2 ⟨w41.heap.size, 0, none⟩ ?e3 _ M62.out ?_); (case e1 => rfl); (case e2 => rfl); (case e3 => rfl)) | ((with_reducible refine wpList_store_new (o := ⟨none, .store 26 (.tmp 11) (.tmp 56), _, _, _, _⟩) ?e1 26 (.tmp 11) (.tmp 56) ?e2 ?e3 mnA0.cs.toArray d37.cs.toArray ?e4 SZ48.out SQ48.out SO48.out ?_); (case e1 => rfl); (case e2 => rfl); (case e3 => (first | rfl | exact congrArg (fun q => Value.pointer (some ⟨q, 0, none⟩)) (World.size_alloc _ _).symm)); (case e4 => rfl)))
 refine C63.out.mono ?_
 rintro e w64 ⟨A2, n2, c2, rfl, hn58, h59, h60, ho61, hb65⟩
 have T66 := Lib.hid (T53.out.below hb65 T53.out.lt)
 have T67 := Lib.hid (T52.out.below hb65 T52.out.lt)
 have F68 := Lib.hid (F54.out.below hb65 (Nat.le_refl _))
 have F69 := Lib.hid (F55.out.below hb65 (Nat.le_refl _))
 have F70 := Lib.hid (F56.out.below hb65 (Nat.le_refl _))
 have B71 := Lib.hid (B57.out.trans (hb65.mono B57.out.size))
 clear hb65
 have Y72 := Lib.hid (BsAt.own ho61)
 have N73 := Lib.hid (hn58)
 have N74 := Lib.hid (And.intro h59 h60)
 clear hn58 h59 h60 ho61
 have M75 := Lib.hid (T67.out.mn L50.out)
 have C76 := Lib.hid (show Calls Tryd.prog 9 #[.agg d37.cs.toArray] w64 fun e w' => e = .returned (.bool (mmay d37.m)) ∧ Below (w64).heap.size w64 w' from pmay12_any d37 w64 F70.out)
 rw [XM.out] at C76
 go_wp2_with (first | ((with_reducible refine wpList_load_at (o := ⟨some 77, .load 26 (.tmp 11), _, _, _, _⟩) ?e1 26 (.tmp 11) ?e2 ⟨w41.heap.size, 0, none⟩ ?e3 _ M75.out ?_); (case e1 => rfl); (case e2 => rfl); (case e3 => rfl)))
 refine C76.out.mono ?_
 rintro e w77 ⟨rfl, hb78⟩
 have T79 := Lib.hid (T66.out.below hb78 T66.out.lt)
 have T80 := Lib.hid (T67.out.below hb78 T67.out.lt)
 have F81 := Lib.hid (F68.out.below hb78 (Nat.le_refl _))
 have F82 := Lib.hid (F69.out.below hb78 (Nat.le_refl _))
 have F83 := Lib.hid (F70.out.below hb78 (Nat.le_refl _))
 have F84 := Lib.hid (Y72.out.below hb78 (Nat.le_refl _))
 have B85 := Lib.hid (B71.out.trans (hb78.mono B71.out.size))
 clear hb78
 have q1 := F84.out.1.text (P := Tryd.prog) (cap := c2) F84.out.2.1 27 5 9 Tryd.underlying27 Tryd.underlying5 Tryd.underlying9
 have q2 := F82.out.1.text (P := Tryd.prog) (cap := cap) HZL.out 27 5 9 Tryd.underlying27 Tryd.underlying5 Tryd.underlying9
 go_wp2
 go_ret
 exact ⟨rfl, B85.out⟩
set_option maxHeartbeats 16000000 in
theorem mcb_ff (m : MnA) (A : Option Addr) (len cap : Nat) (zs : List Int) (w : World) (hlaid : Laid w) (wm : m.Ok w) (hby : BsAt w A len cap zs) (hab : AllBytes zs) (hlc : len ≤ cap) (hcm : cap ≤ maxLen) (p : mfew m.m = true) (hl : len ≤ 5000) (a : mmay m.m = false) (g : (mget zs).2 ≠ 0) :
  Calls Tryd.prog 3 #[.agg m.cs.toArray, .slice A len cap] w fun e w' => e = .returned (.bool true) ∧ Below w.heap.size w w' := by
 have HLA := Lib.hid (fun (X : World) (hX : Below w.heap.size w X) => hlaid.below hX (Nat.le_refl _))
 have Fm := Lib.hid wm
 have LM := Lib.hid (MnA.len wm)
 have GM := Lib.hid (mn_good wm)
 have HBY := Lib.hid hby
 have HAB := Lib.hid hab
 have HZL := Lib.hid hby.2.1
 have HCC := Lib.hid (And.intro hlc hcm)
 have hlen9 : len ≤ 9223372036854775807 := by simp only [maxLen] at hcm; omega
 have hzm := zeroMn
 rw [show mnA0.v = .agg mnA0.cs.toArray from rfl] at hzm
 have hzne1 : ¬ mnA0.cs.toArray = #[] := by decide
 have PM := Lib.hid p
 have t1 : ¬ (5000 : Int) < (len : Int) := by omega
 have MM := Lib.hid a
 have HGZ := Lib.hid (mget_err g)
 have HC0 := Lib.hid g
 obtain ⟨G, hG⟩ : ∃ G, mget zs = G := ⟨_, rfl⟩
 rw [hG] at HGZ HC0 g
 have HGQ := Lib.hid hG
 obtain ⟨gm, gc⟩ := G
 dsimp only at HGZ HC0 g
 clear hG
 clear hlaid wm hby hab hlc hcm p a g
 have B1 := Lib.hid (Below.refl w.heap.size w)
 have T2n := RowAt.new w m.cs.toArray 26
 have T2 := Lib.hid T2n
 clear T2n
 have B3 := Lib.hid (B1.out.alloc B1.out.size (.cells m.cs.toArray 26))
 have F4 := Lib.hid (Fm.out.below B3.out (Nat.le_refl _))
 have F5 := Lib.hid (HBY.out.below B3.out (Nat.le_refl _))
 go_enter Tryd.func3, Tryd.ntmps3
 have C6 := Lib.hid (mcAwake (w.alloc (.cells m.cs.toArray 26)) (HLA.out _ B3.out))
 go_wp2_with fail
 refine C6.out.mono ?_
 rintro e w7 ⟨rfl, hb8⟩
 have T9 := Lib.hid (T2.out.below hb8 T2.out.lt)
 have F10 := Lib.hid (F4.out.below hb8 (Nat.le_refl _))
 have F11 := Lib.hid (F5.out.below hb8 (Nat.le_refl _))
 have B12 := Lib.hid (B3.out.trans (hb8.mono B3.out.size))
 clear hb8
 have M13 := Lib.hid (T9.out.mn LM.out)
 have C14 := Lib.hid (rfew12_any m w7 F10.out)
 rw [PM.out] at C14
 go_wp2_with (first | ((with_reducible refine wpList_load_at (o := ⟨some 16, .load 26 (.tmp 2), _, _, _, _⟩) ?e1 26 (.tmp 2) ?e2 ⟨w.heap.size, 0, none⟩ ?e3 _ M13.out ?_); (case e1 => rfl); (case e2 => rfl); (case e3 => rfl)))
 refine C14.out.mono ?_
 rintro e w15 ⟨rfl, hb16⟩
 have T17 := Lib.hid (T9.out.below hb16 T9.out.lt)
 have F18 := Lib.hid (F10.out.below hb16 (Nat.le_refl _))
 have F19 := Lib.hid (F11.out.below hb16 (Nat.le_refl _))
 have B20 := Lib.hid (B12.out.trans (hb16.mono B12.out.size))
 clear hb16
 have M21 := Lib.hid (T17.out.mn LM.out)
 have C22 := Lib.hid (put13_any m w15 F18.out GM.out)
 unfold MPutPost at C22
 simp only [MM.out, Bool.false_eq_true, if_false] at C22
 go_wp2_with (first | ((with_reducible refine wpList_load_at (o := ⟨some 31, .load 26 (.tmp 2), _, _, _, _⟩) ?e1 26 (.tmp 2) ?e2 ⟨w.heap.size, 0, none⟩ ?e3 _ M21.out ?_); (case e1 => rfl); (case e2 => rfl); (case e3 => rfl)))
 refine C22.out.mono ?_
 rintro e w23 ⟨rfl, hb24⟩
 have T25 := Lib.hid (T17.out.below hb24 T17.out.lt)
 have F26 := Lib.hid (F18.out.below hb24 (Nat.le_refl _))
 have F27 := Lib.hid (F19.out.below hb24 (Nat.le_refl _))
 have B28 := Lib.hid (B20.out.trans (hb24.mono B20.out.size))
 clear hb24
 have M29 := Lib.hid (T25.out.mn LM.out)
 have C30 := Lib.hid (show Calls Tryd.prog 9 #[.agg m.cs.toArray] w23 fun e w' => e = .returned (.bool (mmay m.m)) ∧ Below (w23).heap.size w23 w' from pmay12_any m w23 F26.out)
 rw [MM.out] at C30
 go_wp2_with (first | ((with_reducible refine wpList_load_at (o := ⟨some 36, .load 26 (.tmp 2), _, _, _, _⟩) ?e1 26 (.tmp 2) ?e2 ⟨w.heap.size, 0, none⟩ ?e3 _ M29.out ?_); (case e1 => rfl); (case e2 => rfl); (case e3 => rfl)))
 refine C30.out.mono ?_
 rintro e w31 ⟨rfl, hb32⟩
 have T33 := Lib.hid (T25.out.below hb32 T25.out.lt)
 have F34 := Lib.hid (F26.out.below hb32 (Nat.le_refl _))
 have F35 := Lib.hid (F27.out.below hb32 (Nat.le_refl _))
 have B36 := Lib.hid (B28.out.trans (hb32.mono B28.out.size))
 clear hb32
 have C40 := Lib.hid (get13_any A len cap zs w31 F35.out.1 (Nat.le_refl _) HZL.out HAB.out HCC.out.1 HCC.out.2)
 unfold MGetPost at C40
 rw [HGQ.out] at C40
 try dsimp only at C40
 go_wp2_with fail
 refine C40.out.mono ?_
 rintro e w41 ⟨d37, rfl, hd38, hk39, hb42⟩
 have T43 := Lib.hid (T33.out.below hb42 T33.out.lt)
 have F44 := Lib.hid (F34.out.below hb42 (Nat.le_refl _))
 have F45 := Lib.hid (F35.out.below hb42 (Nat.le_refl _))
 have B46 := Lib.hid (B36.out.trans (hb42.mono B36.out.size))
 clear hb42
 have E47 := Lib.hid (hd38)
 have F48 := Lib.hid (hk39)
 clear hd38 hk39
 have SZ48 := Lib.hid (mn_size F48.out)
 have SQ48 := Lib.hid (show mnA0.cs.toArray.size = d37.cs.toArray.size by rw [mnA0_size, List.size_toArray]; exact (MnA.len F48.out).symm)
 have SO48 := Lib.hid (mn_ones d37)
 have L50 := Lib.hid (MnA.len F48.out)
 have hb51 := (Below.refl w41.heap.size w41).alloc (Nat.le_refl _) (.cells d37.cs.toArray 26)
 have T52 := Lib.hid (RowAt.new w41 d37.cs.toArray 26)
 have T53 := Lib.hid (T43.out.below hb51 T43.out.lt)
 have F54 := Lib.hid (F44.out.below hb51 (Nat.le_refl _))
 have F55 := Lib.hid (F45.out.below hb51 (Nat.le_refl _))
 have F56 := Lib.hid (F48.out.below hb51 (Nat.le_refl _))
 have B57 := Lib.hid (B46.out.trans (hb51.mono B46.out.size))
 clear hb51
 have X0 := Lib.hid (show d37.m = mnZ by rw [E47.out]; exact HGZ.out)
 have XL := Lib.hid (show d37.ls.length = 0 by have h := congrArg (fun m => m.ls.length) X0.out; simpa [MnA.m, mnZ] using h)
 have XB := Lib.hid (show d37.base = z32m from congrArg Mn.base X0.out)
 have c32 := MnAt.c32 (show MnAt (w41.alloc (.cells d37.cs.toArray 26)) w41.heap.size d37 from T52.out) F56.out.1
 rw [XL.out] at c32
 have LD66 := Lib.hid (load_digM (MnAt.dig (show MnAt (w41.alloc (.cells d37.cs.toArray 26)) w41.heap.size d37 from T52.out) F56.out.1) F56.out.1)
 rw [XB.out] at LD66
 have HDZ := Lib.hid build_dgM
 have HDE := Lib.hid eq_dgM
 have hc0 := HC0.out
 go_wp2_with (first | ((with_reducible refine wpList_store_new (o := ⟨none, .store 26 (.tmp 11) (.tmp 56), _, _, _, _⟩) ?e1 26 (.tmp 11) (.tmp 56) ?e2 ?e3 mnA0.cs.toArray d37.cs.toArray ?e4 SZ48.out SQ48.out SO48.out ?_); (case e1 => rfl); (case e2 => rfl); (case e3 => (first | rfl | exact congrArg (fun q => Value.pointer (some ⟨q, 0, none⟩)) (World.size_alloc _ _).symm)); (case e4 => rfl)) | ((with_reducible refine wpList_load_at (o := ⟨some 66, .load 23 (.tmp 65), _, _, _, _⟩) ?e1 23 (.tmp 65) ?e2 ⟨w41.heap.size, 0, none⟩ ?e3 _ LD66.out ?_); (case e1 => rfl); (case e2 => rfl); (case e3 => rfl)) | ((with_reducible refine wpList_build_at (o := ⟨some 67, .build 23 #[], _, _, _, _⟩) ?e1 23 #[] ?e2 #[] ?e3 _ (HDZ.out _) ?_); (case e1 => rfl); (case e2 => rfl); (case e3 => simp)) | ((with_reducible refine wpList_eqlM (o := ⟨some 68, .binOp .eql 23 (.tmp 66) (.tmp 67) 23, _, _, _, _⟩) ?e1 23 (.tmp 66) (.tmp 67) 23 ?e2 ?e3 ?e4 guardDig (HDE.out _) ?_); (case e1 => rfl); (case e2 => rfl); (case e3 => rfl); (case e4 => rfl)) | fail)
 go_ret
 exact ⟨rfl, B57.out⟩
theorem walk_manicBack (m : MnA) (A : Option Addr) (len cap : Nat) (zs : List Int) (w : World) (hlaid : Laid w) (wm : m.Ok w) (wx : IsRow .u8 w A len cap zs) :
  Calls Tryd.prog 3 #[m.v, .slice A len cap] w fun e w' => e = .returned (.bool true) ∧ Below w.heap.size w w' := by
 show Calls Tryd.prog 3 #[.agg m.cs.toArray, .slice A len cap] w fun e w' => e = .returned (.bool true) ∧ Below w.heap.size w w'
 obtain ⟨h1, h2, h3, h4, h5⟩ := wx.byt
 have hby : BsAt w A len cap (zs.take len) := ⟨h1, h2, fun e => row_nil wx e⟩
 generalize zs.take len = Z at *
 cases p : mfew m.m
 ·exact mcb_few m A len cap Z w hlaid wm hby h3 h4 h5 p
 ·by_cases hl : len ≤ 5000
  ·cases a : mmay m.m <;> by_cases g : (mget Z).2 = 0
   ·exact mcb_ft m A len cap Z w hlaid wm hby h3 h4 h5 p hl a g
   ·exact mcb_ff m A len cap Z w hlaid wm hby h3 h4 h5 p hl a g
   ·exact mcb_tt m A len cap Z w hlaid wm hby h3 h4 h5 p hl a g
   ·exact mcb_tf m A len cap Z w hlaid wm hby h3 h4 h5 p hl a g
  ·exact mcb_long m A len cap Z w hlaid wm hby h3 h4 h5 p (by omega)
end
end Go.Proofs.YtkjimhlpbgeagaaDoor
