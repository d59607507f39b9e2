import Derived.Test.YtkjimhlpbgeagaaGreatDoorF0
import Derived.Test.YtkjimhlpbgeagaaGreatDoorF24
import Derived.Test.YtkjimhlpbgeagaaGreatDoorF25
import Derived.Test.YtkjimhlpbgeagaaGreatDoorF28
import Derived.Test.YtkjimhlpbgeagaaGreatDoorF30
import Derived.Test.YtkjimhlpbgeagaaGreatDoorF32
import Derived.Test.YtkjimhlpbgeagaaGreatDoorF26
import Derived.Test.YtkjimhlpbgeagaaGreatDoorF12
import Derived.Test.YtkjimhlpbgeagaaGreatDoorF2
import Derived.ProofKit
import Derived.OpenShut
import Derived.Deep.Slices
import Derived.Deep.Strs
import Derived.Test.YtkjimhlpbgeagaaGreatDoorF1
import Derived.Test.YtkjimhlpbgeagaaGreatDoorF8
import Derived.Test.YtkjimhlpbgeagaaGreatDoorF14
import Derived.ChangeSame
import Derived.Lib.SmallJoins
/-
  What the functions that a law of this layer reaches answer, part 33. Nothing that was there is written.
-/
namespace Go.Proofs.YtkjimhlpbgeagaaGreatDoor
set_option linter.unusedVariables false
set_option linter.unusedSimpArgs false
section
open Go.RowKit WM
set_option maxRecDepth 100000
set_option maxHeartbeats 16000000 in
theorem mnAwake (w : World) (hlaid : Laid w) : Calls Tryz.prog 4 #[] w fun e w' => e = .returned (.bool true) ∧ Below w.heap.size w w' := by
 have HLA := Lib.hid (fun (X : World) (hX : Below w.heap.size w X) => hlaid.below hX (Nat.le_refl _))
 have hz : ∀ w : World, (zeroValue 40).run Tryz.prog w = .ok (.agg #[.slice none 0 0]) w := zeroBook
 have hzm := zeroMn
 rw [show mnA0.v = .agg mnA0.cs.toArray from rfl] at hzm
 have hze := zeroEn
 rw [show KEn.v enA0 = .agg (KEn.cs enA0).toArray from rfl] at hze
 have hzi := zeroIdM
 have hzne1 : ¬ mnA0.cs.toArray = #[] := by decide
 have hzne2 : ¬ (KEn.cs enA0).toArray = #[] := by decide
 have hzne3 : ¬ bvals z16m = #[] := by decide
 have hb0 := build_book0
 have hb7 := build_z7
 have HB7 := Lib.hid build_z7
 have HDE := Lib.hid (rfl : SH.sum [0] = SH.sum [0])
 have HO1 := pof12_any bk0 w hlaid (BkAt.zero w)
 unfold MofPost mofB at HO1
 rw [show bk0.rs = [] from rfl, bbs_nil] at HO1
 simp only [show bmay [] = true from rfl, if_true, Option.isSome_some, Option.getD_some] at HO1
 have HO1 := Lib.hid (show Calls Tryz.prog 7 #[.agg #[.slice none 0 0]] w _ from HO1)
 have HWX := Lib.hid write_X
 have HBX := Lib.hid (SH.sum_bytes (bbs [recX]))
 have HEL := Lib.hid (SH.sum_len [0])
 have HEB := Lib.hid (SH.sum_bytes [0])
 have HXL := Lib.hid (SH.sum_len (nums ⟨#[120]⟩))
 have HXB := Lib.hid (SH.sum_bytes (nums ⟨#[120]⟩))
 have HNE := Lib.hid (mof_ne SH.sum (SH.sum [0]) (SH.sum (bbs [recX])))
 have HOFX := Lib.hid (fun (X : World) (hX : Below w.heap.size w X) => of_any ⟨#[120]⟩ X (hlaid.below hX (Nat.le_refl _)) (by decide))
 unfold DSumPost at HOFX
 have HMF := Lib.hid (mfind_X SH.sum (SH.sum (bbs [recX])))
 have HML := Lib.hid (mlike_X SH.sum (SH.sum (bbs [recX])))
 have HMM := Lib.hid (mof_may SH.sum (SH.sum (bbs [recX])) [recX] may_X12)
 have HEN : Hid (enX SH.sum = ⟨2, 1, 1, 1, SH.sum (nums ⟨#[120]⟩), []⟩) := Lib.hid rfl
 have HMS := Lib.hid (fun (n : MnA) (h : n.m = mof SH.sum (SH.sum (bbs [recX])) [recX]) => mof_few h may_X12)
 have HM0S := Lib.hid (fun (n : MnA) (h : n.m = mof SH.sum (SH.sum [0]) []) => (mof_few h rfl).2.1)
 have HM0B := Lib.hid (fun (n : MnA) (h : n.m = mof SH.sum (SH.sum [0]) []) => show n.base = SH.sum [0] from congrArg Mn.base h)
 have HM0L := Lib.hid (fun (n : MnA) (h : n.m = mof SH.sum (SH.sum [0]) []) => show n.ls.length = 0 from by
  have h2 := congrArg (fun m => m.ls.length) h
  simpa [MnA.m, mof] using h2)
 have HMX := Lib.hid may_X12
 clear hlaid
 go_enter Tryz.func4, Tryz.ntmps4
 go_wp2_with fail
 refine HO1.out.mono ?_
 rintro e w1 ⟨m, rfl, hm, hmo, hb1⟩
 have B1 := Lib.hid hb1
 have SZM := Lib.hid (mn_size hmo)
 have SQM := Lib.hid (show mnA0.cs.toArray.size = m.cs.toArray.size by rw [mnA0_size, List.size_toArray]; exact (MnA.len hmo).symm)
 have SOM := Lib.hid (mn_ones m)
 have BA := (Below.refl w1.heap.size w1).alloc (Nat.le_refl _) (.cells m.cs.toArray 26)
 have A1 := Lib.hid (MnAt.new w1 m)
 have O1 := Lib.hid (MnA.below hmo BA)
 have C1 := Lib.hid (B1.out.trans (BA.mono B1.out.size))
 have HMM1 := Lib.hid hm
 have HWc := bwrite_any bk0 z7 2 1 ⟨#[120]⟩ _ (HLA.out _ C1.out) (BkAt.zero _) z7_len z7_bytes
 unfold BJoinPost at HWc
 rw [show bk0.rs = [] from rfl, HWX.out] at HWc
 have HW2 := Lib.hid (show Calls Tryz.prog 8 #[.agg #[.slice none 0 0], .agg (bvals z7), .int .i64 2, .int .i64 1, .string ⟨#[120]⟩] _ _ from HWc)
 rw [show m.v = .agg m.cs.toArray from rfl]
 obtain ⟨EM1, hEM1⟩ : ∃ E, E = m.cs.toArray := ⟨_, rfl⟩
 have HEM1 := Lib.hid hEM1
 rw [← hEM1] at SZM SQM SOM A1 O1 C1 HW2 ⊢
 clear hb1 hm hmo BA HWc hEM1
 go_wp2_with (first | ((with_reducible refine wpList_store_new (o := ⟨none, .store 26 (.tmp 1) (.tmp 15), _, _, _, _⟩) ?e1 26 (.tmp 1) (.tmp 15) ?e2 ?e3 mnA0.cs.toArray EM1 ?e4 SZM.out SQM.out SOM.out ?_); (case e1 => rfl); (case e2 => rfl); (case e3 => rfl); (case e4 => rfl)))
 refine HW2.out.mono ?_
 rintro e w2 ⟨d, rfl, hd, hdk, hb2⟩
 generalize hp1 : w1.heap.size = p1 at *
 generalize w1.alloc (.cells EM1 26) = w1b at *
 have BA := (Below.refl w2.heap.size w2).alloc (Nat.le_refl _) (.cells #[.slice d.A d.xs.length d.c] 40)
 have hb' := hb2.trans (BA.mono hb2.size)
 have C2 := Lib.hid (C1.out.trans (hb'.mono C1.out.size))
 have A2 := Lib.hid (A1.out.below hb' A1.out.lt)
 have O2 := Lib.hid (MnA.below O1.out hb')
 have K2 := Lib.hid (hdk.below BA (Nat.le_refl _))
 have S2 := Lib.hid (BoAt.new w2 (.slice d.A d.xs.length d.c))
 have L2 := Lib.hid S2.out.load
 have HO2 := pof12_any d _ (HLA.out _ C2.out) K2.out
 unfold MofPost mofB at HO2
 rw [hd, HMX.out] at HO2
 simp only [if_true, Option.isSome_some, Option.getD_some] at HO2
 have HO2 := Lib.hid HO2
 clear hb2 hd hdk BA hb' hp1 A1 O1
 go_wp2_with (first | ((with_reducible refine wpList_load_at (o := ⟨some 24, .load 40 (.tmp 3), _, _, _, _⟩) ?e1 40 (.tmp 3) ?e2 ⟨w2.heap.size, 0, none⟩ ?e3 _ L2.out ?_); (case e1 => rfl); (case e2 => rfl); (case e3 => rfl)))
 refine HO2.out.mono ?_
 rintro e w3 ⟨n, rfl, hn, hno, hb3⟩
 generalize w2.heap.size = p3 at *
 generalize w2.alloc (.cells #[.slice d.A d.xs.length d.c] 40) = w2b at *
 have SZN := Lib.hid (mn_size hno)
 have SQN := Lib.hid (show mnA0.cs.toArray.size = n.cs.toArray.size by rw [mnA0_size, List.size_toArray]; exact (MnA.len hno).symm)
 have SON := Lib.hid (mn_ones n)
 have BA := (Below.refl w3.heap.size w3).alloc (Nat.le_refl _) (.cells n.cs.toArray 26)
 have hb' := hb3.trans (BA.mono hb3.size)
 have C3 := Lib.hid (C2.out.trans (hb'.mono C2.out.size))
 have A3 := Lib.hid (A2.out.below hb' A2.out.lt)
 have O3 := Lib.hid (MnA.below O2.out hb')
 have N3 := Lib.hid (MnAt.new w3 n)
 have P3 := Lib.hid (MnA.below hno BA)
 have HNN := Lib.hid hn
 have L3 := Lib.hid (load_mn N3.out P3.out)
 have HFc := pfind12_any n z7 2 _ P3.out ⟨z7_len, z7_bytes⟩ (HMS.out n hn).1
 have HFV : (findA n.ls z7 2).map (·.e) = some (enX SH.sum) := by rw [findA_e n z7 2, hn]; exact HMF.out
 unfold FindN at HFc
 have HVS : (findA n.ls z7 2).isSome = true := by have h := congrArg Option.isSome HFV; rw [Option.isSome_map] at h; exact h
 have HVE : ((findA n.ls z7 2).getD enA0).e = enX SH.sum := by
  cases h : findA n.ls z7 2 with
  | none => rw [h] at HFV; cases HFV
  | some y => rw [h] at HFV; exact Option.some.inj HFV
 rw [HVS, HVE] at HFc
 have HF3 := Lib.hid HFc
 rw [show n.v = .agg n.cs.toArray from rfl] at L3 HF3 ⊢
 obtain ⟨EN5, hEN5⟩ : ∃ E, E = n.cs.toArray := ⟨_, rfl⟩
 have HEN5 := Lib.hid hEN5
 rw [← hEN5] at SZN SQN SON N3 P3 C3 A3 O3 L3 HF3 ⊢
 clear hb3 hn hno BA hb' HFc HFV HVS HVE hEN5 A2 O2 C2 K2 S2 L2
 go_wp2_with (first | ((with_reducible refine wpList_store_new (o := ⟨none, .store 26 (.tmp 5) (.tmp 26), _, _, _, _⟩) ?e1 26 (.tmp 5) (.tmp 26) ?e2 ?e3 mnA0.cs.toArray EN5 ?e4 SZN.out SQN.out SON.out ?_); (case e1 => rfl); (case e2 => rfl); (case e3 => rfl); (case e4 => rfl)) | ((with_reducible refine wpList_load_at (o := ⟨some 29, .load 26 (.tmp 5), _, _, _, _⟩) ?e1 26 (.tmp 5) ?e2 ⟨w3.heap.size, 0, none⟩ ?e3 _ L3.out ?_); (case e1 => rfl); (case e2 => rfl); (case e3 => rfl)))
 refine HF3.out.mono ?_
 rintro e w4 ⟨y, rfl, hye, hyo, hb4⟩
 generalize w3.heap.size = p5 at *
 generalize w3.alloc (.cells EN5 26) = w3b at *
 have SZY := Lib.hid (en_size hyo)
 have SQY := Lib.hid (show (KEn.cs enA0).toArray.size = (KEn.cs y).toArray.size by rw [enA0_size, List.size_toArray]; exact (EnA.len hyo).symm)
 have SOY := Lib.hid (en_ones y)
 have BA := (Below.refl w4.heap.size w4).alloc (Nat.le_refl _) (.cells (KEn.cs y).toArray 46)
 have hb' := hb4.trans (BA.mono hb4.size)
 have C4 := Lib.hid (C3.out.trans (hb'.mono C3.out.size))
 have A4 := Lib.hid (A3.out.below hb' A3.out.lt)
 have O4 := Lib.hid (MnA.below O3.out hb')
 have N4 := Lib.hid (N3.out.below hb' N3.out.lt)
 have P4 := Lib.hid (MnA.below P3.out hb')
 have Y4 := Lib.hid (Kind.blk_new (K := KEn) w4 y 46)
 have HYE := Lib.hid hye
 have HYO := Lib.hid hyo
 rw [show KEn.v y = .agg (KEn.cs y).toArray from rfl]
 obtain ⟨EY, hEY⟩ : ∃ E, E = (KEn.cs y).toArray := ⟨_, rfl⟩
 rw [← hEY] at SZY SQY SOY C4 A4 O4 N4 P4 Y4 ⊢
 clear hb4 hye hyo BA hb' hEY A3 O3 N3 P3 L3 C3
 go_wp2_with (first | ((with_reducible refine wpList_store_new (o := ⟨none, .store 46 (.tmp 7) (.tmp 32), _, _, _, _⟩) ?e1 46 (.tmp 7) (.tmp 32) ?e2 ?e3 (KEn.cs enA0).toArray EY ?e4 SZY.out SQY.out SOY.out ?_); (case e1 => rfl); (case e2 => rfl); (case e3 => rfl); (case e4 => rfl)))
 generalize w4.heap.size = p7 at *
 generalize w4.alloc (.cells EY 46) = w4b at *
 have HOF := Lib.hid (fun X (hX : Below w4b.heap.size w4b X) => HOFX.out X (C4.out.trans (hX.mono C4.out.size)))
 have LN5 := Lib.hid (fun X (hX : Below w4b.heap.size w4b X) => show (loadVar 26 ⟨p5, 0, none⟩).run Tryz.prog X = .ok (.agg EN5) X from by
  have h := load_mn (N4.out.below hX N4.out.lt) (MnA.below P4.out hX)
  rw [show n.v = .agg n.cs.toArray from rfl, ← HEN5.out] at h
  exact h)
 have HLK := Lib.hid (fun X (hX : Below w4b.heap.size w4b X) => show Calls Tryz.prog 10 #[.agg EN5, .agg (bvals (SH.sum (nums ⟨#[120]⟩))), .int .i64 1] X fun e w' => e = .returned (.tuple #[.agg (bvals z7), .int .i64 2, .bool true]) ∧ Below X.heap.size X w' from by
  have h := plike12_any n (SH.sum (nums ⟨#[120]⟩)) 1 X (MnA.below P4.out hX) ⟨HXL.out, HXB.out⟩ (by decide) (HMS.out n HNN.out).2.2
  unfold LikePost at h
  rw [HNN.out, HML.out, show n.v = .agg n.cs.toArray from rfl, ← HEN5.out] at h
  exact h)
 have SZ7 := Lib.hid (id_size z7_len)
 have SO7 := Lib.hid (id_ones z7)
 generalize hDX : SH.sum (nums ⟨#[120]⟩) = DX at *
 go_wp2_with fail
 refine wp_region_G _ (by kernel_rfl) ?_
 refine wpGv (i := 0) (oi := ⟨some 35, _, _, _, _, _⟩) (v := (.agg EN5)) rfl ?_ ?_; (focus (intro w9 hSw; exact exec_load_at 26 _ rfl _ rfl (LN5.out w9 hSw))); simp only [Act.put, Z2, Z3, Z4]
 refine wpG_take (i := 1) (oi := ⟨some 36, _, _, _, _, _⟩) rfl (by kernel_rfl) (by kernel_rfl) (by kernel_rfl) (Or.inl ⟨by rfl, unib_call_if ?_ HOF.out⟩) ?_; (focus (intro w9 hSw; go_simp; try with_reducible rfl)); simp only [Act.put, Z2, Z3, Z4]
 refine wpG_take (i := 2) (oi := ⟨some 37, _, _, _, _, _⟩) rfl (by kernel_rfl) (by kernel_rfl) (by kernel_rfl) (Or.inl ⟨by rfl, unib_call_if ?_ HLK.out⟩) ?_; (focus (intro w9 hSw; go_simp; try with_reducible rfl)); simp only [Act.put, Z2, Z3, Z4]
 refine wpGv (i := 3) (oi := ⟨some 34, _, _, _, _, _⟩) (v := ?_) rfl ?_ ?_; rotate_left; (focus (intro w9 hSw; go_simp; try with_reducible rfl)); simp only [Act.put, Z2, Z3, Z4]
 refine wpGv (i := 4) (oi := ⟨some 38, _, _, _, _, _⟩) (v := ?_) rfl ?_ ?_; rotate_left; (focus (intro w9 hSw; go_simp; try with_reducible rfl)); simp only [Act.put, Z2, Z3, Z4]
 refine wpGv (i := 5) (oi := ⟨some 39, _, _, _, _, _⟩) (v := ?_) rfl ?_ ?_; rotate_left; (focus (intro w9 hSw; go_simp; try with_reducible rfl)); simp only [Act.put, Z2, Z3, Z4]
 refine wpGv (i := 6) (oi := ⟨some 40, _, _, _, _, _⟩) (v := ?_) rfl ?_ ?_; rotate_left; (focus (intro w9 hSw; go_simp; try with_reducible rfl)); simp only [Act.put, Z2, Z3, Z4]
 refine wpG_alloc (i := 7) (oi := ⟨some 9, _, _, _, _, _⟩) (z := bvals z16m) (t := 30) (by kernel_rfl) rfl ⟨by rfl, fun w9 hSw => by have hz9 := hzi; go_simp; try rfl⟩ ?_; intro g hg ng; simp only [Act.put, Z2, Z3, Z4]
 refine wpG_store (i := 8) (oi := ⟨none, _, _, _, _, _⟩) (v := undef) [(g, bvals z7, 30)] (by kernel_rfl) rfl ⟨by rfl, fun w9 hSw hO => ⟨_, Or.inr ⟨exec_store_at 30 _ _ rfl g (bvals z7) rfl rfl 30 _ (hO _ (.head _)) SZ7.out rfl SO7.out, rfl⟩, below_setRow hSw hg (bvals z7), fun x hx => by obtain rfl := List.mem_singleton.1 hx; exact setRow_heap _ _ _ _ _ _ (hO _ (.head _))⟩⟩ ?_; simp only [Act.put]
 refine wpGv (i := 9) (oi := ⟨some 10, _, _, _, _, _⟩) (v := ?_) rfl ?_ ?_; rotate_left; (focus (intro w9 hSw; go_simp; try with_reducible rfl)); simp only [Act.put, Z2, Z3, Z4]
 refine wpGv (i := 10) (oi := ⟨some 11, _, _, _, _, _⟩) (v := ?_) rfl ?_ ?_; rotate_left; (focus (intro w9 hSw; go_simp; try with_reducible rfl)); simp only [Act.put, Z2, Z3, Z4]
 refine wpG_done (by kernel_rfl) ?_ _
 intro w5 hS5 hO5
 have BW5 := Lib.hid (C4.out.trans (hS5.mono C4.out.size))
 have H9 := Lib.hid (show w5.heap[g]? = some (.cells (bvals z7) 30) from hO5 _ (.head _))
 have M5 := Lib.hid (A4.out.below hS5 A4.out.lt)
 have Q5 := Lib.hid (MnA.below O4.out hS5)
 have N5 := Lib.hid (N4.out.below hS5 N4.out.lt)
 have P5 := Lib.hid (MnA.below P4.out hS5)
 have Y5 := Lib.hid (Kind.blk_below Y4.out hS5 (Kind.blk_lt Y4.out))
 have HBASE := Lib.hid (HM0B.out m HMM1.out)
 have LB1 := Lib.hid (fun X (hX : Below w5.heap.size w5 X) => show (loadVar 23 ⟨p1, 0, none⟩).run Tryz.prog X = .ok (.agg (bvals (SH.sum [0]))) X from by
  have h := load_dig ((M5.out.below hX M5.out.lt).dig Q5.out.1) Q5.out.1
  rw [HBASE.out] at h
  exact h)
 have CM1 := Lib.hid (fun X (hX : Below w5.heap.size w5 X) => show X.cell? ⟨p1, 32, none⟩ = some (.slice m.A 0 m.c) from by
  have h := (M5.out.below hX M5.out.lt).c32 Q5.out.1
  rw [HM0L.out m HMM1.out] at h
  exact h)
 have LM6 := Lib.hid (fun X (hX : Below w5.heap.size w5 X) => show (loadVar 26 ⟨p1, 0, none⟩).run Tryz.prog X = .ok (.agg EM1) X from by
  have h := load_mn (M5.out.below hX M5.out.lt) (MnA.below Q5.out hX)
  rw [show m.v = .agg m.cs.toArray from rfl, ← HEM1.out] at h
  exact h)
 have LN6 := Lib.hid (fun X (hX : Below w5.heap.size w5 X) => LN5.out X (hS5.trans (hX.mono hS5.size)))
 have HYD : Hid (y.e.ds = DX) := Lib.hid (by rw [HYE.out, HEN.out])
 have HYL : Hid (y.e.len = 1) := Lib.hid (by rw [HYE.out, HEN.out])
 have CY2 := Lib.hid (fun X (hX : Below w5.heap.size w5 X) => show X.cell? ⟨p7, 3, none⟩ = some (.int .i64 1) from by
  have h := en_c3 (Kind.at_blk (Kind.blk_below Y5.out hX (Kind.blk_lt Y5.out)))
  rw [Nat.zero_add, HYL.out] at h
  exact h)
 have LY3 := Lib.hid (fun X (hX : Below w5.heap.size w5 X) => show (loadVar 23 ⟨p7, 4, none⟩).run Tryz.prog X = .ok (.agg (bvals DX)) X from by
  have h := load_dig (en_dig (Kind.at_blk (Kind.blk_below Y5.out hX (Kind.blk_lt Y5.out))) HYO.out.2.2.2.2.1) HYO.out.2.2.2.2.1
  rw [Nat.zero_add, HYD.out] at h
  exact h)
 have L9 := Lib.hid (fun X (hX : Below w5.heap.size w5 X) => load_idM (Kind.at_blk (K := KId) (t := 30) (x := z7) (show X.heap[g]? = some (.cells (bvals z7) 30) from (hX.block _ (Array.getElem?_eq_some_iff.1 H9.out).1).trans H9.out)) z7_len)
 have HOF6 := Lib.hid (fun X (hX : Below w5.heap.size w5 X) => HOF.out X (hS5.trans (hX.mono hS5.size)))
 have HMY := Lib.hid (fun X (hX : Below w5.heap.size w5 X) => show Calls Tryz.prog 6 #[.agg EN5] X fun e w' => e = .returned (.bool true) ∧ Below X.heap.size X w' from by
  have h := pmay12_any n X (MnA.below P5.out hX)
  rw [HNN.out, HMM.out, show n.v = .agg n.cs.toArray from rfl, ← HEN5.out] at h
  exact h)
 have HSM := Lib.hid (fun X (hX : Below w5.heap.size w5 X) => show Calls Tryz.prog 13 #[.agg EM1, .agg EN5] X fun e w' => e = .returned (.bool false) ∧ Below X.heap.size X w' from by
  have h := psame12_any m n X (MnA.below Q5.out hX) (MnA.below P5.out hX) (HM0S.out m HMM1.out)
  rw [HMM1.out, HNN.out, decide_eq_false HNE.out, show n.v = .agg n.cs.toArray from rfl, ← HEN5.out, show m.v = .agg m.cs.toArray from rfl, ← HEM1.out] at h
  exact h)
 have hqe := fun X => eq_dig HEB.out HEB.out HEL.out HEL.out X
 have hqx := fun X => eq_dig HXB.out HXB.out HXL.out HXL.out X
 simp only [beq_self_eq_true] at hqe hqx
 have HQE := Lib.hid hqe
 have HQX := Lib.hid hqx
 have hqi := fun X => eq_id z7_bytes z7_bytes z7_len z7_len X
 simp only [beq_self_eq_true] at hqi
 have HQI := Lib.hid hqi
 generalize hDE : SH.sum [0] = DE at *
 have HDE : Hid (SH.sum [0] = DE) := Lib.hid hDE
 clear hS5 hO5 hqe hqx hqi hzi hz hzm hze
 go_wp2_with fail
 refine wp_region_held_drew (S := fun w9 => Below w5.heap.size w5 w9) (by kernel_rfl) ((Below.refl _ _).drew) (fun hS => ?_)
 have S0 := Lib.hid hS
 generalize World.drew _ = X0 at *
 refine wpHv (i := 0) (oi := ⟨some 41, _, _, _, _, _⟩) (v := ?_) rfl ?_ hS ?_; rotate_left; (focus (intro w9 hSw; go_simp; try with_reducible rfl)); simp only [Act.put, Z2, Z3, Z4]
 refine wpHv (i := 1) (oi := ⟨some 42, _, _, _, _, _⟩) (v := ?_) rfl ?_ hS ?_; rotate_left; (focus (intro w9 hSw; go_simp; try with_reducible rfl)); simp only [Act.put, Z2, Z3, Z4]
 refine wpHv (i := 2) (oi := ⟨some 43, _, _, _, _, _⟩) (v := ?_) rfl ?_ hS ?_; rotate_left; (focus (intro w9 hSw; go_simp; try with_reducible rfl)); simp only [Act.put, Z2, Z3, Z4]
 refine wpHv (i := 3) (oi := ⟨some 44, _, _, _, _, _⟩) (v := ?_) rfl ?_ hS ?_; rotate_left; (focus (intro w9 hSw; have q0 := CM1.out w9 hSw; go_simp; try with_reducible rfl)); simp only [Act.put, Z2, Z3, Z4]
 refine wpHv (i := 4) (oi := ⟨some 45, _, _, _, _, _⟩) (v := ?_) rfl ?_ hS ?_; rotate_left; (focus (intro w9 hSw; go_simp; try with_reducible rfl)); simp only [Act.put, Z2, Z3, Z4]
 refine wpHv (i := 5) (oi := ⟨some 46, _, _, _, _, _⟩) (v := ?_) rfl ?_ hS ?_; rotate_left; (focus (intro w9 hSw; go_simp; try with_reducible rfl)); simp only [Act.put, Z2, Z3, Z4]
 refine wpHv (i := 6) (oi := ⟨some 47, _, _, _, _, _⟩) (v := ?_) rfl ?_ hS ?_; rotate_left; (focus (intro w9 hSw; go_simp; try with_reducible rfl)); simp only [Act.put, Z2, Z3, Z4]
 refine wpHv (i := 7) (oi := ⟨some 48, _, _, _, _, _⟩) (v := ?_) rfl ?_ hS ?_; rotate_left; (focus (intro w9 hSw; go_simp; try with_reducible rfl)); simp only [Act.put, Z2, Z3, Z4]
 refine wpHv (i := 8) (oi := ⟨some 49, _, _, _, _, _⟩) (v := ?_) rfl ?_ hS ?_; rotate_left; (focus (intro w9 hSw; go_simp; try with_reducible rfl)); simp only [Act.put, Z2, Z3, Z4]
 refine wpHv (i := 9) (oi := ⟨some 50, _, _, _, _, _⟩) (v := (.agg (bvals DE))) rfl ?_ hS ?_; (focus (intro w9 hSw; exact exec_load_at 23 _ rfl _ rfl (LB1.out w9 hSw))); simp only [Act.put, Z2, Z3, Z4]
 refine wpAnyH_ready (rs := [10]) (by kernel_rfl) (by simp) (AllReadyH.cons (o := ⟨some 51, _, _, _, _, _⟩) rfl (fun K hK => ?_) AllReadyH.nil)
 go_simp
 have S1 := Lib.hid (S0.out.alloc S0.out.size (.cells #[.int .u8 0] 5))
 have HY1 := Lib.hid (byt_one' X0 0)
 generalize hA8 : X0.heap.size = a8 at *
 generalize X0.alloc (.cells #[.int .u8 0] 5) = X1 at *
 refine hK.out _ _ S1.out (fun hS => ?_)
 clear hK K hA8
 try simp only [Act.put, Z2, Z3, Z4]
 refine wpAnyH_ready (rs := [11]) (by kernel_rfl) (by simp) (AllReadyH.cons (o := ⟨some 52, _, _, _, _, _⟩) rfl (fun K hK => ?_) AllReadyH.nil)
 go_simp
 refine (dsum_any (some ⟨a8, 0, none⟩) 1 1 [0] X1 (HLA.out _ (BW5.out.trans (S1.out.mono BW5.out.size))) HY1.out rfl (Nat.le_refl _) (by decide) (by decide) (by simp) (by unfold AllBytes; decide) (Nat.le_refl _)).mono ?_
 rintro e X2 hd2
 obtain ⟨rfl, hb2⟩ := hd2
 rw [HDE.out]
 have S2 := Lib.hid (S1.out.trans (hb2.mono S1.out.size))
 clear hb2
 refine hK.out _ _ S2.out (fun hS => ?_)
 clear hK K
 try simp only [Act.put, Z2, Z3, Z4]
 refine wpHv (i := 12) (oi := ⟨some 53, _, _, _, _, _⟩) (v := (.bool true)) rfl ?_ hS ?_; (focus (intro w9 hSw; exact exec_eql_at 23 _ _ _ rfl rfl rfl guardDig (HQE.out w9))); simp only [Act.put, Z2, Z3, Z4]
 refine wpHv (i := 13) (oi := ⟨some 54, _, _, _, _, _⟩) (v := ?_) rfl ?_ hS ?_; rotate_left; (focus (intro w9 hSw; go_simp; try with_reducible rfl)); simp only [Act.put, Z2, Z3, Z4]
 refine wpHv (i := 14) (oi := ⟨some 55, _, _, _, _, _⟩) (v := ?_) rfl ?_ hS ?_; rotate_left; (focus (intro w9 hSw; go_simp; try with_reducible rfl)); simp only [Act.put, Z2, Z3, Z4]
 refine wpHv (i := 15) (oi := ⟨some 56, _, _, _, _, _⟩) (v := ?_) rfl ?_ hS ?_; rotate_left; (focus (intro w9 hSw; go_simp; try with_reducible rfl)); simp only [Act.put, Z2, Z3, Z4]
 refine wpHv (i := 16) (oi := ⟨some 57, _, _, _, _, _⟩) (v := ?_) rfl ?_ hS ?_; rotate_left; (focus (intro w9 hSw; go_simp; try with_reducible rfl)); simp only [Act.put, Z2, Z3, Z4]
 refine wpHv (i := 17) (oi := ⟨some 58, _, _, _, _, _⟩) (v := ?_) rfl ?_ hS ?_; rotate_left; (focus (intro w9 hSw; go_simp; try with_reducible rfl)); simp only [Act.put, Z2, Z3, Z4]
 refine wpHv (i := 18) (oi := ⟨some 59, _, _, _, _, _⟩) (v := ?_) rfl ?_ hS ?_; rotate_left; (focus (intro w9 hSw; go_simp; try with_reducible rfl)); simp only [Act.put, Z2, Z3, Z4]
 refine wpHv (i := 19) (oi := ⟨some 60, _, _, _, _, _⟩) (v := ?_) rfl ?_ hS ?_; rotate_left; (focus (intro w9 hSw; go_simp; try with_reducible rfl)); simp only [Act.put, Z2, Z3, Z4]
 refine wpHv (i := 20) (oi := ⟨some 61, _, _, _, _, _⟩) (v := ?_) rfl ?_ hS ?_; rotate_left; (focus (intro w9 hSw; go_simp; try with_reducible rfl)); simp only [Act.put, Z2, Z3, Z4]
 refine wpHv (i := 21) (oi := ⟨some 62, _, _, _, _, _⟩) (v := ?_) rfl ?_ hS ?_; rotate_left; (focus (intro w9 hSw; go_simp; try with_reducible rfl)); simp only [Act.put, Z2, Z3, Z4]
 refine wpHv (i := 22) (oi := ⟨some 63, _, _, _, _, _⟩) (v := ?_) rfl ?_ hS ?_; rotate_left; (focus (intro w9 hSw; have q0 := CY2.out w9 hSw; go_simp; try with_reducible rfl)); simp only [Act.put, Z2, Z3, Z4]
 refine wpHv (i := 23) (oi := ⟨some 64, _, _, _, _, _⟩) (v := ?_) rfl ?_ hS ?_; rotate_left; (focus (intro w9 hSw; go_simp; try with_reducible rfl)); simp only [Act.put, Z2, Z3, Z4]
 refine wpHv (i := 24) (oi := ⟨some 65, _, _, _, _, _⟩) (v := ?_) rfl ?_ hS ?_; rotate_left; (focus (intro w9 hSw; go_simp; try with_reducible rfl)); simp only [Act.put, Z2, Z3, Z4]
 refine wpHv (i := 25) (oi := ⟨some 66, _, _, _, _, _⟩) (v := ?_) rfl ?_ hS ?_; rotate_left; (focus (intro w9 hSw; go_simp; try with_reducible rfl)); simp only [Act.put, Z2, Z3, Z4]
 refine wpHv (i := 26) (oi := ⟨some 67, _, _, _, _, _⟩) (v := ?_) rfl ?_ hS ?_; rotate_left; (focus (intro w9 hSw; go_simp; try with_reducible rfl)); simp only [Act.put, Z2, Z3, Z4]
 refine wpHv (i := 27) (oi := ⟨some 68, _, _, _, _, _⟩) (v := (.agg (bvals DX))) rfl ?_ hS ?_; (focus (intro w9 hSw; exact exec_load_at 23 _ rfl _ rfl (LY3.out w9 hSw))); simp only [Act.put, Z2, Z3, Z4]
 refine wpAnyH_ready (rs := [28]) (by kernel_rfl) (by simp) (AllReadyH.cons (o := ⟨some 69, _, _, _, _, _⟩) rfl (fun K hK => ?_) AllReadyH.nil)
 go_simp
 refine (HOF6.out X2 S2.out).mono ?_
 rintro e X3 ⟨rfl, hb3⟩
 have S3 := Lib.hid (S2.out.trans (hb3.mono S2.out.size))
 clear hb3
 refine hK.out _ _ S3.out (fun hS => ?_)
 clear hK K
 try simp only [Act.put, Z2, Z3, Z4]
 refine wpHv (i := 29) (oi := ⟨some 70, _, _, _, _, _⟩) (v := (.bool true)) rfl ?_ hS ?_; (focus (intro w9 hSw; exact exec_eql_at 23 _ _ _ rfl rfl rfl guardDig (HQX.out w9))); simp only [Act.put, Z2, Z3, Z4]
 refine wpHv (i := 30) (oi := ⟨some 71, _, _, _, _, _⟩) (v := ?_) rfl ?_ hS ?_; rotate_left; (focus (intro w9 hSw; go_simp; try with_reducible rfl)); simp only [Act.put, Z2, Z3, Z4]
 refine wpHv (i := 31) (oi := ⟨some 72, _, _, _, _, _⟩) (v := ?_) rfl ?_ hS ?_; rotate_left; (focus (intro w9 hSw; go_simp; try with_reducible rfl)); simp only [Act.put, Z2, Z3, Z4]
 refine wpHv (i := 32) (oi := ⟨some 73, _, _, _, _, _⟩) (v := ?_) rfl ?_ hS ?_; rotate_left; (focus (intro w9 hSw; go_simp; try with_reducible rfl)); simp only [Act.put, Z2, Z3, Z4]
 refine wpHv (i := 33) (oi := ⟨some 74, _, _, _, _, _⟩) (v := ?_) rfl ?_ hS ?_; rotate_left; (focus (intro w9 hSw; go_simp; try with_reducible rfl)); simp only [Act.put, Z2, Z3, Z4]
 refine wpHv (i := 34) (oi := ⟨some 75, _, _, _, _, _⟩) (v := ?_) rfl ?_ hS ?_; rotate_left; (focus (intro w9 hSw; go_simp; try with_reducible rfl)); simp only [Act.put, Z2, Z3, Z4]
 refine wpHv (i := 35) (oi := ⟨some 76, _, _, _, _, _⟩) (v := (.agg (bvals z7))) rfl ?_ hS ?_; (focus (intro w9 hSw; exact exec_load_at 30 _ rfl _ rfl (L9.out w9 hSw))); simp only [Act.put, Z2, Z3, Z4]
 refine wpHv (i := 36) (oi := ⟨some 77, _, _, _, _, _⟩) (v := ?_) rfl ?_ hS ?_; rotate_left; (focus (intro w9 hSw; have q0 := HB7.out w9; go_simp; try with_reducible rfl)); simp only [Act.put, Z2, Z3, Z4]
 refine wpHv (i := 37) (oi := ⟨some 78, _, _, _, _, _⟩) (v := (.bool true)) rfl ?_ hS ?_; (focus (intro w9 hSw; exact exec_eql_at 30 _ _ _ rfl rfl rfl guardIdM (HQI.out w9))); simp only [Act.put, Z2, Z3, Z4]
 refine wpHv (i := 38) (oi := ⟨some 79, _, _, _, _, _⟩) (v := ?_) rfl ?_ hS ?_; rotate_left; (focus (intro w9 hSw; go_simp; try with_reducible rfl)); simp only [Act.put, Z2, Z3, Z4]
 refine wpHv (i := 39) (oi := ⟨some 80, _, _, _, _, _⟩) (v := ?_) rfl ?_ hS ?_; rotate_left; (focus (intro w9 hSw; go_simp; try with_reducible rfl)); simp only [Act.put, Z2, Z3, Z4]
 refine wpHv (i := 40) (oi := ⟨some 81, _, _, _, _, _⟩) (v := ?_) rfl ?_ hS ?_; rotate_left; (focus (intro w9 hSw; go_simp; try with_reducible rfl)); simp only [Act.put, Z2, Z3, Z4]
 refine wpHv (i := 41) (oi := ⟨some 82, _, _, _, _, _⟩) (v := ?_) rfl ?_ hS ?_; rotate_left; (focus (intro w9 hSw; go_simp; try with_reducible rfl)); simp only [Act.put, Z2, Z3, Z4]
 refine wpHv (i := 42) (oi := ⟨some 83, _, _, _, _, _⟩) (v := ?_) rfl ?_ hS ?_; rotate_left; (focus (intro w9 hSw; go_simp; try with_reducible rfl)); simp only [Act.put, Z2, Z3, Z4]
 refine wpHv (i := 43) (oi := ⟨some 84, _, _, _, _, _⟩) (v := ?_) rfl ?_ hS ?_; rotate_left; (focus (intro w9 hSw; go_simp; try with_reducible rfl)); simp only [Act.put, Z2, Z3, Z4]
 refine wpHv (i := 44) (oi := ⟨some 85, _, _, _, _, _⟩) (v := (.agg EN5)) rfl ?_ hS ?_; (focus (intro w9 hSw; exact exec_load_at 26 _ rfl _ rfl (LN6.out w9 hSw))); simp only [Act.put, Z2, Z3, Z4]
 refine wpAnyH_ready (rs := [45]) (by kernel_rfl) (by simp) (AllReadyH.cons (o := ⟨some 86, _, _, _, _, _⟩) rfl (fun K hK => ?_) AllReadyH.nil)
 go_simp
 refine (HMY.out X3 S3.out).mono ?_
 rintro e X4 ⟨rfl, hb4⟩
 have S4 := Lib.hid (S3.out.trans (hb4.mono S3.out.size))
 clear hb4
 refine hK.out _ _ S4.out (fun hS => ?_)
 clear hK K
 try simp only [Act.put, Z2, Z3, Z4]
 refine wpHv (i := 46) (oi := ⟨some 87, _, _, _, _, _⟩) (v := ?_) rfl ?_ hS ?_; rotate_left; (focus (intro w9 hSw; go_simp; try with_reducible rfl)); simp only [Act.put, Z2, Z3, Z4]
 refine wpHv (i := 47) (oi := ⟨some 88, _, _, _, _, _⟩) (v := ?_) rfl ?_ hS ?_; rotate_left; (focus (intro w9 hSw; go_simp; try with_reducible rfl)); simp only [Act.put, Z2, Z3, Z4]
 refine wpHv (i := 48) (oi := ⟨some 89, _, _, _, _, _⟩) (v := (.agg EM1)) rfl ?_ hS ?_; (focus (intro w9 hSw; exact exec_load_at 26 _ rfl _ rfl (LM6.out w9 hSw))); simp only [Act.put, Z2, Z3, Z4]
 refine wpHv (i := 49) (oi := ⟨some 90, _, _, _, _, _⟩) (v := (.agg EN5)) rfl ?_ hS ?_; (focus (intro w9 hSw; exact exec_load_at 26 _ rfl _ rfl (LN6.out w9 hSw))); simp only [Act.put, Z2, Z3, Z4]
 refine wpAnyH_ready (rs := [50]) (by kernel_rfl) (by simp) (AllReadyH.cons (o := ⟨some 91, _, _, _, _, _⟩) rfl (fun K hK => ?_) AllReadyH.nil)
 go_simp
 refine (HSM.out X4 S4.out).mono ?_
 rintro e X5 ⟨rfl, hb5⟩
 have S5 := Lib.hid (S4.out.trans (hb5.mono S4.out.size))
 clear hb5
 refine hK.out _ _ S5.out (fun hS => ?_)
 clear hK K
 try simp only [Act.put, Z2, Z3, Z4]
 refine wpHv (i := 51) (oi := ⟨some 92, _, _, _, _, _⟩) (v := ?_) rfl ?_ hS ?_; rotate_left; (focus (intro w9 hSw; go_simp; try with_reducible rfl)); simp only [Act.put, Z2, Z3, Z4]
 refine wpHv (i := 52) (oi := ⟨some 93, _, _, _, _, _⟩) (v := ?_) rfl ?_ hS ?_; rotate_left; (focus (intro w9 hSw; go_simp; try with_reducible rfl)); simp only [Act.put, Z2, Z3, Z4]
 refine wpHv (i := 53) (oi := ⟨some 0, _, _, _, _, _⟩) (v := ?_) rfl ?_ hS ?_; rotate_left; (focus (intro w9 hSw; go_simp; try with_reducible rfl)); simp only [Act.put, Z2, Z3]
 refine wpAnyH_done (by kernel_rfl) ?_ _
 have BF := Lib.hid (BW5.out.trans (S5.out.mono BW5.out.size))
 go_wp2
 go_ret
 exact ⟨rfl, BF.out⟩
end
section
open Go.RowKit WM
set_option maxRecDepth 100000
theorem MnA.Ok.below {w w' : World} {B : Nat} {m : MnA} (h : MnA.Ok w m) (hb : Below B w w') (hB : w.heap.size ≤ B) : MnA.Ok w' m := MnA.below h (hb.mono hB)
def RowAt (T : TypeId) (w : World) (b : Nat) (E : Array Value) : Prop := w.heap[b]? = some (.cells E T)
section
variable {T : TypeId} {w w' : World} {b B : Nat} {E : Array Value}
theorem RowAt.lt (h : RowAt T w b E) : b < w.heap.size := (Array.getElem?_eq_some_iff.1 h).1
theorem RowAt.below (h : RowAt T w b E) (hb : Below B w w') (hB : b < B) : RowAt T w' b E := (hb.block b hB).trans h
theorem RowAt.new (w : World) (E : Array Value) (T : TypeId) : RowAt T (w.alloc (.cells E T)) w.heap.size E := heap_alloc_new w _
theorem RowAt.old (h : RowAt T w b E) (o : Obj) : RowAt T (w.alloc o) b E := h.below ((Below.refl w.heap.size w).alloc (Nat.le_refl _) o) h.lt
theorem RowAt.mn {m : MnA} (h : RowAt 26 w b m.cs.toArray) (hl : m.cs.length = 33) : (loadVar 26 ⟨b, 0, none⟩).run Tryz.prog w = .ok (.agg m.cs.toArray) w :=
 Kind.at_load (K := KMn) (x := m) (Kind.at_blk (K := KMn) (t := 26) h) hl Tryz.underlying26 rfl (by obtain ⟨i, hi, _, hs, _⟩ := info_parts infoMn; rw [hi]; exact congrArg some hs)
end
end
section
open Go.ChangeShapes Go.WideShapes Go.ChangeAt Go.RowKit Go.Deep WM
set_option maxRecDepth 40000
section
variable {H : Type} {enc : TypeId × Value → H} {W : World} {P : Program}
theorem open_rowK {α : Type} (K : Kind α) {ts te : TypeId} (ht : P.underlying ts = some (.slice te)) (hk : P.cellsOf te = K.n)
  (hel : ∀ {fuel : Nat} {l : List Value} {x : DataW H × List MemPlace}, l.length = K.n → DataW.trod enc P W 0 (fun _ => true) true fuel te l = some x → ∃ e : α, l = K.cs e ∧ K.ok W e)
  {fuel : Nat} {A : Option Addr} {len c : Nat} {x : DataW H × List MemPlace} (h : DataW.trod enc P W 0 (fun _ => true) true fuel ts [.slice A len c] = some x) : ∃ xs : List α, xs.length = len ∧ K.row W A c xs := by
 rcases open_slice ht h with ⟨hcs, _⟩ | ⟨ad, len', cap', m, n, D, Pl, hcs, _, hl, hm, hmm, _, hall⟩
 ·simp at hcs
  obtain ⟨rfl, rfl, rfl⟩ := hcs
  exact ⟨[], rfl, Kind.row_nil _ _ _ (by decide) (fun _ => rfl)⟩
 ·simp at hcs
  obtain ⟨rfl, rfl, rfl⟩ := hcs
  have key : ∀ i, ∃ e : α, i < len → K.ok W e ∧ ∀ j, j < K.n → W.cell? (ad.add (i * K.n + j)) = (K.cs e)[j]? := fun i => by
   by_cases hi : i < len
   ·obtain ⟨us, hc, hd⟩ := hall i (by rw [hmm]; simp; omega)
    rw [hk] at hc
    obtain ⟨_, hlen, hat⟩ := World.cells?_some hc
    obtain ⟨e, he, hok⟩ := hel hlen hd
    refine ⟨e, fun _ => ⟨hok, fun j hj => ?_⟩⟩
    have := hat j hj
    rw [add_add] at this
    rw [this, he]
   ·exact ⟨K.d, fun h => absurd h hi⟩
  obtain ⟨F, hF⟩ : ∃ F : Nat → α, ∀ i, i < len → K.ok W (F i) ∧ ∀ j, j < K.n → W.cell? (ad.add (i * K.n + j)) = (K.cs (F i))[j]? := ⟨fun i => (key i).choose, fun i hi => (key i).choose_spec hi⟩
  clear key
  have hln : ((List.range len).map F).length = len := by simp
  have hg : ∀ i, i < len → ((List.range len).map F).getD i K.d = F i := fun i hi => by simp [List.getD, hi]
  refine ⟨(List.range len).map F, hln, by rw [hln]; exact hl, hm, (fun h => by cases h), fun h0 => ?_, fun e he => ?_⟩
  ·rw [hln] at h0
   obtain ⟨b, off, spot⟩ := ad
   obtain ⟨h1, h2⟩ := hF 0 h0
   have h3 := h2 0 K.pos
   obtain ⟨u, hu⟩ : ∃ u, (K.cs (F 0))[0]? = some u := ⟨_, List.getElem?_eq_getElem (by rw [K.len h1]; exact K.pos)⟩
   rw [hu] at h3
   have hspot : spot = none := by simpa [Addr.add] using World.cell?_spot h3
   subst hspot
   have hlt : b < W.heap.size := by
    rcases Nat.lt_or_ge b W.heap.size with h4 | h4
    ·exact h4
    ·rw [Addr.add_lit, World.cell?] at h3
     rw [Array.getElem?_eq_none h4] at h3
     cases h3
   refine ⟨b, off, rfl, hlt, fun i hi j hj => ?_⟩
   rw [hln] at hi
   rw [hg i hi]
   have := (hF i hi).2 j hj
   rw [Addr.add_lit] at this
   rw [Nat.add_assoc]
   exact this
  ·obtain ⟨i, hi, rfl⟩ := List.mem_map.1 he
   exact (hF i (by simpa using hi)).1
theorem bytes_trod {base : Nat} {spare : Nat → Bool} {held : Bool} {t e : TypeId} {n : Nat} (ht : P.underlying t = some (.array n e)) (he : P.underlying e = some (.int .u8)) (ce : P.cellsOf e = 1) (ct : P.cellsOf t = n)
  {fuel : Nat} {cs : List Value} {x : DataW H × List MemPlace} (hf : DataW.trod enc P W base spare held fuel t cs = some x) : ∃ z : List Int, cs = z.map (Value.int .u8) ∧ z.length = n ∧ AllBytes z := by
 obtain ⟨ys, m, rfl, hx, hcl, hyl, hall⟩ := DataW.trod_array ht hf
 have hlen : cs.length = n := by rw [hcl, ct]
 have key : ∀ (i : Nat) (hi : i < cs.length), ∃ n : Int, cs[i] = .int .u8 n ∧ 0 ≤ n ∧ n ≤ 255 := fun i hi => by
  have h1 := hall i (by omega)
  rw [ce, Nat.mul_one, List.getElem?_eq_getElem (by omega)] at h1
  obtain ⟨n, hc, _, hw⟩ := DataW.trod_int he h1
  refine ⟨n, ?_, (bounds_u8 hw).1, (bounds_u8 hw).2⟩
  have h2 := congrArg (fun l => l[0]?) hc
  have h3 : cs[i]? = some (.int .u8 n) := by simpa [Value.cells, List.getElem?_take, List.getElem?_drop] using h2
  exact (List.getElem?_eq_some_iff.1 h3).2
 refine ⟨cs.map intOf, ?_, by rw [List.length_map, hlen], fun z hz => ?_⟩
 ·rw [List.map_map]
  apply List.ext_getElem
  ·simp
  ·intro i h1 h2
   obtain ⟨n, hn, _⟩ := key i h1
   simp only [List.getElem_map, Function.comp]
   rw [hn]
   rfl
 ·obtain ⟨v, hv, rfl⟩ := List.mem_map.1 hz
  obtain ⟨i, hi, rfl⟩ := List.getElem_of_mem hv
  obtain ⟨n, hn, h0, h1⟩ := key i hi
  rw [hn]
  exact ⟨h0, h1⟩
end
end
section
open Go.ChangeShapes Go.WideShapes Go.ChangeAt Go.RowKit Go.Deep WM
set_option maxRecDepth 40000
section
variable {H : Type} {enc : TypeId × Value → H} {W : World}
theorem sig_trod {base : Nat} {spare : Nat → Bool} {held : Bool} {fuel : Nat} {l : List Value} {x : DataW H × List MemPlace} (hl : l.length = 33) (hf : DataW.trod enc Tryz.prog W base spare held fuel 102 l = some x) :
  ∃ e : Sg, l = KSig.cs e ∧ KSig.ok W e := by
 have k1 : Tryz.prog.cellsOf 82 = 1 := by kernel_rfl
 have k32 : Tryz.prog.cellsOf 23 = 32 := by kernel_rfl
 obtain ⟨y0, y1, m, _, _, h0, h1⟩ := trod_struct2 Tryz.underlying102 hf
 dsimp only at h0 h1
 rw [k1, List.drop_zero] at h0
 rw [k32] at h1
 match l, hl with
 | c0 :: cs, hl =>
  have hcl : cs.length = 32 := by simpa using hl
  obtain ⟨n, e0, _, w0⟩ := DataW.trod_int Tryz.underlying82 h0
  simp at e0
  subst e0
  rw [List.drop_one, List.tail_cons, List.take_of_length_le (by omega)] at h1
  obtain ⟨z, rfl, hz, hb⟩ := bytes_trod Tryz.underlying23 Tryz.underlying5 (by kernel_rfl) k32 h1
  have hw : 0 ≤ n ∧ n ≤ 4294967295 := by
   simp [Lit.wf, IntKind.min, IntKind.max, IntKind.bits, IntKind.signed] at w0
   omega
  exact ⟨⟨n, z⟩, rfl, hw.1, hw.2, hz, hb⟩
end
end
section
section
open Go.ChangeShapes Go.WideShapes Go.ChangeAt Go.RowKit Go.Joins WM
set_option maxRecDepth 40000
end
section
open Go.ChangeShapes Go.WideShapes Go.ChangeAt Go.RowKit Go.Deep WM
set_option maxRecDepth 40000
end
section
open Go.ChangeShapes Go.WideShapes Go.ChangeAt Go.RowKit Go.Joins Go.Deep WM
section
variable {H : Type} {enc : TypeId × Value → H} {W : World} {base : Nat} {spare : Nat → Bool} {held : Bool}
theorem id_trod {fuel : Nat} {cs : List Value} {x : DataW H × List MemPlace} (hf : DataW.trod enc Tryz.prog W base spare held fuel 30 cs = some x) : ∃ z : List Int, cs = z.map (Value.int .u8) ∧ z.length = 16 ∧ AllBytes z := by
 have ce : Tryz.prog.cellsOf 5 = 1 := by kernel_rfl
 have ct : Tryz.prog.cellsOf 30 = 16 := by kernel_rfl
 obtain ⟨ys, m, rfl, hx, hcl, hyl, hall⟩ := DataW.trod_array Tryz.underlying30 hf
 have hlen : cs.length = 16 := by rw [hcl, ct]
 have key : ∀ (i : Nat) (hi : i < cs.length), ∃ n : Int, cs[i] = .int .u8 n ∧ 0 ≤ n ∧ n ≤ 255 := fun i hi => by
  have h1 := hall i (by omega)
  rw [ce, Nat.mul_one, List.getElem?_eq_getElem (by omega)] at h1
  obtain ⟨n, hc, _, hw⟩ := DataW.trod_int Tryz.underlying5 h1
  refine ⟨n, ?_, (bounds_u8 hw).1, (bounds_u8 hw).2⟩
  have h2 := congrArg (fun l => l[0]?) hc
  have h3 : cs[i]? = some (.int .u8 n) := by simpa [Value.cells, List.getElem?_take, List.getElem?_drop] using h2
  exact (List.getElem?_eq_some_iff.1 h3).2
 refine ⟨cs.map intOf, ?_, by rw [List.length_map, hlen], fun z hz => ?_⟩
 ·rw [List.map_map]
  apply List.ext_getElem
  ·simp
  ·intro i h1 h2
   obtain ⟨n, hn, _⟩ := key i h1
   simp only [List.getElem_map, Function.comp]
   rw [hn]
   rfl
 ·obtain ⟨v, hv, rfl⟩ := List.mem_map.1 hz
  obtain ⟨i, hi, rfl⟩ := List.getElem_of_mem hv
  obtain ⟨n, hn, h0, h1⟩ := key i hi
  rw [hn]
  exact ⟨h0, h1⟩
theorem st_trod {fuel : Nat} {c0 c1 : Value} {x : DataW H × List MemPlace} (hf : DataW.trod enc Tryz.prog W base spare held fuel 32 [c0, c1] = some x) :
  ∃ n r : Int, c0 = .int .i64 n ∧ c1 = .int .i64 r ∧ (Lit.int .i64 n).wf = true ∧ (Lit.int .i64 r).wf = true := by
 have k2 : Tryz.prog.cellsOf 3 = 1 := by kernel_rfl
 obtain ⟨z0, z1, m', _, _, g0, g1⟩ := trod_struct2 Tryz.underlying32 hf
 dsimp only at g0 g1
 rw [k2] at g0 g1
 obtain ⟨n0, e0, _, w0⟩ := DataW.trod_int Tryz.underlying3 g0
 obtain ⟨n1, e1, _, w1⟩ := DataW.trod_int Tryz.underlying3 g1
 simp at e0 e1
 subst e0 e1
 exact ⟨n0, n1, rfl, rfl, w0, w1⟩
end
end
section
open Go.ChangeShapes Go.WideShapes Go.ChangeAt Go.RowKit Go.Joins Go.Deep WM
set_option maxRecDepth 40000
end
end
end Go.Proofs.YtkjimhlpbgeagaaGreatDoor
