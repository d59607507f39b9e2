import Derived.Test.YtnlhkpmgbpfjmaaGreatDoorQc0
import Derived.Test.YtnlhkpmgbpfjmaaGreatDoorQc25
import Derived.Test.YtnlhkpmgbpfjmaaGreatDoorQc15
/-
  What the functions that a law of this layer reaches answer, part 26. Nothing that was there is written.
-/
namespace Go.Proofs.YtnlhkpmgbpfjmaaGreatDoor
set_option linter.unusedVariables false
set_option linter.unusedSimpArgs false
section
open Go.RowKit WM
set_option maxRecDepth 100000
set_option maxHeartbeats 8000000 in
theorem plineIn_any (m : MnA) (z : List Int) (w : World) (h : m.Ok w) (hz16 : z.length = 16 ∧ AllBytes z) : Calls Tryz.prog 60 #[m.v, .agg (bvals z)] w (LinePost w (lineA m.ls z)) := by
 have S0 := LineS.new w m z
 obtain ⟨w1, hw1⟩ : ∃ w1, w1 = ((w.alloc (.cells m.cs.toArray 29)).alloc (.cells (bvals z) 31)).alloc (.cells (KLn.cs lnA0).toArray 63) := ⟨_, rfl⟩
 rw [← hw1] at S0
 have h1 := MnA.below h (S0.below.mono (Nat.le_refl _))
 have HS := Lib.hid (fun X (hX : Below w1.heap.size w1 X) => S0.go hX)
 have HC := Lib.hid (fun X (hX : Below w1.heap.size w1 X) => (S0.go hX).a.c32 h1.1)
 have HI := Lib.hid (fun X (hX : Below w1.heap.size w1 X) => Kind.at_blk (S0.go hX).b)
 have HR := Lib.hid (fun h0 => ln_row h1.2.2 h0)
 have HOK := Lib.hid (fun k (hk : k < m.ls.length) => show LnA.Ok w1 (m.ls.getD k lnA0) from Kind.row_ok h1.2.2 hk)
 have HOKW := Lib.hid (fun k (hk : k < m.ls.length) => show LnA.Ok w (m.ls.getD k lnA0) from Kind.row_ok h.2.2 hk)
 have HZ := Lib.hid hz16
 have HB1 := Lib.hid S0.below
 have hnb : m.ls.length ≤ 9223372036854775807 := by
  have a1 := h1.2.2.1
  have a2 := h1.2.2.2.1
  simp only [maxLen] at a2
  omega
 have HV := Lib.hid (show lineA m.ls z = lineA (m.ls.drop 0) z by rw [List.drop_zero])
 have c1 := HC.out w1 (Below.refl _ _)
 have hv : m.v = .agg m.cs.toArray := rfl
 rw [hv]
 generalize lineA m.ls z = V at *
 generalize m.cs.toArray = E at *
 obtain ⟨base, A, c, ls⟩ := m
 dsimp only at *
 have HLS := Lib.hid (fun k (hk : k < ls.length) => lineA_step z hk)
 generalize hn : ls.length = n at *
 have HN := Lib.hid hn
 have hz := zeroLn
 rw [show KLn.v lnA0 = .agg (KLn.cs lnA0).toArray from rfl] at hz
 have HB0 := Lib.hid buildLn0
 have hzne : ¬ (KLn.cs lnA0).toArray = #[] := by decide
 have HZS := Lib.hid lnA0_size
 have SOZ := Lib.hid (ln_ones lnA0)
 clear h h1 S0 hv hn hz16
 subst hw1
 go_enter Tryz.func60, Tryz.ntmps60
 go_wp2
 clear c1
 generalize ((w.alloc (.cells E 29)).alloc (.cells (bvals z) 31)).alloc (.cells (KLn.cs lnA0).toArray 63) = w1 at *
 go_loopw [11] (fun i wr => ∃ k : Nat, k ≤ n ∧ i = .int .i64 k ∧ Below w1.heap.size w1 wr ∧ V = lineA (ls.drop k) z) (fun i _ => n - (intOf i).toNat)
 case atStart => exact ⟨0, Nat.zero_le _, rfl, Below.refl _ _, HV.out⟩
 case round =>
  obtain ⟨k, hk, rfl, hb, hf⟩ := hrel
  have HBB := Lib.hid hb
  by_cases hlt : k < n
  ·have t1 : (k : Int) < (n : Int) := by omega
   obtain ⟨b1, off1, hA1, hb1w, hx1, hi1⟩ := HR.out (by omega)
   have ix1 := hi1 k hlt k rfl
   rw [← hA1] at ix1
   have hok := LnA.below (HOK.out k hlt) (hb.mono (Nat.le_refl _))
   have LL := Lib.hid (load_ln (Kind.at_same (hx1 k hlt) (hb.block b1 hb1w)) hok)
   rw [HLS.out k hlt] at hf
   have HOW := Lib.hid (HOKW.out k hlt)
   generalize ls.getD k lnA0 = x at *
   rw [show KLn.v x = .agg (KLn.cs x).toArray from rfl] at LL
   have hba : Below wr.heap.size wr (wr.alloc (.cells (KLn.cs x).toArray 63)) := (Below.refl _ _).alloc (Nat.le_refl _) _
   have hxb := Kind.blk_new (K := KLn) wr x 63
   have BX := Lib.hid (hb.trans (hba.mono hb.size))
   have L7 := Lib.hid (load_ln (Kind.at_blk hxb) (LnA.below hok hba))
   rw [show KLn.v x = .agg (KLn.cs x).toArray from rfl] at L7
   have LZ := Lib.hid (load_idM (ln_id (Kind.at_blk hxb) hok.1) hok.1)
   have LI := Lib.hid (load_idM (HI.out _ BX.out) HZ.out.1)
   have HQ := Lib.hid (show ∀ X, (Op.equalIn 10000 31 (.agg (bvals x.z)) (.agg (bvals z))).run Tryz.prog X = .ok (decide (x.z = z)) X from fun X => by
    rw [eq_id hok.2.1 HZ.out.2 hok.1 HZ.out.1 X]; congr 1; rw [Bool.eq_iff_iff]; simp)
   have SZX := Lib.hid (ln_size hok)
   have SQX := Lib.hid (show (KLn.cs lnA0).toArray.size = (KLn.cs x).toArray.size by rw [lnA0_size, List.size_toArray]; exact (LnA.len hok).symm)
   have SOX := Lib.hid (ln_ones x)
   have NB := Lib.hid (HS.out _ BX.out).c
   have BB := Lib.hid (HS.out _ BX.out).below
   have XB := Lib.hid (show KLn.blk 63 ((wr.alloc (.cells (KLn.cs x).toArray 63)).setRow (w.heap.size + 1 + 1) (KLn.cs x).toArray) (w.heap.size + 1 + 1) x from setRow_heap _ _ _ _ _ _ NB.out)
   have B9 := Lib.hid (below_setRow BB.out (show w.heap.size ≤ w.heap.size + 1 + 1 by omega) (KLn.cs x).toArray)
   have OX2 := Lib.hid (show LnA.Ok ((wr.alloc (.cells (KLn.cs x).toArray 63)).setRow (w.heap.size + 1 + 1) (KLn.cs x).toArray) x from LnA.below HOW.out B9.out)
   unfold Kind.blk at NB
   clear hx1 hi1 hA1 hok hb hb1w hba hxb
   by_cases he : x.z = z
   ·rw [if_pos he] at hf
    rw [decide_eq_true he] at HQ
    have HF := Lib.hid hf
    clear hf he
    go_wp2_with (first | ((with_reducible refine wpList_load_at (o := ⟨some 14, .load 63 (.tmp 13), _, _, _, _⟩) ?e1 63 (.tmp 13) ?e2 ⟨b1, off1 + k * 19, none⟩ ?e3 _ LL.out ?_); (case e1 => rfl); (case e2 => rfl); (case e3 => rfl)) | ((with_reducible refine wpList_store_new (o := ⟨none, .store 63 (.tmp 7) (.tmp 14), _, _, _, _⟩) ?e1 63 (.tmp 7) (.tmp 14) ?e2 ?e3 (KLn.cs lnA0).toArray (KLn.cs x).toArray ?e4 SZX.out SQX.out SOX.out ?_); (case e1 => rfl); (case e2 => rfl); (case e3 => rfl); (case e4 => rfl)) | ((with_reducible refine wpList_load_at (o := ⟨some 16, .load 31 (.tmp 15), _, _, _, _⟩) ?e1 31 (.tmp 15) ?e2 ⟨wr.heap.size, 0, none⟩ ?e3 _ LZ.out ?_); (case e1 => rfl); (case e2 => rfl); (case e3 => rfl)) | ((with_reducible refine wpList_load_at (o := ⟨some 17, .load 31 (.tmp 3), _, _, _, _⟩) ?e1 31 (.tmp 3) ?e2 ⟨(w.heap.size + 1), 0, none⟩ ?e3 _ LI.out ?_); (case e1 => rfl); (case e2 => rfl); (case e3 => rfl)) | ((with_reducible refine wpList_eqlM (o := ⟨some 18, .binOp .eql 31 (.tmp 16) (.tmp 17) 31, _, _, _, _⟩) ?e1 31 (.tmp 16) (.tmp 17) 31 ?e2 ?e3 ?e4 guardIdM (HQ.out _) ?_); (case e1 => rfl); (case e2 => rfl); (case e3 => rfl); (case e4 => rfl)) | ((with_reducible refine wpList_load_at (o := ⟨some 19, .load 63 (.tmp 7), _, _, _, _⟩) ?e1 63 (.tmp 7) ?e2 ⟨wr.heap.size, 0, none⟩ ?e3 _ L7.out ?_); (case e1 => rfl); (case e2 => rfl); (case e3 => rfl)) | ((with_reducible refine wpList_store_row (o := ⟨none, .store 63 (.tmp 4) (.tmp 19), _, _, _, _⟩) ?e1 63 (.tmp 4) (.tmp 19) ?e2 (w.heap.size + 1 + 1) (KLn.cs x).toArray ?e3 ?e4 63 _ NB.out SZX.out SQX.out SOX.out ?_); (case e1 => rfl); (case e2 => rfl); (case e3 => rfl); (case e4 => rfl)))
    refine bodyPost_ret (v := .tuple #[KLn.v x, .bool true]) ?_ rfl ?_
    ·exact res_ln2 Tryz.results60 rfl XB.out OX2.out
    ·rw [HF.out]
     exact ⟨rfl, B9.out⟩
   ·rw [if_neg he] at hf
    rw [decide_eq_false he] at HQ
    have HF := Lib.hid hf
    clear hf he
    go_wp2_with (first | ((with_reducible refine wpList_load_at (o := ⟨some 14, .load 63 (.tmp 13), _, _, _, _⟩) ?e1 63 (.tmp 13) ?e2 ⟨b1, off1 + k * 19, none⟩ ?e3 _ LL.out ?_); (case e1 => rfl); (case e2 => rfl); (case e3 => rfl)) | ((with_reducible refine wpList_store_new (o := ⟨none, .store 63 (.tmp 7) (.tmp 14), _, _, _, _⟩) ?e1 63 (.tmp 7) (.tmp 14) ?e2 ?e3 (KLn.cs lnA0).toArray (KLn.cs x).toArray ?e4 SZX.out SQX.out SOX.out ?_); (case e1 => rfl); (case e2 => rfl); (case e3 => rfl); (case e4 => rfl)) | ((with_reducible refine wpList_load_at (o := ⟨some 16, .load 31 (.tmp 15), _, _, _, _⟩) ?e1 31 (.tmp 15) ?e2 ⟨wr.heap.size, 0, none⟩ ?e3 _ LZ.out ?_); (case e1 => rfl); (case e2 => rfl); (case e3 => rfl)) | ((with_reducible refine wpList_load_at (o := ⟨some 17, .load 31 (.tmp 3), _, _, _, _⟩) ?e1 31 (.tmp 3) ?e2 ⟨(w.heap.size + 1), 0, none⟩ ?e3 _ LI.out ?_); (case e1 => rfl); (case e2 => rfl); (case e3 => rfl)) | ((with_reducible refine wpList_eqlM (o := ⟨some 18, .binOp .eql 31 (.tmp 16) (.tmp 17) 31, _, _, _, _⟩) ?e1 31 (.tmp 16) (.tmp 17) 31 ?e2 ?e3 ?e4 guardIdM (HQ.out _) ?_); (case e1 => rfl); (case e2 => rfl); (case e3 => rfl); (case e4 => rfl)))
    go_roundw
    case rel => exact ⟨k + 1, by omega, by go_num, BX.out, HF.out⟩
    case measure => simp [intOf]; omega
  ·obtain rfl : k = n := by omega
   have t1 : ¬ (k : Int) < (k : Int) := by omega
   have HF := Lib.hid (show V = none by rw [hf, List.drop_eq_nil_of_le (by rw [HN.out]; exact Nat.le_refl _)]; rfl)
   have NB := Lib.hid (HS.out _ hb).c
   have BB := Lib.hid (HS.out _ hb).below
   have XB := Lib.hid (show KLn.blk 63 (wr.setRow (w.heap.size + 1 + 1) (KLn.cs lnA0).toArray) (w.heap.size + 1 + 1) lnA0 from setRow_heap _ _ _ _ _ _ NB.out)
   have B9 := Lib.hid (below_setRow BB.out (show w.heap.size ≤ w.heap.size + 1 + 1 by omega) (KLn.cs lnA0).toArray)
   have SZZ := Lib.hid (ln_size (lnA0_ok wr))
   unfold Kind.blk at NB
   clear hf hb
   go_wp2_with (first | ((with_reducible refine wpList_build_at (o := ⟨some 21, .build 63 #[], _, _, _, _⟩) ?e1 63 #[] ?e2 #[] ?e3 _ (HB0.out _) ?_); (case e1 => rfl); (case e2 => rfl); (case e3 => simp)) | ((with_reducible refine wpList_store_row (o := ⟨none, .store 63 (.tmp 4) (.tmp 21), _, _, _, _⟩) ?e1 63 (.tmp 4) (.tmp 21) ?e2 (w.heap.size + 1 + 1) (KLn.cs lnA0).toArray ?e3 ?e4 63 _ NB.out SZZ.out rfl SOZ.out ?_); (case e1 => rfl); (case e2 => rfl); (case e3 => rfl); (case e4 => rfl)))
   refine bodyPost_ret (v := .tuple #[KLn.v lnA0, .bool false]) ?_ rfl ?_
   ·exact res_ln2 Tryz.results60 rfl XB.out (lnA0_ok _)
   ·rw [HF.out]
    exact ⟨rfl, B9.out⟩
end
section
open Go.RowKit WM
set_option maxRecDepth 100000
def FindN (w : World) (V : Option EnA) (e : Ending) (w' : World) : Prop := ∃ y : EnA, e = .returned (.tuple #[KEn.v y, .bool V.isSome]) ∧ y.e = (V.getD enA0).e ∧ y.Ok w' ∧ Below w.heap.size w w'
set_option maxHeartbeats 8000000 in
theorem pfind12_any (m : MnA) (z : List Int) (no : Int) (w : World) (h : m.Ok w) (hz16 : z.length = 16 ∧ AllBytes z) (hbd : ∀ x ∈ m.ls, x.es.length ≤ 1000000 ∧ ∀ e ∈ x.es, e.e.bs.length ≤ 1000000) : Calls Tryz.prog 30 #[m.v, .agg (bvals z), .int .i64 no] w (FindN w (findA m.ls z no)) := by
 have S0 := FindS.new w m z
 obtain ⟨w1, hw1⟩ : ∃ w1, w1 = ((w.alloc (.cells m.cs.toArray 29)).alloc (.cells (bvals z) 31)).alloc (.cells (KEn.cs enA0).toArray 68) := ⟨_, rfl⟩
 rw [← hw1] at S0
 have h1 := MnA.below h (S0.below.mono (Nat.le_refl _))
 have HS := Lib.hid (fun X (hX : Below w1.heap.size w1 X) => S0.go hX)
 have HB1 := Lib.hid S0.below
 have LM := Lib.hid (load_mn S0.a h1)
 have LI := Lib.hid (load_idM (Kind.at_blk S0.b) hz16.1)
 have HLN := Lib.hid (plineIn_any m z w1 h1 hz16)
 unfold LinePost at HLN
 have OKX := Lib.hid (fun X (hX : Below w.heap.size w X) => show ((lineA m.ls z).getD lnA0).Ok X from lineA_ok (MnA.below h hX).2.2)
 have HXB : Hid (((lineA m.ls z).getD lnA0).es.length ≤ 1000000 ∧ ∀ e ∈ ((lineA m.ls z).getD lnA0).es, e.e.bs.length ≤ 1000000) := Lib.hid (by
  cases hl : lineA m.ls z with
  | none => exact ⟨Nat.zero_le _, fun e he => by cases he⟩
  | some x => exact hbd x (List.mem_of_find?_eq_some hl))
 have HV := Lib.hid (show findA m.ls z no = entA (((lineA m.ls z).getD lnA0).es.drop 0) no by rw [List.drop_zero]; rfl)
 have hv : m.v = .agg m.cs.toArray := rfl
 rw [hv] at LM HLN ⊢
 generalize findA m.ls z no = V at *
 generalize hx : (lineA m.ls z).getD lnA0 = x at *
 generalize (lineA m.ls z).isSome = sm at *
 have OKW := Lib.hid (OKX.out w (Below.refl _ _))
 rw [show KLn.v x = .agg (KLn.cs x).toArray from rfl] at HLN
 have hz := zeroEn
 rw [show KEn.v enA0 = .agg (KEn.cs enA0).toArray from rfl] at hz
 have hzl := zeroLn
 rw [show KLn.v lnA0 = .agg (KLn.cs lnA0).toArray from rfl] at hzl
 have HB0 := Lib.hid buildEn0
 have hzne : ¬ (KEn.cs enA0).toArray = #[] := by decide
 have hzne2 : ¬ (KLn.cs lnA0).toArray = #[] := by decide
 have SOZ := Lib.hid (en_ones enA0)
 have SZX := Lib.hid (ln_size OKW.out)
 have SQX := Lib.hid (show (KLn.cs lnA0).toArray.size = (KLn.cs x).toArray.size by rw [lnA0_size, List.size_toArray]; exact (LnA.len OKW.out).symm)
 have SOX := Lib.hid (ln_ones x)
 have HZ16X := Lib.hid OKW.out.1
 have HMb : x.es.length ≤ 9223372036854775807 := by have := HXB.out.1; omega
 generalize m.cs.toArray = E at *
 clear S0 h1 h hz16 hbd hv hx
 subst hw1
 go_enter Tryz.func30, Tryz.ntmps30
 go_wp2_with (first | ((with_reducible refine wpList_load_at (o := ⟨some 13, .load 29 (.tmp 3), _, _, _, _⟩) ?e1 29 (.tmp 3) ?e2 ⟨w.heap.size, 0, none⟩ ?e3 _ LM.out ?_); (case e1 => rfl); (case e2 => rfl); (case e3 => rfl)) | ((with_reducible refine wpList_load_at (o := ⟨some 14, .load 31 (.tmp 4), _, _, _, _⟩) ?e1 31 (.tmp 4) ?e2 ⟨(w.heap.size + 1), 0, none⟩ ?e3 _ LI.out ?_); (case e1 => rfl); (case e2 => rfl); (case e3 => rfl)))
 refine HLN.out.mono ?_
 rintro e w2 ⟨rfl, hb2⟩
 generalize ((w.alloc (.cells E 29)).alloc (.cells (bvals z) 31)).alloc (.cells (KEn.cs enA0).toArray 68) = w1 at *
 have hxb := Kind.blk_new (K := KLn) w2 x 63
 have hba : Below w2.heap.size w2 (w2.alloc (.cells (KLn.cs x).toArray 63)) := (Below.refl _ _).alloc (Nat.le_refl _) _
 have B3 := Lib.hid (hb2.trans (hba.mono hb2.size))
 have k18 := ln_c18 (Kind.at_blk hxb) HZ16X.out
 rw [Nat.zero_add] at k18
 have BW3 := Lib.hid (HB1.out.trans (B3.out.mono HB1.out.size))
 clear hb2 hxb hba
 go_wp2_with (first | ((with_reducible refine wpList_store_new (o := ⟨none, .store 63 (.tmp 8) (.tmp 16), _, _, _, _⟩) ?e1 63 (.tmp 8) (.tmp 16) ?e2 ?e3 (KLn.cs lnA0).toArray (KLn.cs x).toArray ?e4 SZX.out SQX.out SOX.out ?_); (case e1 => rfl); (case e2 => rfl); (case e3 => rfl); (case e4 => rfl)))
 generalize w2.alloc (.cells (KLn.cs x).toArray 63) = w3 at *
 clear k18 hzl hzne2
 have OKX3 := Lib.hid (OKX.out w3 BW3.out)
 have HR := Lib.hid (fun h0 => en_row OKX3.out.2.2.2.2 h0)
 have HEO := Lib.hid (fun j (hj : j < x.es.length) => show EnA.Ok w3 (x.es.getD j enA0) from Kind.row_ok OKX3.out.2.2.2.2 hj)
 have HBD := Lib.hid (fun k (hk : k < x.es.length) => HXB.out.2 (x.es.getD k enA0) (by rw [List.getD_eq_getElem?_getD, List.getElem?_eq_getElem hk]; exact List.getElem_mem _))
 have HES := Lib.hid (fun k (hk : k < x.es.length) => entA_step no hk)
 obtain ⟨lz, ln, lr, A, c, es⟩ := x
 dsimp only at *
 generalize hn : es.length = n at *
 have HN := Lib.hid hn
 clear hn
 go_loopw [21] (fun i wr => ∃ k : Nat, k ≤ n ∧ i = .int .i64 k ∧ Below w3.heap.size w3 wr ∧ V = entA (es.drop k) no) (fun i _ => n - (intOf i).toNat)
 case atStart => exact ⟨0, Nat.zero_le _, rfl, Below.refl _ _, HV.out⟩
 case round =>
  obtain ⟨k, hk, rfl, hb, hf⟩ := hrel
  by_cases hlt : k < n
  ·have t1 : (k : Int) < (n : Int) := by omega
   obtain ⟨b1, off1, hA1, hb1w, hx1, hi1⟩ := HR.out (by omega)
   have ix1 := hi1 k hlt k rfl
   rw [← hA1] at ix1
   have hok := EnA.below (HEO.out k hlt) (hb.mono (Nat.le_refl _))
   have LL := Lib.hid (load_en (Kind.at_same (hx1 k hlt) (hb.block b1 hb1w)) hok)
   rw [HES.out k hlt] at hf
   have HYB := Lib.hid (HBD.out k hlt)
   generalize es.getD k enA0 = y at *
   rw [show KEn.v y = .agg (KEn.cs y).toArray from rfl] at LL
   have hba : Below wr.heap.size wr (wr.alloc (.cells (KEn.cs y).toArray 68)) := (Below.refl _ _).alloc (Nat.le_refl _) _
   have hxb := Kind.blk_new (K := KEn) wr y 68
   have BX := Lib.hid (hb.trans (hba.mono hb.size))
   have B1 := Lib.hid (B3.out.trans (BX.out.mono B3.out.size))
   have hok2 := EnA.below hok hba
   have L7 := Lib.hid (load_en (Kind.at_blk hxb) hok2)
   have HOW := Lib.hid (ownE_any y _ hok2 HYB.out)
   unfold OwnE at HOW
   rw [show KEn.v y = .agg (KEn.cs y).toArray from rfl] at L7 HOW
   have c0 := en_c0 (Kind.at_blk hxb)
   have SZY := Lib.hid (en_size hok)
   have SQY := Lib.hid (show (KEn.cs enA0).toArray.size = (KEn.cs y).toArray.size by rw [enA0_size, List.size_toArray]; exact (EnA.len hok).symm)
   have SOY := Lib.hid (en_ones y)
   clear hx1 hi1 hA1 hok hb hb1w hba hxb hok2
   by_cases he : y.e.no = no
   ·rw [if_pos he] at hf
    have HF := Lib.hid hf
    clear hf
    go_wp2_with (first | ((with_reducible refine wpList_load_at (o := ⟨some 24, .load 68 (.tmp 23), _, _, _, _⟩) ?e1 68 (.tmp 23) ?e2 ⟨b1, off1 + k * 37, none⟩ ?e3 _ LL.out ?_); (case e1 => rfl); (case e2 => rfl); (case e3 => rfl)) | ((with_reducible refine wpList_store_new (o := ⟨none, .store 68 (.tmp 11) (.tmp 24), _, _, _, _⟩) ?e1 68 (.tmp 11) (.tmp 24) ?e2 ?e3 (KEn.cs enA0).toArray (KEn.cs y).toArray ?e4 SZY.out SQY.out SOY.out ?_); (case e1 => rfl); (case e2 => rfl); (case e3 => rfl); (case e4 => rfl)) | ((with_reducible refine wpList_load_at (o := ⟨some 29, .load 68 (.tmp 11), _, _, _, _⟩) ?e1 68 (.tmp 11) ?e2 ⟨wr.heap.size, 0, none⟩ ?e3 _ L7.out ?_); (case e1 => rfl); (case e2 => rfl); (case e3 => rfl)))
    refine HOW.out.mono ?_
    rintro e w5 ⟨q, rfl, hqe, hqo, hqt, hb5⟩
    have B5 := Lib.hid (B1.out.trans (hb5.mono B1.out.size))
    have NB := Lib.hid (HS.out w5 B5.out).c
    have BB := Lib.hid (HS.out w5 B5.out).below
    have GS := grownBy_setRow w5 (w.heap.size + 1 + 1) (KEn.cs q).toArray
    have KX := Lib.hid (EnA.kept hqo hqt GS (NoT.of NB.out (by decide)))
    have XB := Lib.hid (show KEn.blk 68 (w5.setRow (w.heap.size + 1 + 1) (KEn.cs q).toArray) (w.heap.size + 1 + 1) q from setRow_heap _ _ _ _ _ _ NB.out)
    have B9 := Lib.hid (below_setRow BB.out (show w.heap.size ≤ w.heap.size + 1 + 1 by omega) (KEn.cs q).toArray)
    have HQE := Lib.hid hqe
    have SZQ := Lib.hid (en_size hqo)
    have SQQ := Lib.hid (show (KEn.cs enA0).toArray.size = (KEn.cs q).toArray.size by rw [enA0_size, List.size_toArray]; exact (EnA.len hqo).symm)
    have SOQ := Lib.hid (en_ones q)
    rw [show KEn.v q = .agg (KEn.cs q).toArray from rfl]
    unfold Kind.blk at NB
    clear hb5 GS hqe hqo hqt he c0 ix1
    go_wp2_with (first | ((with_reducible refine wpList_store_row (o := ⟨none, .store 68 (.tmp 6) (.tmp 30), _, _, _, _⟩) ?e1 68 (.tmp 6) (.tmp 30) ?e2 (w.heap.size + 1 + 1) (KEn.cs q).toArray ?e3 ?e4 68 _ NB.out SZQ.out SQQ.out SOQ.out ?_); (case e1 => rfl); (case e2 => rfl); (case e3 => rfl); (case e4 => rfl)))
    refine bodyPost_ret (v := .tuple #[KEn.v q, .bool true]) ?_ rfl ?_
    ·exact res_en2 Tryz.results30 rfl XB.out KX.out.1
    ·rw [HF.out]
     exact ⟨q, rfl, HQE.out, KX.out.1, B9.out⟩
   ·rw [if_neg he] at hf
    have HF := Lib.hid hf
    clear hf
    go_wp2_with (first | ((with_reducible refine wpList_load_at (o := ⟨some 24, .load 68 (.tmp 23), _, _, _, _⟩) ?e1 68 (.tmp 23) ?e2 ⟨b1, off1 + k * 37, none⟩ ?e3 _ LL.out ?_); (case e1 => rfl); (case e2 => rfl); (case e3 => rfl)) | ((with_reducible refine wpList_store_new (o := ⟨none, .store 68 (.tmp 11) (.tmp 24), _, _, _, _⟩) ?e1 68 (.tmp 11) (.tmp 24) ?e2 ?e3 (KEn.cs enA0).toArray (KEn.cs y).toArray ?e4 SZY.out SQY.out SOY.out ?_); (case e1 => rfl); (case e2 => rfl); (case e3 => rfl); (case e4 => rfl)))
    go_roundw
    case rel => exact ⟨k + 1, by omega, by go_num, BX.out, HF.out⟩
    case measure => simp [intOf]; omega
  ·obtain rfl : k = n := by omega
   have t1 : ¬ (k : Int) < (k : Int) := by omega
   have HF := Lib.hid (show V = none by rw [hf, List.drop_eq_nil_of_le (by rw [HN.out]; exact Nat.le_refl _)]; rfl)
   have B5 := Lib.hid (B3.out.trans (hb.mono B3.out.size))
   have NB := Lib.hid (HS.out wr B5.out).c
   have BB := Lib.hid (HS.out wr B5.out).below
   have XB := Lib.hid (show KEn.blk 68 (wr.setRow (w.heap.size + 1 + 1) (KEn.cs enA0).toArray) (w.heap.size + 1 + 1) enA0 from setRow_heap _ _ _ _ _ _ NB.out)
   have B9 := Lib.hid (below_setRow BB.out (show w.heap.size ≤ w.heap.size + 1 + 1 by omega) (KEn.cs enA0).toArray)
   have SZZ := Lib.hid (en_size (enA0_ok wr))
   unfold Kind.blk at NB
   clear hf hb
   go_wp2_with (first | ((with_reducible refine wpList_build_at (o := ⟨some 32, .build 68 #[], _, _, _, _⟩) ?e1 68 #[] ?e2 #[] ?e3 _ (HB0.out _) ?_); (case e1 => rfl); (case e2 => rfl); (case e3 => simp)) | ((with_reducible refine wpList_store_row (o := ⟨none, .store 68 (.tmp 6) (.tmp 32), _, _, _, _⟩) ?e1 68 (.tmp 6) (.tmp 32) ?e2 (w.heap.size + 1 + 1) (KEn.cs enA0).toArray ?e3 ?e4 68 _ NB.out SZZ.out rfl SOZ.out ?_); (case e1 => rfl); (case e2 => rfl); (case e3 => rfl); (case e4 => rfl)))
   refine bodyPost_ret (v := .tuple #[KEn.v enA0, .bool false]) ?_ rfl ?_
   ·exact res_en2 Tryz.results30 rfl XB.out (enA0_ok _)
   ·rw [HF.out]
    exact ⟨enA0, rfl, rfl, enA0_ok _, B9.out⟩
end
end Go.Proofs.YtnlhkpmgbpfjmaaGreatDoor
