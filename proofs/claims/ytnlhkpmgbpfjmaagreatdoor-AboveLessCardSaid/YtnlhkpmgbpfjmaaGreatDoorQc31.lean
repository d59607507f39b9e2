import Derived.Test.YtnlhkpmgbpfjmaaGreatDoorQc0
import Derived.Test.YtnlhkpmgbpfjmaaGreatDoorQc17
import Derived.Test.YtnlhkpmgbpfjmaaGreatDoorQc30
import Derived.Test.YtnlhkpmgbpfjmaaGreatDoorQc16
/-
  What the functions that a law of this layer reaches answer, part 31. Nothing that was there is written.
-/
namespace Go.Proofs.YtnlhkpmgbpfjmaaGreatDoor
set_option linter.unusedVariables false
set_option linter.unusedSimpArgs false
section
open Go.RowKit WM
set_option maxRecDepth 100000
set_option maxHeartbeats 16000000 in
theorem partOfN (x : RcA) (m : MnA) (w : World) (hlaid : Laid w) (hx : RvAt w x) (hm : m.Ok w) (hbd : ∀ x ∈ m.ls, x.es.length ≤ 1000000 ∧ ∀ e ∈ x.es, e.e.bs.length ≤ 1000000) (hsz : ∀ k, k < x.R.fs.length → (x.R.fs.getD k fld0).c.s.size ≤ 100000000) (hxl : x.R.fs.length ≤ 1000) (hl : pless x.R m.m = false) :
  Calls Tryz.prog 76 #[.agg x.cells, m.v] w (PartPost w (ppart m.m x.R)) := by
 unfold PartPost
 have HLA := Lib.hid (fun (X : World) (hX : Below w.heap.size w X) => hlaid.below hX (Nat.le_refl _))
 have HX := Lib.hid hx
 have HM := Lib.hid hm
 have HBD := Lib.hid hbd
 have HSZ := Lib.hid hsz
 have HZ := Lib.hid hx.1
 have HZL := Lib.hid hx.1.1
 have ZX : Hid ((⟨⟨x.R.z, 0, 0, []⟩, none, 0⟩ : RcA).R.z.length = 16) := Lib.hid hx.1.1
 have HBI := Lib.hid (build_z1 hx.1.1)
 have HMV : Hid (m.v = .agg m.cs.toArray) := Lib.hid rfl
 have HFN := Lib.hid (fun k (hk : k < x.R.fs.length) => filt_take (p := fun f => exc f.c m.m x.R.z f.no) hk)
 have HF0 := Lib.hid (show (x.R.fs.take 0).filter (fun f => exc f.c m.m x.R.z f.no) = [] by simp)
 have HFE := Lib.hid (show (x.R.fs.take x.R.fs.length).filter (fun f => exc f.c m.m x.R.z f.no) = pfs x.R m.m by rw [List.take_length]; rfl)
 have HFL := Lib.hid (fun k => show ((x.R.fs.take k).filter (fun f => exc f.c m.m x.R.z f.no)).length ≤ k from Nat.le_trans (List.length_filter_le _ _) (List.length_take_le _ _))
 obtain ⟨dn, hdn⟩ : ∃ dn, dn = ((lineA m.ls x.R.z).getD lnA0).x.n := ⟨_, rfl⟩
 obtain ⟨dr, hdr⟩ : ∃ dr, dr = ((lineA m.ls x.R.z).getD lnA0).x.r := ⟨_, rfl⟩
 have HPL := Lib.hid (show pless x.R m.m = stLess dn dr x.R.n x.R.r by unfold pless; rw [ldead_A, hdn, hdr])
 have HLV := Lib.hid (show stLess dn dr x.R.n x.R.r = false from by rw [← HPL.out]; exact hl)
 have HPV := Lib.hid hl
 have HDN := Lib.hid hdn.symm
 have HDR := Lib.hid hdr.symm
 have HROW := Lib.hid (FsAt.kfl hx.2)
 have hc1 := hx.2.1
 have hc2 := hx.2.2.1
 simp only [maxLen] at hc2
 have HN1 := Lib.hid (show x.R.fs.length ≤ 1000 from hxl)
 generalize hFF : (fun k => (x.R.fs.take k).filter (fun f => exc f.c m.m x.R.z f.no)) = FF at *
 have HFN := Lib.hid (fun k (hk : k < x.R.fs.length) => show FF (k + 1) = FF k ++ (if exc (x.R.fs.getD k fld0).c m.m x.R.z (x.R.fs.getD k fld0).no = true then [x.R.fs.getD k fld0] else []) from by rw [← hFF]; exact HFN.out k hk)
 have HF0 := Lib.hid (show FF 0 = [] from by rw [← hFF]; exact HF0.out)
 have HFE := Lib.hid (show FF x.R.fs.length = pfs x.R m.m from by rw [← hFF]; exact HFE.out)
 have HFL := Lib.hid (fun k => show (FF k).length ≤ k from by rw [← hFF]; exact HFL.out k)
 have X0 := Lib.hid (((XAt.new w hx.1.1).old (.cells m.cs.toArray 29)).old (.cells rcA0.cells 36))
 have M0 := Lib.hid (show MnAt (((w.alloc (.cells x.cells 36)).alloc (.cells m.cs.toArray 29)).alloc (.cells rcA0.cells 36)) (w.heap.size + 1) m from by have h1 := MnAt.new (w.alloc (.cells x.cells 36)) m; rw [World.size_alloc] at h1; exact h1.below ((Below.refl _ _).alloc (Nat.le_refl _) (.cells rcA0.cells 36)) h1.lt)
 have Z0 := Lib.hid (show XAt (((w.alloc (.cells x.cells 36)).alloc (.cells m.cs.toArray 29)).alloc (.cells rcA0.cells 36)) (w.heap.size + 1 + 1) rcA0 from by have h1 := XAt.new (x := rcA0) ((w.alloc (.cells x.cells 36)).alloc (.cells m.cs.toArray 29)) z16_len; rw [World.size_alloc, World.size_alloc] at h1; exact h1)
 have B0 := Lib.hid (show Below w.heap.size w (((w.alloc (.cells x.cells 36)).alloc (.cells m.cs.toArray 29)).alloc (.cells rcA0.cells 36)) from (((Below.refl _ _).alloc (Nat.le_refl _) _).alloc (by simp) _).alloc (by simp; omega) _)
 have L11 := Lib.hid X0.out.load_id
 have hzr : ∀ w : World, (zeroValue 36).run Tryz.prog w = .ok (.agg rcA0.cells) w := zeroRec
 have hzl := zeroLn
 rw [show KLn.v lnA0 = .agg (KLn.cs lnA0).toArray from rfl] at hzl
 have hzf := zeroFldK
 rw [show KFl.v fld0 = .agg (KFl.cs fld0).toArray from rfl] at hzf
 have hzne2 : ¬ (KLn.cs lnA0).toArray = #[] := by decide
 have hzne3 : ¬ (KFl.cs fld0).toArray = #[] := by decide
 clear hlaid hx hm hbd hsz hl hdn hdr hFF hxl
 rw [HMV.out]
 go_enter Tryz.func76, Tryz.ntmps76
 go_wp2_with (first | ((with_reducible refine wpList_load_by (o := ⟨some 11, .load 31 (.tmp 10), _, _, _, _⟩) ?e1 31 (.tmp 10) ?e2 ⟨w.heap.size, 0, none⟩ ?e3 _ L11.out ?_); (case e1 => rfl); (case e2 => rfl); (case e3 => rfl)) | ((with_reducible refine wpList_build_by (o := ⟨some 12, .build 36 #[(0, .tmp 11)], _, _, _, _⟩) ?e1 36 #[(0, .tmp 11)] ?e2 #[(0, .agg (bvals x.R.z))] ?e3 _ (HBI.out _) ?_); (case e1 => rfl); (case e2 => rfl); (case e3 => (simp only [List.map_toArray, List.map_cons, List.map_nil]; rfl))) | ((with_reducible refine wpList_store_newx (o := ⟨none, .store 36 (.tmp 5) (.tmp 12), _, _, _, _⟩) (w := (((w.alloc (.cells x.cells 36)).alloc (.cells m.cs.toArray 29)).alloc (.cells rcA0.cells 36))) ?e1 (.tmp 5) (.tmp 12) ?e2 (w.heap.size + 1 + 1 + 1) ?e0 ?e3 (⟨⟨x.R.z, 0, 0, []⟩, none, 0⟩ : RcA) ?e4 ZX.out ?_); (case e1 => rfl); (case e2 => rfl); (case e0 => simp); (case e3 => rfl); (case e4 => rfl); intro w1 hb2 hx2 hs2; have X1 := Lib.hid (X0.out.below hb2 X0.out.lt); have M1 := Lib.hid (M0.out.below hb2 M0.out.lt); have Z1 := Lib.hid (Z0.out.below hb2 Z0.out.lt); have B1 := Lib.hid (B0.out.trans (hb2.mono B0.out.size)); clear hb2; have P1 := Lib.hid hx2; clear hx2 hs2; have LM1 := Lib.hid (load_mn M1.out (MnA.below HM.out (B1.out.mono (Nat.le_refl _)))); rw [HMV.out] at LM1; have LI1 := Lib.hid X1.out.load_id; have CL := Lib.hid (pline12_any m x.R.z w1 (MnA.below HM.out (B1.out.mono (Nat.le_refl _))) HZ.out HBD.out); unfold LineN at CL; rw [HMV.out] at CL) | ((with_reducible refine wpList_load_at (o := ⟨some 14, .load 29 (.tmp 3), _, _, _, _⟩) ?e1 29 (.tmp 3) ?e2 ⟨(w.heap.size + 1), 0, none⟩ ?e3 _ LM1.out ?_); (case e1 => rfl); (case e2 => rfl); (case e3 => rfl)) | ((with_reducible refine wpList_load_by (o := ⟨some 16, .load 31 (.tmp 15), _, _, _, _⟩) ?e1 31 (.tmp 15) ?e2 ⟨w.heap.size, 0, none⟩ ?e3 _ LI1.out ?_); (case e1 => rfl); (case e2 => rfl); (case e3 => rfl)))
 refine CL.out.mono ?_
 rintro e w2 ⟨l, rfl, hle, hlo, hb⟩
 have X2 := Lib.hid (X1.out.below hb X1.out.lt); have M2 := Lib.hid (M1.out.below hb M1.out.lt); have Z2 := Lib.hid (Z1.out.below hb Z1.out.lt); have P2 := Lib.hid (P1.out.below hb P1.out.lt); have B2 := Lib.hid (B1.out.trans (hb.mono B1.out.size)); clear hb
 have GN := Lib.hid (show l.n = dn from (congrArg Ln.n hle).trans HDN.out)
 have GR := Lib.hid (show l.r = dr from (congrArg Ln.r hle).trans HDR.out)
 have SZL := Lib.hid (ln_size hlo)
 have SQL := Lib.hid (show (KLn.cs lnA0).toArray.size = (KLn.cs l).toArray.size by rw [lnA0_size, List.size_toArray]; exact (LnA.len hlo).symm)
 have SOL := Lib.hid (ln_ones l)
 have ca16 := ln_c16 (Kind.at_blk (Kind.blk_new (K := KLn) w2 l 63)) hlo.1
 have ca17 := ln_c17 (Kind.at_blk (Kind.blk_new (K := KLn) w2 l 63)) hlo.1
 rw [Nat.zero_add, GN.out] at ca16
 rw [Nat.zero_add, GR.out] at ca17
 have hb3 : Below w2.heap.size w2 (w2.alloc (.cells (KLn.cs l).toArray 63)) := (Below.refl _ _).alloc (Nat.le_refl _) _
 have X3 := Lib.hid (X2.out.below hb3 X2.out.lt); have M3 := Lib.hid (M2.out.below hb3 M2.out.lt); have Z3 := Lib.hid (Z2.out.below hb3 Z2.out.lt); have P3 := Lib.hid (P2.out.below hb3 P2.out.lt); have B3 := Lib.hid (B2.out.trans (hb3.mono B2.out.size)); clear hb3
 have cb16 := X3.out.c16
 have cb17 := X3.out.c17
 have CS := Lib.hid (stLess_any dn dr x.R.n x.R.r (w2.alloc (.cells (KLn.cs l).toArray 63)))
 unfold st at CS
 rw [HLV.out] at CS
 clear hle hlo
 go_wp2_with (first | ((with_reducible refine wpList_store_new (o := ⟨none, .store 63 (.tmp 6) (.tmp 18), _, _, _, _⟩) ?e1 63 (.tmp 6) (.tmp 18) ?e2 ?e3 (KLn.cs lnA0).toArray (KLn.cs l).toArray ?e4 SZL.out SQL.out SOL.out ?_); (case e1 => rfl); (case e2 => rfl); (case e3 => rfl); (case e4 => rfl)))
 refine CS.out.mono ?_
 rintro e w4 ⟨rfl, hb⟩
 clear ca16 ca17 cb16 cb17
 have X4 := Lib.hid (X3.out.below hb X3.out.lt); have M4 := Lib.hid (M3.out.below hb M3.out.lt); have Z4 := Lib.hid (Z3.out.below hb Z3.out.lt); have P4 := Lib.hid (P3.out.below hb P3.out.lt); have B4 := Lib.hid (B3.out.trans (hb.mono B3.out.size)); clear hb
 have cb18 := X4.out.c18
 have J0 := Lib.hid (show PS w x m (w.heap.size + 1 + 1 + 1) x.R.z 0 0 (.slice none 0 0) (FF 0) w4 from by rw [HF0.out]; exact ⟨B4.out, X4.out, M4.out, Z4.out, XAt.rj P4.out (Nat.lt_succ_self _) P4.out.lt, by omega⟩)
 have HPP := Lib.hid (show PPok x.R m.m 0 0 from .inr ⟨HPV.out, rfl, rfl⟩)
 go_wp2
 clear cb18
 have HNL : Hid (x.R.fs.length = x.R.fs.length) := Lib.hid rfl
 generalize hn : x.R.fs.length = n at *
 have HNN := Lib.hid hn
 clear hn HNL
 generalize hp : (w.heap.size + 1 + 1 + 1) = p at *
 have HPEQ := Lib.hid hp
 clear hp
 go_loopw [31] (fun i wr => ∃ (k : Nat) (v : Value), k ≤ n ∧ i = .int .i64 k ∧ PS w x m p x.R.z 0 0 v (FF k) wr) (fun i _ => n - (intOf i).toNat)
 case atStart => exact ⟨0, _, Nat.zero_le _, rfl, J0.out⟩
 case round =>
  obtain ⟨k, v, hk, rfl, hJ⟩ := hrel
  have J := Lib.hid hJ
  have HK := Lib.hid hk
  clear hJ
  by_cases hlt : k < n
  ·have t1 : (k : Int) < (n : Int) := by omega
   obtain ⟨b0, off, hA, hb0, hcc⟩ := HROW.out.2.2.2.1 (by rw [HNN.out]; omega)
   have hat := hcc k (by rw [HNN.out]; exact hlt)
   have ix := ix_fld b0 off n x.c k hlt k rfl
   rw [← hA] at ix
   have HSK := Lib.hid (HSZ.out k hlt)
   have HFK := Lib.hid (HFN.out k hlt)
   have HFK2 := Lib.hid (HFL.out k)
   rw [show KFl.d = fld0 from rfl] at hat
   generalize x.R.fs.getD k fld0 = f at *
   have hat2 := Kind.at_same hat (J.out.b.block b0 hb0)
   have LF := Lib.hid (show (loadVar 59 ⟨b0, off + k * 4, none⟩).run Tryz.prog wr = .ok (.agg (KFl.cs f).toArray) wr from load_flP hat2)
   have SZF := Lib.hid (show (Tryz.prog.info? 59).map (·.size) = some (KFl.cs f).toArray.size by rw [show (KFl.cs f).toArray.size = 4 from rfl]; obtain ⟨i, hi, _, hs, _⟩ := info_parts infoFldK; rw [hi]; exact congrArg some hs)
   have SQF := Lib.hid (show (KFl.cs fld0).toArray.size = (KFl.cs f).toArray.size from rfl)
   have SOF := Lib.hid (show (KFl.cs f).toArray.all (·.oneCell') = true by rw [Array.all_eq_true_iff_forall_mem]; exact fun u hu => KFl.one f u (by simpa using hu))
   have FB := Lib.hid (Kind.blk_new (K := KFl) wr f 59)
   have hb6 : Below wr.heap.size wr (wr.alloc (.cells (KFl.cs f).toArray 59)) := (Below.refl _ _).alloc (Nat.le_refl _) _
   have J1 := Lib.hid (J.out.below hb6)
   have LC := Lib.hid (load_fcell (Kind.at_blk FB.out))
   have c0 := fl_no (Kind.at_blk FB.out)
   have LMK := Lib.hid (load_mn J1.out.m1 (MnA.below HM.out (J1.out.b.mono (Nat.le_refl _))))
   rw [HMV.out] at LMK
   have LIK := Lib.hid J1.out.x1.load_id
   have CE := Lib.hid (pexc14_any f.c m x.R.z f.no (wr.alloc (.cells (KFl.cs f).toArray 59)) (HLA.out _ J1.out.b) (MnA.below HM.out (J1.out.b.mono (Nat.le_refl _))) HZ.out HSK.out HBD.out)
   rw [HMV.out] at CE
   unfold Cel.v at CE
   clear hat hat2 hcc hA hb6
   cases hv : exc f.c m.m x.R.z f.no
   all_goals
    rw [hv] at CE HFK
    clear hv
    generalize hEF : (KFl.cs f).toArray = EF at *
    go_wp2_with (first | ((with_reducible refine wpList_load_at (o := ⟨some 34, .load 59 (.tmp 33), _, _, _, _⟩) ?e1 59 (.tmp 33) ?e2 ⟨b0, (off + k * 4), none⟩ ?e3 _ LF.out ?_); (case e1 => rfl); (case e2 => rfl); (case e3 => rfl)) | ((with_reducible refine wpList_store_new (o := ⟨none, .store 59 (.tmp 9) (.tmp 34), _, _, _, _⟩) ?e1 59 (.tmp 9) (.tmp 34) ?e2 ?e3 (KFl.cs fld0).toArray EF ?e4 SZF.out SQF.out SOF.out ?_); (case e1 => rfl); (case e2 => rfl); (case e3 => rfl); (case e4 => rfl)) | ((with_reducible refine wpList_load_at (o := ⟨some 36, .load 38 (.tmp 35), _, _, _, _⟩) ?e1 38 (.tmp 35) ?e2 ⟨wr.heap.size, (0 + 1), none⟩ ?e3 _ LC.out ?_); (case e1 => rfl); (case e2 => rfl); (case e3 => rfl)) | ((with_reducible refine wpList_load_at (o := ⟨some 37, .load 29 (.tmp 3), _, _, _, _⟩) ?e1 29 (.tmp 3) ?e2 ⟨(w.heap.size + 1), 0, none⟩ ?e3 _ LMK.out ?_); (case e1 => rfl); (case e2 => rfl); (case e3 => rfl)) | ((with_reducible refine wpList_load_by (o := ⟨some 39, .load 31 (.tmp 38), _, _, _, _⟩) ?e1 31 (.tmp 38) ?e2 ⟨w.heap.size, 0, none⟩ ?e3 _ LIK.out ?_); (case e1 => rfl); (case e2 => rfl); (case e3 => rfl)))
    refine CE.out.mono ?_
    rintro e w7 ⟨rfl, hb⟩
    have J7 := Lib.hid (J1.out.below hb)
    have FB7 := Lib.hid (Kind.blk_below FB.out hb (Kind.blk_lt FB.out))
    clear hb c0 ix
   ·have J8 := Lib.hid (show PS w x m p x.R.z 0 0 v (FF (k + 1)) w7 from by rw [HFK.out]; simpa using J7.out)
    go_wp2
    go_roundw
    case rel => exact ⟨k + 1, v, by omega, by go_num, J8.out⟩
    case measure => simp [intOf]; omega
   ·have g0 := J7.out.j.cell (lnP_len HZL.out 0 0)
    have LF7 := Lib.hid (load_flP (Kind.at_blk FB7.out))
    have J8 := Lib.hid (J7.out.below ((Below.refl _ _).alloc (Nat.le_refl _) (.cells (KFl.cs f).toArray 59)))
    have R8 := Lib.hid (Kind.row_one (K := KFl) (x := f) (w := w7) (t := 59) trivial)
    have L8 := Lib.hid (show (FF k).length + 1 ≤ 10000000 by have := HFK2.out; have := HN1.out; have := HK.out; omega)
    have S8 := Lib.hid J8.out.j.le
    have O8 := Lib.hid J8.out.j.own
    have YL : Hid ((KFl.cs f).length = KFl.n) := Lib.hid rfl
    obtain ⟨i0, hi, hz0, hz1, hz2⟩ := info_parts infoFldK
    rw [hEF] at LF7
    go_wp2_with (first | ((with_reducible refine wpList_load_at (o := ⟨some 45, .load 59 (.tmp 9), _, _, _, _⟩) ?e1 59 (.tmp 9) ?e2 ⟨wr.heap.size, 0, none⟩ ?e3 _ LF7.out ?_); (case e1 => rfl); (case e2 => rfl); (case e3 => rfl)) | ((with_reducible refine wpList_bsliceK (K := KFl) (o := ⟨some 46, .buildSlice 34 1 #[(0, .tmp 45)], _, _, _, _⟩) ?e1 (.tmp 45) ?e2 f ?e3 YL.out Tryz.underlying34 sizeFldK zeroFldK nFl ?_); (case e1 => rfl); (case e2 => rfl); (case e3 => exact congrArg Value.agg hEF.symm)) | (at_builtin; refine wpList_append_K (K := KFl) (o := ⟨some 47, _, _, _, _, _⟩) _ rfl _ _ 34 rfl (p + 1) 59 i0 _ 40 Tryz.underlying34 hi hz0 hz1 hz2 rfl (by omega) _ (FF k).length (FF k) rfl O8.out _ 1 1 [f] rfl R8.out rfl L8.out S8.out ?_; intro v3 X3 ho3 hg3; obtain ⟨g13, cap13, rfl⟩ := ownsRow_succ ho3; have K3 := Lib.hid (J8.out.grown (f := f) ho3 hg3); have J9 := Lib.hid (K3.out.store HZL.out); have g0 := K3.out.j.cell (lnP_len HZL.out 0 0); have gf := K3.out.j.fz 18; clear ho3 hg3))
    have J10 := Lib.hid (show PS w x m p x.R.z 0 0 _ (FF (k + 1)) _ from by rw [HFK.out]; simpa using J9.out)
    go_roundw
    case rel => exact ⟨k + 1, _, by omega, by go_num, J10.out⟩
    case measure => simp [intOf]; omega
  ·obtain rfl : k = n := by omega
   have t1 : ¬ (k : Int) < (k : Int) := by omega
   obtain ⟨A9, c9, hv9⟩ := own_slice J.out.j.own
   subst hv9
   obtain ⟨hy1, hy2, hy3⟩ := J.out.j.recd HZ.out
   have LP := Lib.hid hy3.load
   have YZ := Lib.hid hy1.len
   have Y1 := Lib.hid hy1
   have Y2 := Lib.hid hy2
   have R0 := Lib.hid J.out.r0
   clear hy1 hy2 hy3
   go_wp2_with (first | ((with_reducible refine wpList_load_by (o := ⟨some 50, .load 36 (.tmp 5), _, _, _, _⟩) ?e1 36 (.tmp 5) ?e2 ⟨p, 0, none⟩ ?e3 _ LP.out ?_); (case e1 => rfl); (case e2 => rfl); (case e3 => rfl)) | ((with_reducible refine wpList_store_oldx (o := ⟨none, .store 36 (.tmp 4) (.tmp 50), _, _, _, _⟩) ?e1 (.tmp 4) (.tmp 50) ?e2 (w.heap.size + 1 + 1) _ R0.out ?e3 (⟨⟨x.R.z, 0, 0, FF k⟩, A9, c9⟩ : RcA) ?e4 YZ.out ?_); (case e1 => rfl); (case e2 => rfl); (case e3 => rfl); (case e4 => rfl); intro w2 hg2 hx2; have G9 := Lib.hid hg2; have X9 := Lib.hid hx2; clear hg2 hx2))
   refine bodyPost_ret (v := .agg (RcA.cells ⟨⟨x.R.z, 0, 0, FF k⟩, A9, c9⟩)) ?_ rfl ?_
   ·exact res_x Tryz.results76 rfl X9.out
   ·refine ⟨_, rfl, ppart_eq HPP.out (HFE.out), Y1.out.kept_x G9.out R0.out, Y2.out.kept G9.out (fun g e => ?_), J.out.b.grown G9.out J.out.b.size (fun q e => by have := Option.some.inj e; omega)⟩
    obtain rfl := Option.some.inj e
    exact tag_ne R0.out.2 (by decide)
set_option maxHeartbeats 16000000 in
theorem partOfY (x : RcA) (m : MnA) (w : World) (hlaid : Laid w) (hx : RvAt w x) (hm : m.Ok w) (hbd : ∀ x ∈ m.ls, x.es.length ≤ 1000000 ∧ ∀ e ∈ x.es, e.e.bs.length ≤ 1000000) (hsz : ∀ k, k < x.R.fs.length → (x.R.fs.getD k fld0).c.s.size ≤ 100000000) (hxl : x.R.fs.length ≤ 1000) (hl : pless x.R m.m = true) :
  Calls Tryz.prog 76 #[.agg x.cells, m.v] w (PartPost w (ppart m.m x.R)) := by
 unfold PartPost
 have HLA := Lib.hid (fun (X : World) (hX : Below w.heap.size w X) => hlaid.below hX (Nat.le_refl _))
 have HX := Lib.hid hx
 have HM := Lib.hid hm
 have HBD := Lib.hid hbd
 have HSZ := Lib.hid hsz
 have HZ := Lib.hid hx.1
 have HZL := Lib.hid hx.1.1
 have ZX : Hid ((⟨⟨x.R.z, 0, 0, []⟩, none, 0⟩ : RcA).R.z.length = 16) := Lib.hid hx.1.1
 have HBI := Lib.hid (build_z1 hx.1.1)
 have HMV : Hid (m.v = .agg m.cs.toArray) := Lib.hid rfl
 have HFN := Lib.hid (fun k (hk : k < x.R.fs.length) => filt_take (p := fun f => exc f.c m.m x.R.z f.no) hk)
 have HF0 := Lib.hid (show (x.R.fs.take 0).filter (fun f => exc f.c m.m x.R.z f.no) = [] by simp)
 have HFE := Lib.hid (show (x.R.fs.take x.R.fs.length).filter (fun f => exc f.c m.m x.R.z f.no) = pfs x.R m.m by rw [List.take_length]; rfl)
 have HFL := Lib.hid (fun k => show ((x.R.fs.take k).filter (fun f => exc f.c m.m x.R.z f.no)).length ≤ k from Nat.le_trans (List.length_filter_le _ _) (List.length_take_le _ _))
 obtain ⟨dn, hdn⟩ : ∃ dn, dn = ((lineA m.ls x.R.z).getD lnA0).x.n := ⟨_, rfl⟩
 obtain ⟨dr, hdr⟩ : ∃ dr, dr = ((lineA m.ls x.R.z).getD lnA0).x.r := ⟨_, rfl⟩
 have HPL := Lib.hid (show pless x.R m.m = stLess dn dr x.R.n x.R.r by unfold pless; rw [ldead_A, hdn, hdr])
 have HLV := Lib.hid (show stLess dn dr x.R.n x.R.r = true from by rw [← HPL.out]; exact hl)
 have HPV := Lib.hid hl
 have HDN := Lib.hid hdn.symm
 have HDR := Lib.hid hdr.symm
 have HROW := Lib.hid (FsAt.kfl hx.2)
 have hc1 := hx.2.1
 have hc2 := hx.2.2.1
 simp only [maxLen] at hc2
 have HN1 := Lib.hid (show x.R.fs.length ≤ 1000 from hxl)
 generalize hFF : (fun k => (x.R.fs.take k).filter (fun f => exc f.c m.m x.R.z f.no)) = FF at *
 have HFN := Lib.hid (fun k (hk : k < x.R.fs.length) => show FF (k + 1) = FF k ++ (if exc (x.R.fs.getD k fld0).c m.m x.R.z (x.R.fs.getD k fld0).no = true then [x.R.fs.getD k fld0] else []) from by rw [← hFF]; exact HFN.out k hk)
 have HF0 := Lib.hid (show FF 0 = [] from by rw [← hFF]; exact HF0.out)
 have HFE := Lib.hid (show FF x.R.fs.length = pfs x.R m.m from by rw [← hFF]; exact HFE.out)
 have HFL := Lib.hid (fun k => show (FF k).length ≤ k from by rw [← hFF]; exact HFL.out k)
 have X0 := Lib.hid (((XAt.new w hx.1.1).old (.cells m.cs.toArray 29)).old (.cells rcA0.cells 36))
 have M0 := Lib.hid (show MnAt (((w.alloc (.cells x.cells 36)).alloc (.cells m.cs.toArray 29)).alloc (.cells rcA0.cells 36)) (w.heap.size + 1) m from by have h1 := MnAt.new (w.alloc (.cells x.cells 36)) m; rw [World.size_alloc] at h1; exact h1.below ((Below.refl _ _).alloc (Nat.le_refl _) (.cells rcA0.cells 36)) h1.lt)
 have Z0 := Lib.hid (show XAt (((w.alloc (.cells x.cells 36)).alloc (.cells m.cs.toArray 29)).alloc (.cells rcA0.cells 36)) (w.heap.size + 1 + 1) rcA0 from by have h1 := XAt.new (x := rcA0) ((w.alloc (.cells x.cells 36)).alloc (.cells m.cs.toArray 29)) z16_len; rw [World.size_alloc, World.size_alloc] at h1; exact h1)
 have B0 := Lib.hid (show Below w.heap.size w (((w.alloc (.cells x.cells 36)).alloc (.cells m.cs.toArray 29)).alloc (.cells rcA0.cells 36)) from (((Below.refl _ _).alloc (Nat.le_refl _) _).alloc (by simp) _).alloc (by simp; omega) _)
 have L11 := Lib.hid X0.out.load_id
 have hzr : ∀ w : World, (zeroValue 36).run Tryz.prog w = .ok (.agg rcA0.cells) w := zeroRec
 have hzl := zeroLn
 rw [show KLn.v lnA0 = .agg (KLn.cs lnA0).toArray from rfl] at hzl
 have hzf := zeroFldK
 rw [show KFl.v fld0 = .agg (KFl.cs fld0).toArray from rfl] at hzf
 have hzne2 : ¬ (KLn.cs lnA0).toArray = #[] := by decide
 have hzne3 : ¬ (KFl.cs fld0).toArray = #[] := by decide
 clear hlaid hx hm hbd hsz hl hdn hdr hFF hxl
 rw [HMV.out]
 go_enter Tryz.func76, Tryz.ntmps76
 go_wp2_with (first | ((with_reducible refine wpList_load_by (o := ⟨some 11, .load 31 (.tmp 10), _, _, _, _⟩) ?e1 31 (.tmp 10) ?e2 ⟨w.heap.size, 0, none⟩ ?e3 _ L11.out ?_); (case e1 => rfl); (case e2 => rfl); (case e3 => rfl)) | ((with_reducible refine wpList_build_by (o := ⟨some 12, .build 36 #[(0, .tmp 11)], _, _, _, _⟩) ?e1 36 #[(0, .tmp 11)] ?e2 #[(0, .agg (bvals x.R.z))] ?e3 _ (HBI.out _) ?_); (case e1 => rfl); (case e2 => rfl); (case e3 => (simp only [List.map_toArray, List.map_cons, List.map_nil]; rfl))) | ((with_reducible refine wpList_store_newx (o := ⟨none, .store 36 (.tmp 5) (.tmp 12), _, _, _, _⟩) (w := (((w.alloc (.cells x.cells 36)).alloc (.cells m.cs.toArray 29)).alloc (.cells rcA0.cells 36))) ?e1 (.tmp 5) (.tmp 12) ?e2 (w.heap.size + 1 + 1 + 1) ?e0 ?e3 (⟨⟨x.R.z, 0, 0, []⟩, none, 0⟩ : RcA) ?e4 ZX.out ?_); (case e1 => rfl); (case e2 => rfl); (case e0 => simp); (case e3 => rfl); (case e4 => rfl); intro w1 hb2 hx2 hs2; have X1 := Lib.hid (X0.out.below hb2 X0.out.lt); have M1 := Lib.hid (M0.out.below hb2 M0.out.lt); have Z1 := Lib.hid (Z0.out.below hb2 Z0.out.lt); have B1 := Lib.hid (B0.out.trans (hb2.mono B0.out.size)); clear hb2; have P1 := Lib.hid hx2; clear hx2 hs2; have LM1 := Lib.hid (load_mn M1.out (MnA.below HM.out (B1.out.mono (Nat.le_refl _)))); rw [HMV.out] at LM1; have LI1 := Lib.hid X1.out.load_id; have CL := Lib.hid (pline12_any m x.R.z w1 (MnA.below HM.out (B1.out.mono (Nat.le_refl _))) HZ.out HBD.out); unfold LineN at CL; rw [HMV.out] at CL) | ((with_reducible refine wpList_load_at (o := ⟨some 14, .load 29 (.tmp 3), _, _, _, _⟩) ?e1 29 (.tmp 3) ?e2 ⟨(w.heap.size + 1), 0, none⟩ ?e3 _ LM1.out ?_); (case e1 => rfl); (case e2 => rfl); (case e3 => rfl)) | ((with_reducible refine wpList_load_by (o := ⟨some 16, .load 31 (.tmp 15), _, _, _, _⟩) ?e1 31 (.tmp 15) ?e2 ⟨w.heap.size, 0, none⟩ ?e3 _ LI1.out ?_); (case e1 => rfl); (case e2 => rfl); (case e3 => rfl)))
 refine CL.out.mono ?_
 rintro e w2 ⟨l, rfl, hle, hlo, hb⟩
 have X2 := Lib.hid (X1.out.below hb X1.out.lt); have M2 := Lib.hid (M1.out.below hb M1.out.lt); have Z2 := Lib.hid (Z1.out.below hb Z1.out.lt); have P2 := Lib.hid (P1.out.below hb P1.out.lt); have B2 := Lib.hid (B1.out.trans (hb.mono B1.out.size)); clear hb
 have GN := Lib.hid (show l.n = dn from (congrArg Ln.n hle).trans HDN.out)
 have GR := Lib.hid (show l.r = dr from (congrArg Ln.r hle).trans HDR.out)
 have SZL := Lib.hid (ln_size hlo)
 have SQL := Lib.hid (show (KLn.cs lnA0).toArray.size = (KLn.cs l).toArray.size by rw [lnA0_size, List.size_toArray]; exact (LnA.len hlo).symm)
 have SOL := Lib.hid (ln_ones l)
 have ca16 := ln_c16 (Kind.at_blk (Kind.blk_new (K := KLn) w2 l 63)) hlo.1
 have ca17 := ln_c17 (Kind.at_blk (Kind.blk_new (K := KLn) w2 l 63)) hlo.1
 rw [Nat.zero_add, GN.out] at ca16
 rw [Nat.zero_add, GR.out] at ca17
 have hb3 : Below w2.heap.size w2 (w2.alloc (.cells (KLn.cs l).toArray 63)) := (Below.refl _ _).alloc (Nat.le_refl _) _
 have X3 := Lib.hid (X2.out.below hb3 X2.out.lt); have M3 := Lib.hid (M2.out.below hb3 M2.out.lt); have Z3 := Lib.hid (Z2.out.below hb3 Z2.out.lt); have P3 := Lib.hid (P2.out.below hb3 P2.out.lt); have B3 := Lib.hid (B2.out.trans (hb3.mono B2.out.size)); clear hb3
 have cb16 := X3.out.c16
 have cb17 := X3.out.c17
 have CS := Lib.hid (stLess_any dn dr x.R.n x.R.r (w2.alloc (.cells (KLn.cs l).toArray 63)))
 unfold st at CS
 rw [HLV.out] at CS
 clear hle hlo
 go_wp2_with (first | ((with_reducible refine wpList_store_new (o := ⟨none, .store 63 (.tmp 6) (.tmp 18), _, _, _, _⟩) ?e1 63 (.tmp 6) (.tmp 18) ?e2 ?e3 (KLn.cs lnA0).toArray (KLn.cs l).toArray ?e4 SZL.out SQL.out SOL.out ?_); (case e1 => rfl); (case e2 => rfl); (case e3 => rfl); (case e4 => rfl)))
 refine CS.out.mono ?_
 rintro e w4 ⟨rfl, hb⟩
 clear ca16 ca17 cb16 cb17
 have X4 := Lib.hid (X3.out.below hb X3.out.lt); have M4 := Lib.hid (M3.out.below hb M3.out.lt); have Z4 := Lib.hid (Z3.out.below hb Z3.out.lt); have P4 := Lib.hid (P3.out.below hb P3.out.lt); have B4 := Lib.hid (B3.out.trans (hb.mono B3.out.size)); clear hb
 have cb16 := X4.out.c16
 have cb17 := X4.out.c17
 have cb18 := X4.out.c18
 have f16 := P4.out.fz 16
 have f17 := P4.out.fz 17
 have p16 := P4.out.c16
 have p17 := P4.out.c17
 have P5 := Lib.hid (P4.out.dead x.R.n x.R.r)
 have hne5 : ∀ q, q < (w.heap.size + 1 + 1 + 1) → ((w4.setCell ⟨(w.heap.size + 1 + 1 + 1), 16, none⟩ (.int .i64 x.R.n)).setCell ⟨(w.heap.size + 1 + 1 + 1), 17, none⟩ (.int .i64 x.R.r)).heap[q]? = w4.heap[q]? := fun q hq => (Below.heap_setCell _ _ _ _ (by show q ≠ (w.heap.size + 1 + 1 + 1); omega)).trans (Below.heap_setCell _ _ _ _ (by show q ≠ (w.heap.size + 1 + 1 + 1); omega))
 have X5 := Lib.hid (X4.out.same (hne5 _ (by omega)))
 have M5 := Lib.hid (show MnAt ((w4.setCell ⟨(w.heap.size + 1 + 1 + 1), 16, none⟩ (.int .i64 x.R.n)).setCell ⟨(w.heap.size + 1 + 1 + 1), 17, none⟩ (.int .i64 x.R.r)) (w.heap.size + 1) m from (hne5 _ (by omega)).trans M4.out)
 have Z5 := Lib.hid (Z4.out.same (hne5 _ (by omega)))
 have B5 := Lib.hid ((B4.out.setCell (p := ⟨(w.heap.size + 1 + 1 + 1), 16, none⟩) (by show w.heap.size ≤ (w.heap.size + 1 + 1 + 1); omega) (.int .i64 x.R.n)).setCell (p := ⟨(w.heap.size + 1 + 1 + 1), 17, none⟩) (by show w.heap.size ≤ (w.heap.size + 1 + 1 + 1); omega) (.int .i64 x.R.r))
 have e18 := X5.out.c18
 clear hne5
 have J0 := Lib.hid (show PS w x m (w.heap.size + 1 + 1 + 1) x.R.z x.R.n x.R.r (.slice none 0 0) (FF 0) ((w4.setCell ⟨(w.heap.size + 1 + 1 + 1), 16, none⟩ (.int .i64 x.R.n)).setCell ⟨(w.heap.size + 1 + 1 + 1), 17, none⟩ (.int .i64 x.R.r)) from by rw [HF0.out]; exact ⟨B5.out, X5.out, M5.out, Z5.out, XAt.rj P5.out (Nat.lt_succ_self _) P5.out.lt, by omega⟩)
 have HPP := Lib.hid (show PPok x.R m.m x.R.n x.R.r from .inl ⟨HPV.out, rfl, rfl⟩)
 go_wp2
 clear cb18
 clear cb16 cb17 f16 f17 p16 p17 e18
 have HNL : Hid (x.R.fs.length = x.R.fs.length) := Lib.hid rfl
 generalize hn : x.R.fs.length = n at *
 have HNN := Lib.hid hn
 clear hn HNL
 generalize hp : (w.heap.size + 1 + 1 + 1) = p at *
 have HPEQ := Lib.hid hp
 clear hp
 generalize hdn9 : x.R.n = dn9 at *
 generalize hdr9 : x.R.r = dr9 at *
 have HD1 := Lib.hid hdn9
 have HD2 := Lib.hid hdr9
 clear hdn9 hdr9
 go_loopw [31] (fun i wr => ∃ (k : Nat) (v : Value), k ≤ n ∧ i = .int .i64 k ∧ PS w x m p x.R.z dn9 dr9 v (FF k) wr) (fun i _ => n - (intOf i).toNat)
 case atStart => exact ⟨0, _, Nat.zero_le _, rfl, J0.out⟩
 case round =>
  obtain ⟨k, v, hk, rfl, hJ⟩ := hrel
  have J := Lib.hid hJ
  have HK := Lib.hid hk
  clear hJ
  by_cases hlt : k < n
  ·have t1 : (k : Int) < (n : Int) := by omega
   obtain ⟨b0, off, hA, hb0, hcc⟩ := HROW.out.2.2.2.1 (by rw [HNN.out]; omega)
   have hat := hcc k (by rw [HNN.out]; exact hlt)
   have ix := ix_fld b0 off n x.c k hlt k rfl
   rw [← hA] at ix
   have HSK := Lib.hid (HSZ.out k hlt)
   have HFK := Lib.hid (HFN.out k hlt)
   have HFK2 := Lib.hid (HFL.out k)
   rw [show KFl.d = fld0 from rfl] at hat
   generalize x.R.fs.getD k fld0 = f at *
   have hat2 := Kind.at_same hat (J.out.b.block b0 hb0)
   have LF := Lib.hid (show (loadVar 59 ⟨b0, off + k * 4, none⟩).run Tryz.prog wr = .ok (.agg (KFl.cs f).toArray) wr from load_flP hat2)
   have SZF := Lib.hid (show (Tryz.prog.info? 59).map (·.size) = some (KFl.cs f).toArray.size by rw [show (KFl.cs f).toArray.size = 4 from rfl]; obtain ⟨i, hi, _, hs, _⟩ := info_parts infoFldK; rw [hi]; exact congrArg some hs)
   have SQF := Lib.hid (show (KFl.cs fld0).toArray.size = (KFl.cs f).toArray.size from rfl)
   have SOF := Lib.hid (show (KFl.cs f).toArray.all (·.oneCell') = true by rw [Array.all_eq_true_iff_forall_mem]; exact fun u hu => KFl.one f u (by simpa using hu))
   have FB := Lib.hid (Kind.blk_new (K := KFl) wr f 59)
   have hb6 : Below wr.heap.size wr (wr.alloc (.cells (KFl.cs f).toArray 59)) := (Below.refl _ _).alloc (Nat.le_refl _) _
   have J1 := Lib.hid (J.out.below hb6)
   have LC := Lib.hid (load_fcell (Kind.at_blk FB.out))
   have c0 := fl_no (Kind.at_blk FB.out)
   have LMK := Lib.hid (load_mn J1.out.m1 (MnA.below HM.out (J1.out.b.mono (Nat.le_refl _))))
   rw [HMV.out] at LMK
   have LIK := Lib.hid J1.out.x1.load_id
   have CE := Lib.hid (pexc14_any f.c m x.R.z f.no (wr.alloc (.cells (KFl.cs f).toArray 59)) (HLA.out _ J1.out.b) (MnA.below HM.out (J1.out.b.mono (Nat.le_refl _))) HZ.out HSK.out HBD.out)
   rw [HMV.out] at CE
   unfold Cel.v at CE
   clear hat hat2 hcc hA hb6
   cases hv : exc f.c m.m x.R.z f.no
   all_goals
    rw [hv] at CE HFK
    clear hv
    generalize hEF : (KFl.cs f).toArray = EF at *
    go_wp2_with (first | ((with_reducible refine wpList_load_at (o := ⟨some 34, .load 59 (.tmp 33), _, _, _, _⟩) ?e1 59 (.tmp 33) ?e2 ⟨b0, (off + k * 4), none⟩ ?e3 _ LF.out ?_); (case e1 => rfl); (case e2 => rfl); (case e3 => rfl)) | ((with_reducible refine wpList_store_new (o := ⟨none, .store 59 (.tmp 9) (.tmp 34), _, _, _, _⟩) ?e1 59 (.tmp 9) (.tmp 34) ?e2 ?e3 (KFl.cs fld0).toArray EF ?e4 SZF.out SQF.out SOF.out ?_); (case e1 => rfl); (case e2 => rfl); (case e3 => rfl); (case e4 => rfl)) | ((with_reducible refine wpList_load_at (o := ⟨some 36, .load 38 (.tmp 35), _, _, _, _⟩) ?e1 38 (.tmp 35) ?e2 ⟨wr.heap.size, (0 + 1), none⟩ ?e3 _ LC.out ?_); (case e1 => rfl); (case e2 => rfl); (case e3 => rfl)) | ((with_reducible refine wpList_load_at (o := ⟨some 37, .load 29 (.tmp 3), _, _, _, _⟩) ?e1 29 (.tmp 3) ?e2 ⟨(w.heap.size + 1), 0, none⟩ ?e3 _ LMK.out ?_); (case e1 => rfl); (case e2 => rfl); (case e3 => rfl)) | ((with_reducible refine wpList_load_by (o := ⟨some 39, .load 31 (.tmp 38), _, _, _, _⟩) ?e1 31 (.tmp 38) ?e2 ⟨w.heap.size, 0, none⟩ ?e3 _ LIK.out ?_); (case e1 => rfl); (case e2 => rfl); (case e3 => rfl)))
    refine CE.out.mono ?_
    rintro e w7 ⟨rfl, hb⟩
    have J7 := Lib.hid (J1.out.below hb)
    have FB7 := Lib.hid (Kind.blk_below FB.out hb (Kind.blk_lt FB.out))
    clear hb c0 ix
   ·have J8 := Lib.hid (show PS w x m p x.R.z dn9 dr9 v (FF (k + 1)) w7 from by rw [HFK.out]; simpa using J7.out)
    go_wp2
    go_roundw
    case rel => exact ⟨k + 1, v, by omega, by go_num, J8.out⟩
    case measure => simp [intOf]; omega
   ·have g0 := J7.out.j.cell (lnP_len HZL.out dn9 dr9)
    have LF7 := Lib.hid (load_flP (Kind.at_blk FB7.out))
    have J8 := Lib.hid (J7.out.below ((Below.refl _ _).alloc (Nat.le_refl _) (.cells (KFl.cs f).toArray 59)))
    have R8 := Lib.hid (Kind.row_one (K := KFl) (x := f) (w := w7) (t := 59) trivial)
    have L8 := Lib.hid (show (FF k).length + 1 ≤ 10000000 by have := HFK2.out; have := HN1.out; have := HK.out; omega)
    have S8 := Lib.hid J8.out.j.le
    have O8 := Lib.hid J8.out.j.own
    have YL : Hid ((KFl.cs f).length = KFl.n) := Lib.hid rfl
    obtain ⟨i0, hi, hz0, hz1, hz2⟩ := info_parts infoFldK
    rw [hEF] at LF7
    go_wp2_with (first | ((with_reducible refine wpList_load_at (o := ⟨some 45, .load 59 (.tmp 9), _, _, _, _⟩) ?e1 59 (.tmp 9) ?e2 ⟨wr.heap.size, 0, none⟩ ?e3 _ LF7.out ?_); (case e1 => rfl); (case e2 => rfl); (case e3 => rfl)) | ((with_reducible refine wpList_bsliceK (K := KFl) (o := ⟨some 46, .buildSlice 34 1 #[(0, .tmp 45)], _, _, _, _⟩) ?e1 (.tmp 45) ?e2 f ?e3 YL.out Tryz.underlying34 sizeFldK zeroFldK nFl ?_); (case e1 => rfl); (case e2 => rfl); (case e3 => exact congrArg Value.agg hEF.symm)) | (at_builtin; refine wpList_append_K (K := KFl) (o := ⟨some 47, _, _, _, _, _⟩) _ rfl _ _ 34 rfl (p + 1) 59 i0 _ 40 Tryz.underlying34 hi hz0 hz1 hz2 rfl (by omega) _ (FF k).length (FF k) rfl O8.out _ 1 1 [f] rfl R8.out rfl L8.out S8.out ?_; intro v3 X3 ho3 hg3; obtain ⟨g13, cap13, rfl⟩ := ownsRow_succ ho3; have K3 := Lib.hid (J8.out.grown (f := f) ho3 hg3); have J9 := Lib.hid (K3.out.store HZL.out); have g0 := K3.out.j.cell (lnP_len HZL.out dn9 dr9); have gf := K3.out.j.fz 18; clear ho3 hg3))
    have J10 := Lib.hid (show PS w x m p x.R.z dn9 dr9 _ (FF (k + 1)) _ from by rw [HFK.out]; simpa using J9.out)
    go_roundw
    case rel => exact ⟨k + 1, _, by omega, by go_num, J10.out⟩
    case measure => simp [intOf]; omega
  ·obtain rfl : k = n := by omega
   have t1 : ¬ (k : Int) < (k : Int) := by omega
   obtain ⟨A9, c9, hv9⟩ := own_slice J.out.j.own
   subst hv9
   obtain ⟨hy1, hy2, hy3⟩ := J.out.j.recd HZ.out
   have LP := Lib.hid hy3.load
   have YZ := Lib.hid hy1.len
   have Y1 := Lib.hid hy1
   have Y2 := Lib.hid hy2
   have R0 := Lib.hid J.out.r0
   clear hy1 hy2 hy3
   go_wp2_with (first | ((with_reducible refine wpList_load_by (o := ⟨some 50, .load 36 (.tmp 5), _, _, _, _⟩) ?e1 36 (.tmp 5) ?e2 ⟨p, 0, none⟩ ?e3 _ LP.out ?_); (case e1 => rfl); (case e2 => rfl); (case e3 => rfl)) | ((with_reducible refine wpList_store_oldx (o := ⟨none, .store 36 (.tmp 4) (.tmp 50), _, _, _, _⟩) ?e1 (.tmp 4) (.tmp 50) ?e2 (w.heap.size + 1 + 1) _ R0.out ?e3 (⟨⟨x.R.z, dn9, dr9, FF k⟩, A9, c9⟩ : RcA) ?e4 YZ.out ?_); (case e1 => rfl); (case e2 => rfl); (case e3 => rfl); (case e4 => rfl); intro w2 hg2 hx2; have G9 := Lib.hid hg2; have X9 := Lib.hid hx2; clear hg2 hx2))
   refine bodyPost_ret (v := .agg (RcA.cells ⟨⟨x.R.z, dn9, dr9, FF k⟩, A9, c9⟩)) ?_ rfl ?_
   ·exact res_x Tryz.results76 rfl X9.out
   ·refine ⟨_, rfl, ppart_eq HPP.out (HFE.out), Y1.out.kept_x G9.out R0.out, Y2.out.kept G9.out (fun g e => ?_), J.out.b.grown G9.out J.out.b.size (fun q e => by have := Option.some.inj e; omega)⟩
    obtain rfl := Option.some.inj e
    exact tag_ne R0.out.2 (by decide)
theorem partOf_any (x : RcA) (m : MnA) (w : World) (hlaid : Laid w) (hx : RvAt w x) (hm : m.Ok w) (hbd : ∀ x ∈ m.ls, x.es.length ≤ 1000000 ∧ ∀ e ∈ x.es, e.e.bs.length ≤ 1000000) (hsz : ∀ k, k < x.R.fs.length → (x.R.fs.getD k fld0).c.s.size ≤ 100000000) (hxl : x.R.fs.length ≤ 1000) :
  Calls Tryz.prog 76 #[.agg x.cells, m.v] w (PartPost w (ppart m.m x.R)) := by
 cases hl : pless x.R m.m
 ·exact partOfN x m w hlaid hx hm hbd hsz hxl hl
 ·exact partOfY x m w hlaid hx hm hbd hsz hxl hl
end
end Go.Proofs.YtnlhkpmgbpfjmaaGreatDoor
