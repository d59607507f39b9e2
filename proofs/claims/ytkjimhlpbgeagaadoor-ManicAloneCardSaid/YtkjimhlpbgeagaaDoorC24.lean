import Derived.Test.YtkjimhlpbgeagaaDoorC0
import Derived.Test.YtkjimhlpbgeagaaDoorC23
import Derived.Test.YtkjimhlpbgeagaaDoorC22
import Derived.Test.YtkjimhlpbgeagaaDoorC12
import Derived.Test.YtkjimhlpbgeagaaDoorC3
import Derived.Test.YtkjimhlpbgeagaaDoorC21
import Derived.Test.YtkjimhlpbgeagaaDoorC14
import Derived.Test.YtkjimhlpbgeagaaDoorC18
import Derived.Test.YtkjimhlpbgeagaaDoorC13
import Derived.Test.YtkjimhlpbgeagaaDoorC9
import Derived.Test.YtkjimhlpbgeagaaDoorC8
/-
  What the functions that a law of this layer reaches answer, part 24. Nothing that was there is written.
-/
namespace Go.Proofs.YtkjimhlpbgeagaaDoor
set_option linter.unusedVariables false
set_option linter.unusedSimpArgs false
section
open Go.RowKit WM
set_option maxRecDepth 100000
set_option maxHeartbeats 16000000 in
theorem putLine_any (x : LnA) (w : World) (h : x.Ok w) (hw : lnWf x.x) : Calls Tryd.prog 15 #[KLn.v x] w (Gives w (lnB x.x)) := by
 have hz16 : x.z.length = 16 := h.1
 have hel : x.es.length ≤ 8 := by have := hw.2.2.2.1; rw [show x.x.es = x.es.map (·.e) from rfl, List.length_map] at this; exact this
 have BX := Lib.hid ((Below.refl w.heap.size w).alloc (Nat.le_refl _) (.cells (KLn.cs x).toArray 49))
 have EAT := Lib.hid (Kind.blk_new (K := KLn) w x 49)
 have HD := Lib.hid hz16
 have HROW := Lib.hid h.2.2.2.2
 have HP := stPut_yes x.n x.r (w.alloc (.cells (KLn.cs x).toArray 49)) hw.2.2.1
 unfold st GivesT at HP
 have HP := Lib.hid HP
 have HE1 := Lib.hid (enc_len (x.n * 8 + x.r)).2
 have HE2 := Lib.hid (enc_len (x.es.length : Int)).2
 have HPG := Lib.hid (fun w => put_gives (x.es.length : Int) w (by omega) (by omega))
 unfold Gives at HPG
 have HWU := Lib.hid (IntWalk.u64_in (x.es.length : Int) (by omega))
 have HNM := Lib.hid (show x.es.length ≤ 10 by omega)
 have HBO := Lib.hid (show ∀ e ∈ x.es, EnA.Ok w e from h.2.2.2.2.2.2.2.2)
 have HBW := Lib.hid (fun e (he : e ∈ x.es) => hw.2.2.2.2 e.e (List.mem_map_of_mem (f := fun y : EnA => y.e) he))
 have HLB := Lib.hid (fun (e : EnA) (he : e ∈ x.es) => (enB_ok (HBW.out e he)).2)
 have HENB := Lib.hid (show lnB x.x = (x.z ++ enc (x.n * 8 + x.r) ++ enc x.es.length) ++ x.es.flatMap (fun y : EnA => enB y.e) by unfold lnB; rw [show x.x.es = x.es.map (·.e) from rfl, List.flatMap_map, List.length_map]; simp only [List.append_assoc]; rfl)
 have HAT := Lib.hid (fun X (hX : Below (w.alloc (.cells (KLn.cs x).toArray 49)).heap.size (w.alloc (.cells (KLn.cs x).toArray 49)) X) => Kind.at_blk (K := KLn) (Kind.blk_below EAT.out hX (Kind.blk_lt EAT.out)))
 have HSB := Lib.hid (fun h0 => en_row h.2.2.2.2 h0)
 have x1 := ln_c16 (HAT.out _ (Below.refl _ _)) hz16
 have x2 := ln_c17 (HAT.out _ (Below.refl _ _)) hz16
 rw [Nat.zero_add] at x1 x2
 have hlt1 := Lib.hid (Kind.blk_lt EAT.out)
 rw [show KLn.v x = .agg (KLn.cs x).toArray from rfl]
 generalize hE : (KLn.cs x).toArray = E at *
 generalize enc (x.n * 8 + x.r) = E1 at *
 clear hE h hw EAT hz16 hel
 go_enter Tryd.func15, Tryd.ntmps15
 go_wp2_with fail
 refine HP.out.mono ?_
 rintro e2 w2 ⟨A1, n1, k1, rfl, hn1, hnk1, hkm1, hown1, hb1⟩
 have C2 := Lib.hid hb1
 have B2 := Lib.hid (BX.out.trans (hb1.mono BX.out.size))
 have O2 := Lib.hid (BsAt.own hown1)
 clear hn1 hnk1 hkm1 hown1 hb1 x1 x2
 go_wp2_with fail
 refine wp_region_held_drew (S := fun w' => Below w2.heap.size w2 w') (by kernel_rfl) ((Below.refl w2.heap.size w2).drew) (fun hS => ?_)
 have G2 := Lib.hid ((Below.refl w2.heap.size w2).drew)
 have HXI := Lib.hid (fun X (hX : Below w2.heap.size w2 X) => ln_id (HAT.out X (C2.out.trans (hX.mono C2.out.size))) HD.out)
 have HX18 := Lib.hid (fun X (hX : Below w2.heap.size w2 X) => ln_c18 (HAT.out X (C2.out.trans (hX.mono C2.out.size))) HD.out)
 simp only [Nat.zero_add] at HX18
 clear HAT HP
 generalize lnB x.x = EB at *
 generalize x.z = z at *
 generalize x.n = sn at *
 generalize x.r = sr at *
 generalize x.es = es at *
 generalize x.A = eA at *
 generalize x.c = eC at *
 generalize hnb : es.length = nb at *
 have HNB := Lib.hid hnb
 clear hnb
 generalize World.drew _ = X0 at *
 refine wpHv (i := 0) (oi := ⟨some 14, _, _, _, _, _⟩) (v := ?_) rfl ?_ hS ?_; rotate_left; (focus (intro w9 hSw; go_simp; try with_reducible rfl)); simp only [Act.put, Z2, Z3, Z4]
 refine wpHv (i := 1) (oi := ⟨some 15, _, _, _, _, _⟩) (v := (.slice (some ⟨w.heap.size, 0, none⟩) 16 16)) rfl ?_ hS ?_; (focus (intro w9 hSw; have q0 := sl_arr w.heap.size w9; go_simp; try rfl)); simp only [Act.put, Z2, Z3, Z4]
 refine wpHv (i := 2) (oi := ⟨some 16, _, _, _, _, _⟩) (v := ?_) rfl ?_ hS ?_; rotate_left; (focus (intro w9 hSw; go_simp; try with_reducible rfl)); simp only [Act.put, Z2, Z3, Z4]
 refine wpHv (i := 3) (oi := ⟨some 17, _, _, _, _, _⟩) (v := ?_) rfl ?_ hS ?_; rotate_left; (focus (intro w9 hSw; go_simp; try with_reducible rfl)); simp only [Act.put, Z2, Z3, Z4]
 refine wpHv (i := 4) (oi := ⟨some 18, _, _, _, _, _⟩) (v := ?_) rfl ?_ hS ?_; rotate_left; (focus (intro w9 hSw; have q0 := HX18.out w9 hSw; go_simp; try with_reducible rfl)); simp only [Act.put, Z2, Z3, Z4]
 refine wpHv (i := 5) (oi := ⟨some 19, _, _, _, _, _⟩) (v := ?_) rfl ?_ hS ?_; rotate_left; (focus (intro w9 hSw; go_simp; try with_reducible rfl)); simp only [Act.put, Z2, Z3, Z4]
 refine wpHv (i := 6) (oi := ⟨some 20, _, _, _, _, _⟩) (v := (.int .u64 nb)) rfl ?_ hS ?_; (focus (intro w9 hSw; have q0 := HWU.out; go_simp; try rfl)); simp only [Act.put, Z2, Z3, Z4]
 refine wpAnyH_ready (rs := [7]) (by kernel_rfl) (by simp) (AllReadyH.cons (o := ⟨some 21, _, _, _, _, _⟩) rfl (fun K hK => ?_) AllReadyH.nil)
 go_simp
 refine (HPG.out _).mono ?_
 rintro e4 X4 ⟨A3, n3, k3, rfl, hn3, hnk3, hkm3, hown3, hb3⟩
 have G4 := Lib.hid (G2.out.trans (hb3.mono G2.out.size))
 have T22 := Lib.hid (BsAt.own hown3)
 clear hn3 hnk3 hkm3 hown3 hb3
 refine hK.out _ _ G4.out (fun hS => ?_)
 clear hK K
 try simp only [Act.put, Z2, Z3, Z4]
 have T18 := Lib.hid (O2.out.below G4.out (Nat.le_refl _))
 have T24 := Lib.hid (id_byt (HXI.out X4 G4.out) HD.out (by have := hlt1.out; have := C2.out.size; have := G4.out.size; omega))
 refine wpAnyH_ready (rs := [8]) (by kernel_rfl) (by simp) (AllReadyH.cons (o := ⟨some 22, _, _, _, _, _⟩) rfl (fun K hK => ?_) AllReadyH.nil)
 go_simp
 refine hK.out _ _ (G4.out.alloc G4.out.size (.cells #[.slice (some ⟨w.heap.size, 0, none⟩) 16 16, .slice A1 n1 k1, .slice A3 n3 k3] 27)) (fun hS => ?_)
 clear hK K
 try simp only [Act.put, Z2, Z3, Z4]
 have BA := (Below.refl X4.heap.size X4).alloc (Nat.le_refl _) (.cells #[.slice (some ⟨w.heap.size, 0, none⟩) 16 16, .slice A1 n1 k1, .slice A3 n3 k3] 27)
 have hh : (X4.alloc (.cells #[.slice (some ⟨w.heap.size, 0, none⟩) 16 16, .slice A1 n1 k1, .slice A3 n3 k3] 27)).heap[X4.heap.size]? = some (.cells #[.slice (some ⟨w.heap.size, 0, none⟩) 16 16, .slice A1 n1 k1, .slice A3 n3 k3] 27) := heap_alloc_new X4 _
 have HC := Lib.hid (concat3_any X4.heap.size (some ⟨w.heap.size, 0, none⟩) A1 A3 16 n1 n3 16 k1 k3 z E1 (enc (nb : Int)) _ (by rw [World.size_alloc]; omega) (by rw [cell_of_row _ _ _ _ _ _ hh]; rfl) (by rw [cell_of_row _ _ _ _ _ _ hh]; rfl) (by rw [cell_of_row _ _ _ _ _ _ hh]; rfl) (T24.out.below BA (Nat.le_refl _)) (T18.out.below BA (Nat.le_refl _)) (T22.out.below BA (Nat.le_refl _)) (by have := O2.out.2.1; have := T22.out.2.1; have := HE1.out; have := HE2.out; omega) (by omega))
 have G5 := Lib.hid (G4.out.alloc G4.out.size (.cells #[.slice (some ⟨w.heap.size, 0, none⟩) 16 16, .slice A1 n1 k1, .slice A3 n3 k3] 27))
 clear BA hh
 generalize X4.alloc (.cells #[.slice (some ⟨w.heap.size, 0, none⟩) 16 16, .slice A1 n1 k1, .slice A3 n3 k3] 27) = X5 at *
 refine wpAnyH_ready (rs := [9]) (by kernel_rfl) (by simp) (AllReadyH.cons (o := ⟨some 23, _, _, _, _, _⟩) rfl (fun K hK => ?_) AllReadyH.nil)
 go_simp
 refine HC.out.mono ?_
 rintro e6 w6 ⟨A6, n6, k6, rfl, hn6, hnk6, hkm6, hown6, hb6⟩
 have G6 := Lib.hid (G5.out.trans (hb6.mono G5.out.size))
 have B6 := Lib.hid (B2.out.trans (G6.out.mono B2.out.size))
 have O6 := Lib.hid (own_wide hown6 (Nat.le_trans B2.out.size G5.out.size))
 have HN6 := Lib.hid hn6
 clear hn6 hnk6 hkm6 hown6 hb6
 refine hK.out _ _ G6.out (fun hS => ?_)
 clear hK K
 try simp only [Act.put, Z2, Z3, Z4]
 refine wpHv (i := 10) (oi := ⟨some 5, _, _, _, _, _⟩) (v := ?_) rfl ?_ hS ?_; rotate_left; (focus (intro w9 hSw; go_simp; try with_reducible rfl)); simp only [Act.put, Z2, Z3, Z4]
 refine wpAnyH_done (by kernel_rfl) ?_ _
 clear hS
 have x18 := HX18.out w6 G6.out
 have HH : Hid ((z ++ E1 ++ enc (nb : Int)).length ≤ 100) := Lib.hid (by simp only [List.length_append, HD.out]; have := HE1.out; have := HE2.out; omega)
 have HRV := Lib.hid (show (z ++ E1 ++ enc (nb : Int)) ++ (es.take 0).flatMap (fun y : EnA => enB y.e) = z ++ E1 ++ enc (nb : Int) by simp)
 generalize z ++ E1 ++ enc (nb : Int) = H at *
 have hz := zeroEn
 rw [show KEn.v enA0 = .agg (KEn.cs enA0).toArray from rfl] at hz
 have hzne : ¬ (KEn.cs enA0).toArray = #[] := by decide
 obtain ⟨i0, hi, hz0, hz1, hz2⟩ := info_parts infoByte
 clear HXI HX18 HPG HWU
 go_wp2
 clear x18
 go_loopw [5, 27] (fun v i wr => ∃ (k m : Nat), k ≤ nb ∧ i = .int .i64 k ∧ wr.ownsRow w.heap.size 5 1 v m ((H ++ (es.take k).flatMap (fun y => enB y.e)).map (Value.int .u8)) ∧ Below w.heap.size w wr) (fun _ i _ => nb - (intOf i).toNat)
 case atStart => exact ⟨0, n6, Nat.zero_le _, rfl, by rw [HRV.out]; exact O6.out, B6.out⟩
 case round =>
  obtain ⟨k, m, hk, rfl, ho, hb⟩ := hrel
  have HO := Lib.hid ho
  have HBB := Lib.hid hb
  have hnb25 : nb ≤ 10 := HNM.out
  by_cases hlt : k < nb
  ·have t2 : (k : Int) < (nb : Int) := by omega
   have HLT := Lib.hid hlt
   have hkb : k < es.length := by rw [HNB.out]; exact hlt
   obtain ⟨b9, off9, hA9, hb9, hat9, hix9⟩ := HSB.out (by omega)
   have hml : m = (H ++ (es.take k).flatMap (fun y => enB y.e)).length := by simpa using ho.1.symm
   have hlb := flat_most (B := fun y => enB y.e) (k := 953) (l := es.take k) fun b hb => HLB.out b (List.mem_of_mem_take hb)
   have hHH := HH.out
   rw [List.length_take, Nat.min_eq_left (by omega)] at hlb
   rw [List.length_append] at hml
   have HM9 := Lib.hid (show m ≤ 100000 by omega)
   have HNX := Lib.hid (flat_take (B := fun y => enB y.e) enA0 hkb H)
   have XOK := Lib.hid (HBO.out _ (mem_getD enA0 hkb))
   have XWF := Lib.hid (HBW.out _ (mem_getD enA0 hkb))
   have XLB := Lib.hid (HLB.out _ (mem_getD enA0 hkb))
   have HL9 := Lib.hid (load_en (Kind.at_same (hat9 k hlt) (hb.block b9 hb9)) (KEn.below XOK.out hb))
   have IX9 := Lib.hid (hix9 k hlt k rfl)
   generalize es.getD k enA0 = x at *
   generalize hP : H ++ (es.take k).flatMap (fun y => enB y.e) = P at *
   have ix := IX9.out wr
   rw [← hA9] at ix
   clear hA9
   have SZ1 := Lib.hid (en_size XOK.out)
   have SQ1 := Lib.hid (show (KEn.cs enA0).toArray.size = (KEn.cs x).toArray.size by rw [enA0_size, List.size_toArray]; exact (Kind.len KEn XOK.out).symm)
   have SO1 := Lib.hid (en_ones x)
   have B1 := Lib.hid (hb.alloc hb.size (.cells (KEn.cs x).toArray 52))
   have O1 := Lib.hid (ho.alloc (.cells (KEn.cs x).toArray 52))
   have L1 := Lib.hid (load_en (Kind.at_blk (K := KEn) (Kind.blk_new (K := KEn) wr x 52)) (KEn.below XOK.out B1.out))
   have HPE := putEntry_any x (wr.alloc (.cells (KEn.cs x).toArray 52)) (KEn.below XOK.out B1.out) XWF.out
   unfold Gives at HPE
   have HPE := Lib.hid HPE
   clear hml hlb hHH ho hb hat9 hix9 hP
   go_wp2_with (first | ((with_reducible refine wpList_load_at (o := ⟨some 30, .load 52 (.tmp 29), _, _, _, _⟩) ?e1 52 (.tmp 29) ?e2 ⟨b9, off9 + k * 37, none⟩ ?e3 _ HL9.out ?_); (case e1 => rfl); (case e2 => rfl); (case e3 => rfl)) | ((with_reducible refine wpList_store_new (o := ⟨none, .store 52 (.tmp 7) (.tmp 30), _, _, _, _⟩) ?e1 52 (.tmp 7) (.tmp 30) ?e2 ?e3 (KEn.cs enA0).toArray (KEn.cs x).toArray ?e4 SZ1.out SQ1.out SO1.out ?_); (case e1 => rfl); (case e2 => rfl); (case e3 => rfl); (case e4 => rfl)) | ((with_reducible refine wpList_load_at (o := ⟨some 32, .load 52 (.tmp 7), _, _, _, _⟩) ?e1 52 (.tmp 7) ?e2 ⟨wr.heap.size, 0, none⟩ ?e3 _ L1.out ?_); (case e1 => rfl); (case e2 => rfl); (case e3 => rfl)) | fail)
   refine HPE.out.mono ?_
   rintro e7 w7 ⟨A7, n7, k7, rfl, hn7, hnk7, hkm7, hown7, hb7⟩
   have B7 := Lib.hid (B1.out.trans (hb7.mono B1.out.size))
   have O7 := Lib.hid (own_below O1.out hb7)
   have S7 := Lib.hid (BsAt.own hown7)
   have HN7 := Lib.hid hn7
   clear hn7 hnk7 hkm7 hown7 hb7 ix
   go_wp2_with (at_builtin; refine wpList_append_byt _ rfl (.tmp 31) (.tmp 33) 27 rfl w.heap.size 5 i0 Tryd.underlying27 hi hz0 hz1 hz2 _ m P rfl O7.out _ A7 n7 k7 _ rfl S7.out.1 S7.out.2.1 S7.out.2.2 (by have := HN7.out; have := XLB.out; have := HM9.out; omega) B7.out.size ?_; intro v9 w9 ho9 hg9; have O9 := Lib.hid ho9; have B10 := Lib.hid (B7.out.grown hg9 B7.out.size (fun g hg => own_base O7.out hg)); clear ho9 hg9)
   go_roundw
   case rel => exact ⟨k + 1, m + n7, by have := HLT.out; omega, by go_num, by rw [HNX.out]; exact O9.out, B10.out⟩
   case measure => have := HLT.out; simp [intOf]; omega
  ·have hkn : k = nb := by omega
   subst hkn
   have t1 : ¬ (k : Int) < (k : Int) := by omega
   clear ho hb
   go_wp2
   go_ret
   rw [HENB.out, ← List.take_length (l := es), HNB.out]
   exact gives_own HO.out HBB.out
end
section
open Go.RowKit WM
set_option maxRecDepth 100000
def MPutPost (w : World) (m : Mn) (e : Ending) (w' : World) : Prop :=
 if mmay m then GivesT w (packL 1 (mnB m)) e w' else e = .returned (.tuple #[.slice none 0 0, .bool false]) ∧ Below w.heap.size w w'
set_option maxHeartbeats 16000000 in
theorem put13_any (m : MnA) (w : World) (h : m.Ok w) (hg : mnGood m.m) : Calls Tryd.prog 8 #[m.v] w (MPutPost w m.m) := by
 have BX := Lib.hid ((Below.refl w.heap.size w).alloc (Nat.le_refl _) (.cells m.cs.toArray 26))
 have hmn := MnAt.new w m
 have HM := Lib.hid (pmay12_any m (w.alloc (.cells m.cs.toArray 26)) (MnA.below h BX.out))
 have HD := Lib.hid h.1
 have LM := Lib.hid (load_mn hmn (MnA.below h BX.out))
 cases hm : mmay m.m
 ·have HV : Hid (∀ e w', e = .returned (.tuple #[.slice none 0 0, .bool false]) ∧ Below w.heap.size w w' → MPutPost w m.m e w') := Lib.hid (fun e w' h1 => by unfold MPutPost; rw [hm]; exact h1)
  rw [hm] at HM
  clear hm h hg hmn
  rw [show m.v = .agg m.cs.toArray from rfl]
  go_enter Tryd.func8, Tryd.ntmps8
  go_wp2_with (first | ((with_reducible refine wpList_load_at (o := ⟨some 7, .load 26 (.tmp 1), _, _, _, _⟩) ?e1 26 (.tmp 1) ?e2 ⟨w.heap.size, 0, none⟩ ?e3 _ LM.out ?_); (case e1 => rfl); (case e2 => rfl); (case e3 => rfl)) | fail)
  refine HM.out.mono ?_
  rintro e w1 ⟨rfl, hb⟩
  have B1 := Lib.hid (BX.out.trans (hb.mono BX.out.size))
  clear hb
  go_wp2
  go_ret2
  exact HV.out _ _ ⟨rfl, B1.out⟩
 ·have HV : Hid (∀ e w', GivesT w (packL 1 (mnB m.m)) e w' → MPutPost w m.m e w') := Lib.hid (fun e w' h1 => by unfold MPutPost; rw [hm]; exact h1)
  have hw := mmay_wf hm hg
  have hel : m.ls.length ≤ 10 := by have := hw.2.2.1; rw [show m.m.ls = m.ls.map (·.x) from rfl, List.length_map] at this; exact this
  have HE2 := Lib.hid (enc_len (m.ls.length : Int)).2
  have HPG := Lib.hid (fun w => put_gives (m.ls.length : Int) w (by omega) (by omega))
  unfold Gives at HPG
  have HWU := Lib.hid (IntWalk.u64_in (m.ls.length : Int) (by omega))
  have HNM := Lib.hid (show m.ls.length ≤ 10 by omega)
  have HBO := Lib.hid (show ∀ x ∈ m.ls, LnA.Ok w x from h.2.2.2.2.2.2)
  have HBW := Lib.hid (fun x (hx : x ∈ m.ls) => hw.2.2.2 x.x (List.mem_map_of_mem (f := fun y : LnA => y.x) hx))
  have HLB := Lib.hid (fun (x : LnA) (hx : x ∈ m.ls) => (lnB_ok (HBW.out x hx)).2)
  have HMB := Lib.hid (mnB_ok hw)
  have HENB := Lib.hid (show mnB m.m = (m.base ++ enc m.ls.length) ++ m.ls.flatMap (fun y : LnA => lnB y.x) by unfold mnB; rw [show m.m.ls = m.ls.map (·.x) from rfl, List.flatMap_map, List.length_map]; simp only [List.append_assoc]; rfl)
  have HXB := Lib.hid (fun X (hX : Below (w.alloc (.cells m.cs.toArray 26)).heap.size (w.alloc (.cells m.cs.toArray 26)) X) => (hmn.below hX hmn.lt).dig HD.out)
  have HX32 := Lib.hid (fun X (hX : Below (w.alloc (.cells m.cs.toArray 26)).heap.size (w.alloc (.cells m.cs.toArray 26)) X) => (hmn.below hX hmn.lt).c32 HD.out)
  have HSB := Lib.hid (fun h0 => ln_row h.2.2 h0)
  have hlt1 := Lib.hid hmn.lt
  rw [hm] at HM
  clear hm h hg hmn hw hel
  rw [show m.v = .agg m.cs.toArray from rfl]
  generalize mnB m.m = EB at *
  generalize MPutPost w m.m = POST at *
  generalize m.base = z at *
  generalize m.ls = es at *
  generalize m.A = eA at *
  generalize m.c = eC at *
  generalize hnb : es.length = nb at *
  have HNB := Lib.hid hnb
  clear hnb
  go_enter Tryd.func8, Tryd.ntmps8
  go_wp2_with (first | ((with_reducible refine wpList_load_at (o := ⟨some 7, .load 26 (.tmp 1), _, _, _, _⟩) ?e1 26 (.tmp 1) ?e2 ⟨w.heap.size, 0, none⟩ ?e3 _ LM.out ?_); (case e1 => rfl); (case e2 => rfl); (case e3 => rfl)) | fail)
  refine HM.out.mono ?_
  rintro e w2 ⟨rfl, hb1⟩
  have C2 := Lib.hid hb1
  have B2 := Lib.hid (BX.out.trans (hb1.mono BX.out.size))
  clear hb1
  go_wp2_with fail
  refine wp_region_held_drew (S := fun w' => Below w2.heap.size w2 w') (by kernel_rfl) ((Below.refl w2.heap.size w2).drew) (fun hS => ?_)
  have G2 := Lib.hid ((Below.refl w2.heap.size w2).drew)
  have HY32 := Lib.hid (fun X (hX : Below w2.heap.size w2 X) => HX32.out X (C2.out.trans (hX.mono C2.out.size)))
  have HYB := Lib.hid (fun X (hX : Below w2.heap.size w2 X) => HXB.out X (C2.out.trans (hX.mono C2.out.size)))
  clear HX32 HXB LM HM
  generalize World.drew _ = X0 at *
  refine wpHv (i := 0) (oi := ⟨some 10, _, _, _, _, _⟩) (v := ?_) rfl ?_ hS ?_; rotate_left; (focus (intro w9 hSw; go_simp; try with_reducible rfl)); simp only [Act.put, Z2, Z3, Z4]
  refine wpHv (i := 1) (oi := ⟨some 11, _, _, _, _, _⟩) (v := (.slice (some ⟨w.heap.size, 0, none⟩) 32 32)) rfl ?_ hS ?_; (focus (intro w9 hSw; have q0 := sl_dig w.heap.size 0 w9; go_simp; try rfl)); simp only [Act.put, Z2, Z3, Z4]
  refine wpHv (i := 2) (oi := ⟨some 12, _, _, _, _, _⟩) (v := ?_) rfl ?_ hS ?_; rotate_left; (focus (intro w9 hSw; go_simp; try with_reducible rfl)); simp only [Act.put, Z2, Z3, Z4]
  refine wpHv (i := 3) (oi := ⟨some 13, _, _, _, _, _⟩) (v := ?_) rfl ?_ hS ?_; rotate_left; (focus (intro w9 hSw; have q0 := HY32.out w9 hSw; go_simp; try with_reducible rfl)); simp only [Act.put, Z2, Z3, Z4]
  refine wpHv (i := 4) (oi := ⟨some 14, _, _, _, _, _⟩) (v := ?_) rfl ?_ hS ?_; rotate_left; (focus (intro w9 hSw; go_simp; try with_reducible rfl)); simp only [Act.put, Z2, Z3, Z4]
  refine wpHv (i := 5) (oi := ⟨some 15, _, _, _, _, _⟩) (v := (.int .u64 nb)) rfl ?_ hS ?_; (focus (intro w9 hSw; have q0 := HWU.out; go_simp; try rfl)); simp only [Act.put, Z2, Z3, Z4]
  refine wpAnyH_ready (rs := [6]) (by kernel_rfl) (by simp) (AllReadyH.cons (o := ⟨some 16, _, _, _, _, _⟩) rfl (fun K hK => ?_) AllReadyH.nil)
  go_simp
  refine (HPG.out _).mono ?_
  rintro e4 X4 ⟨A3, n3, k3, rfl, hn3, hnk3, hkm3, hown3, hb3⟩
  have G4 := Lib.hid (G2.out.trans (hb3.mono G2.out.size))
  have T22 := Lib.hid (BsAt.own hown3)
  clear hn3 hnk3 hkm3 hown3 hb3
  refine hK.out _ _ G4.out (fun hS => ?_)
  clear hK K
  try simp only [Act.put, Z2, Z3, Z4]
  have T24 := Lib.hid (dig_byt (HYB.out X4 G4.out) HD.out (by have := hlt1.out; have := C2.out.size; have := G4.out.size; omega))
  refine wpAnyH_ready (rs := [7]) (by kernel_rfl) (by simp) (AllReadyH.cons (o := ⟨some 17, _, _, _, _, _⟩) rfl (fun K hK => ?_) AllReadyH.nil)
  go_simp
  refine hK.out _ _ (G4.out.alloc G4.out.size (.cells #[.slice (some ⟨w.heap.size, 0, none⟩) 32 32, .slice A3 n3 k3] 27)) (fun hS => ?_)
  clear hK K
  try simp only [Act.put, Z2, Z3, Z4]
  have BA := (Below.refl X4.heap.size X4).alloc (Nat.le_refl _) (.cells #[.slice (some ⟨w.heap.size, 0, none⟩) 32 32, .slice A3 n3 k3] 27)
  have hh : (X4.alloc (.cells #[.slice (some ⟨w.heap.size, 0, none⟩) 32 32, .slice A3 n3 k3] 27)).heap[X4.heap.size]? = some (.cells #[.slice (some ⟨w.heap.size, 0, none⟩) 32 32, .slice A3 n3 k3] 27) := heap_alloc_new X4 _
  have HC := Lib.hid (concat2_any X4.heap.size (some ⟨w.heap.size, 0, none⟩) A3 32 n3 32 k3 z (enc (nb : Int)) _ (by rw [World.size_alloc]; omega) (by rw [cell_of_row _ _ _ _ _ _ hh]; rfl) (by rw [cell_of_row _ _ _ _ _ _ hh]; rfl) (T24.out.below BA (Nat.le_refl _)) (T22.out.below BA (Nat.le_refl _)) (by have := T22.out.2.1; have := HE2.out; omega) (by omega))
  have G5 := Lib.hid (G4.out.alloc G4.out.size (.cells #[.slice (some ⟨w.heap.size, 0, none⟩) 32 32, .slice A3 n3 k3] 27))
  clear BA hh
  generalize X4.alloc (.cells #[.slice (some ⟨w.heap.size, 0, none⟩) 32 32, .slice A3 n3 k3] 27) = X5 at *
  refine wpAnyH_ready (rs := [8]) (by kernel_rfl) (by simp) (AllReadyH.cons (o := ⟨some 18, _, _, _, _, _⟩) rfl (fun K hK => ?_) AllReadyH.nil)
  go_simp
  refine HC.out.mono ?_
  rintro e6 w6 ⟨A6, n6, k6, rfl, hn6, hnk6, hkm6, hown6, hb6⟩
  have G6 := Lib.hid (G5.out.trans (hb6.mono G5.out.size))
  have B6 := Lib.hid (B2.out.trans (G6.out.mono B2.out.size))
  have O6 := Lib.hid (own_wide hown6 (Nat.le_trans B2.out.size G5.out.size))
  have HN6 := Lib.hid hn6
  clear hn6 hnk6 hkm6 hown6 hb6
  refine hK.out _ _ G6.out (fun hS => ?_)
  clear hK K
  try simp only [Act.put, Z2, Z3, Z4]
  refine wpHv (i := 9) (oi := ⟨some 4, _, _, _, _, _⟩) (v := ?_) rfl ?_ hS ?_; rotate_left; (focus (intro w9 hSw; go_simp; try with_reducible rfl)); simp only [Act.put, Z2, Z3, Z4]
  refine wpAnyH_done (by kernel_rfl) ?_ _
  clear hS
  have x18 := HY32.out w6 G6.out
  have HH : Hid ((z ++ enc (nb : Int)).length ≤ 100) := Lib.hid (by simp only [List.length_append, HD.out]; have := HE2.out; omega)
  have HRV := Lib.hid (show (z ++ enc (nb : Int)) ++ (es.take 0).flatMap (fun y : LnA => lnB y.x) = z ++ enc (nb : Int) by simp)
  generalize z ++ enc (nb : Int) = H at *
  have hz := zeroLn
  rw [show KLn.v lnA0 = .agg (KLn.cs lnA0).toArray from rfl] at hz
  have hzne : ¬ (KLn.cs lnA0).toArray = #[] := by decide
  obtain ⟨i0, hi, hz0, hz1, hz2⟩ := info_parts infoByte
  clear HYB HY32 HPG HWU
  go_wp2
  clear x18
  go_loopw [4, 22] (fun v i wr => ∃ (k m : Nat), k ≤ nb ∧ i = .int .i64 k ∧ wr.ownsRow w.heap.size 5 1 v m ((H ++ (es.take k).flatMap (fun y => lnB y.x)).map (Value.int .u8)) ∧ Below w.heap.size w wr) (fun _ i _ => nb - (intOf i).toNat)
  case atStart => exact ⟨0, n6, Nat.zero_le _, rfl, by rw [HRV.out]; exact O6.out, B6.out⟩
  case round =>
   obtain ⟨k, m, hk, rfl, ho, hb⟩ := hrel
   have HO := Lib.hid ho
   have HBB := Lib.hid hb
   have hnb25 : nb ≤ 10 := HNM.out
   by_cases hlt : k < nb
   ·have t2 : (k : Int) < (nb : Int) := by omega
    have HLT := Lib.hid hlt
    have hkb : k < es.length := by rw [HNB.out]; exact hlt
    obtain ⟨b9, off9, hA9, hb9, hat9, hix9⟩ := HSB.out (by omega)
    have hml : m = (H ++ (es.take k).flatMap (fun y => lnB y.x)).length := by simpa using ho.1.symm
    have hlb := flat_most (B := fun y => lnB y.x) (k := 7660) (l := es.take k) fun b hb => HLB.out b (List.mem_of_mem_take hb)
    have hHH := HH.out
    rw [List.length_take, Nat.min_eq_left (by omega)] at hlb
    rw [List.length_append] at hml
    have HM9 := Lib.hid (show m ≤ 100000 by omega)
    have HNX := Lib.hid (flat_take (B := fun y => lnB y.x) lnA0 hkb H)
    have XOK := Lib.hid (HBO.out _ (mem_getD lnA0 hkb))
    have XWF := Lib.hid (HBW.out _ (mem_getD lnA0 hkb))
    have XLB := Lib.hid (HLB.out _ (mem_getD lnA0 hkb))
    have HL9 := Lib.hid (load_ln (Kind.at_same (hat9 k hlt) (hb.block b9 hb9)) (KLn.below XOK.out hb))
    have IX9 := Lib.hid (hix9 k hlt k rfl)
    generalize es.getD k lnA0 = x at *
    generalize hP : H ++ (es.take k).flatMap (fun y => lnB y.x) = P at *
    have ix := IX9.out wr
    rw [← hA9] at ix
    clear hA9
    have SZ1 := Lib.hid (ln_size XOK.out)
    have SQ1 := Lib.hid (show (KLn.cs lnA0).toArray.size = (KLn.cs x).toArray.size by rw [lnA0_size, List.size_toArray]; exact (Kind.len KLn XOK.out).symm)
    have SO1 := Lib.hid (ln_ones x)
    have B1 := Lib.hid (hb.alloc hb.size (.cells (KLn.cs x).toArray 49))
    have O1 := Lib.hid (ho.alloc (.cells (KLn.cs x).toArray 49))
    have L1 := Lib.hid (load_ln (Kind.at_blk (K := KLn) (Kind.blk_new (K := KLn) wr x 49)) (KLn.below XOK.out B1.out))
    have HPE := putLine_any x (wr.alloc (.cells (KLn.cs x).toArray 49)) (KLn.below XOK.out B1.out) XWF.out
    unfold Gives at HPE
    have HPE := Lib.hid HPE
    clear hml hlb hHH ho hb hat9 hix9 hP
    go_wp2_with (first | ((with_reducible refine wpList_load_at (o := ⟨some 25, .load 49 (.tmp 24), _, _, _, _⟩) ?e1 49 (.tmp 24) ?e2 ⟨b9, off9 + k * 19, none⟩ ?e3 _ HL9.out ?_); (case e1 => rfl); (case e2 => rfl); (case e3 => rfl)) | ((with_reducible refine wpList_store_new (o := ⟨none, .store 49 (.tmp 6) (.tmp 25), _, _, _, _⟩) ?e1 49 (.tmp 6) (.tmp 25) ?e2 ?e3 (KLn.cs lnA0).toArray (KLn.cs x).toArray ?e4 SZ1.out SQ1.out SO1.out ?_); (case e1 => rfl); (case e2 => rfl); (case e3 => rfl); (case e4 => rfl)) | ((with_reducible refine wpList_load_at (o := ⟨some 27, .load 49 (.tmp 6), _, _, _, _⟩) ?e1 49 (.tmp 6) ?e2 ⟨wr.heap.size, 0, none⟩ ?e3 _ L1.out ?_); (case e1 => rfl); (case e2 => rfl); (case e3 => rfl)) | fail)
    refine HPE.out.mono ?_
    rintro e7 w7 ⟨A7, n7, k7, rfl, hn7, hnk7, hkm7, hown7, hb7⟩
    have B7 := Lib.hid (B1.out.trans (hb7.mono B1.out.size))
    have O7 := Lib.hid (own_below O1.out hb7)
    have S7 := Lib.hid (BsAt.own hown7)
    have HN7 := Lib.hid hn7
    clear hn7 hnk7 hkm7 hown7 hb7 ix
    go_wp2_with (at_builtin; refine wpList_append_byt _ rfl (.tmp 26) (.tmp 28) 27 rfl w.heap.size 5 i0 Tryd.underlying27 hi hz0 hz1 hz2 _ m P rfl O7.out _ A7 n7 k7 _ rfl S7.out.1 S7.out.2.1 S7.out.2.2 (by have := HN7.out; have := XLB.out; have := HM9.out; omega) B7.out.size ?_; intro v9 w9 ho9 hg9; have O9 := Lib.hid ho9; have B10 := Lib.hid (B7.out.grown hg9 B7.out.size (fun g hg => own_base O7.out hg)); clear ho9 hg9)
    go_roundw
    case rel => exact ⟨k + 1, m + n7, by have := HLT.out; omega, by go_num, by rw [HNX.out]; exact O9.out, B10.out⟩
    case measure => have := HLT.out; simp [intOf]; omega
   ·have hkn : k = nb := by omega
    subst hkn
    have t1 : ¬ (k : Int) < (k : Int) := by omega
    clear ho hb
    have HOE := Lib.hid (show H ++ (es.take k).flatMap (fun y : LnA => lnB y.x) = EB by rw [HENB.out, ← HNB.out, List.take_length])
    rw [HOE.out] at HO
    obtain ⟨g4, c4, hv4, hlc4, hcm4⟩ : ∃ g4 c4, u4 = .slice g4 m c4 ∧ m ≤ c4 ∧ (g4 = none → c4 = 0) := by
     rcases HO.out.2 with ⟨h1, h2⟩ | ⟨g, cp, cur, h1, h2, h3, h4, _⟩
     ·exact ⟨none, 0, by rw [h1, h2], by omega, fun _ => rfl⟩
     ·exact ⟨_, cp, h1, h4, fun h => by cases h⟩
    subst hv4
    have HME : EB.length = m := by have := HO.out.1; rw [List.length_map] at this; omega
    have HPK := pack_yes 1 g4 m c4 EB wr (by decide) (by decide) (by have := HMB.out.2; omega) (BsAt.own HO.out).1 HME HMB.out.1 (Nat.le_refl _) hcm4
    unfold GivesT at HPK
    have HPK := Lib.hid HPK
    clear hlc4 hcm4 HME
    go_wp2_with fail
    refine HPK.out.mono ?_
    rintro e9 w9 ⟨A9, n9, k9, rfl, hn9, hnk9, hkm9, hown9, hb9⟩
    have HFIN := Lib.hid (HV.out _ _ (givesT_own (own_wide hown9 HBB.out.size) (HBB.out.trans (hb9.mono HBB.out.size))))
    clear hn9 hnk9 hkm9 hown9 hb9
    go_wp2
    first | exact HFIN.out | (go_ret2; exact HFIN.out)
end
section
open Go.RowKit WM
set_option maxRecDepth 100000
theorem MnA.Ok.below {w w' : World} {B : Nat} {m : MnA} (h : MnA.Ok w m) (hb : Below B w w') (hB : w.heap.size ≤ B) : MnA.Ok w' m := MnA.below h (hb.mono hB)
def RowAt (T : TypeId) (w : World) (b : Nat) (E : Array Value) : Prop := w.heap[b]? = some (.cells E T)
section
variable {T : TypeId} {w w' : World} {b B : Nat} {E : Array Value}
theorem RowAt.lt (h : RowAt T w b E) : b < w.heap.size := (Array.getElem?_eq_some_iff.1 h).1
theorem RowAt.below (h : RowAt T w b E) (hb : Below B w w') (hB : b < B) : RowAt T w' b E := (hb.block b hB).trans h
theorem RowAt.new (w : World) (E : Array Value) (T : TypeId) : RowAt T (w.alloc (.cells E T)) w.heap.size E := heap_alloc_new w _
theorem RowAt.old (h : RowAt T w b E) (o : Obj) : RowAt T (w.alloc o) b E := h.below ((Below.refl w.heap.size w).alloc (Nat.le_refl _) o) h.lt
theorem RowAt.mn {m : MnA} (h : RowAt 26 w b m.cs.toArray) (hl : m.cs.length = 33) : (loadVar 26 ⟨b, 0, none⟩).run Tryd.prog w = .ok (.agg m.cs.toArray) w :=
 Kind.at_load (K := KMn) (x := m) (Kind.at_blk (K := KMn) (t := 26) h) hl Tryd.underlying26 rfl (by obtain ⟨i, hi, _, hs, _⟩ := info_parts infoMn; rw [hi]; exact congrArg some hs)
end
end
section
open Go.RowKit WM
set_option maxRecDepth 100000
theorem drop_map9 {α β : Type} (f : α → β) (d : α) {xs : List α} {k : Nat} (hk : k < xs.length) : (xs.map f).drop k = f (xs.getD k d) :: (xs.map f).drop (k + 1) := by
 rw [List.drop_eq_getElem_cons (by rw [List.length_map]; exact hk), List.getElem_map, List.getD_eq_getElem?_getD, List.getElem?_eq_getElem hk]
 rfl
structure Ln2 (w : World) (x y : LnA) (X : World) : Prop where
 a : KLn.blk 49 X w.heap.size x
 b : KLn.blk 49 X (w.heap.size + 1) y
 below : Below w.heap.size w X
theorem Ln2.new (w : World) (x y : LnA) : Ln2 w x y ((w.alloc (.cells (KLn.cs x).toArray 49)).alloc (.cells (KLn.cs y).toArray 49)) := by
 refine ⟨Kind.blk_old (Kind.blk_new w x _) _, ?_, ((Below.refl _ _).alloc (Nat.le_refl _) _).alloc (by rw [World.size_alloc]; omega) _⟩
 have := Kind.blk_new (K := KLn) (w.alloc (.cells (KLn.cs x).toArray 49)) y 49
 rw [World.size_alloc] at this
 exact this
theorem ln_eq (x y : Ln) : decide (x = y) = (decide (x.z = y.z) && (decide (x.n = y.n ∧ x.r = y.r) && decide (x.es = y.es))) := by
 obtain ⟨a, b, c, d⟩ := x
 obtain ⟨a', b', c', d'⟩ := y
 rw [Bool.eq_iff_iff]
 simp only [Bool.and_eq_true, decide_eq_true_eq, Ln.mk.injEq]
 constructor
 ·rintro ⟨h1, h2, h3, h4⟩; exact ⟨h1, ⟨h2, h3⟩, h4⟩
 ·rintro ⟨h1, ⟨h2, h3⟩, h4⟩; exact ⟨h1, h2, h3, h4⟩
end
end Go.Proofs.YtkjimhlpbgeagaaDoor
