import Derived.Test.YtbkopnpafmjicaaGreatDoorQ0
import Derived.Test.YtbkopnpafmjicaaGreatDoorQ28
import Derived.Test.YtbkopnpafmjicaaGreatDoorQ37
import Derived.Test.YtbkopnpafmjicaaGreatDoorQ39
import Derived.Test.YtbkopnpafmjicaaGreatDoorQ18
/-
  What the functions that a law of this layer reaches answer, part 40. Nothing that was there is written.
-/
namespace Go.Proofs.YtbkopnpafmjicaaGreatDoor
set_option linter.unusedVariables false
set_option linter.unusedSimpArgs false
section
open Go.RowKit WM
set_option maxRecDepth 100000
set_option maxHeartbeats 32000000 in
theorem rof12_any (d : Bk) (w : World) (h : BkAt w d) (hfs : ∀ x ∈ d.xs, x.R.fs.length ≤ 1000) (hbl : d.xs.length ≤ 1000) : Calls Tryz.prog 13 #[.agg #[.slice d.A d.xs.length d.c]] w (MofPost w (mofB d.rs)) := by
 have HBK := Lib.hid h
 have T1 := (BoAt.new w (.slice d.A d.xs.length d.c)).old (.cells mnA0.cs.toArray 29)
 have M1 : MnAt ((w.alloc (.cells #[.slice d.A d.xs.length d.c] 24)).alloc (.cells mnA0.cs.toArray 29)) (w.heap.size + 1) mnA0 := by
  have := MnAt.new (w.alloc (.cells #[.slice d.A d.xs.length d.c] 24)) mnA0
  rw [World.size_alloc] at this
  exact this
 have B1 := Lib.hid (((Below.refl w.heap.size w).alloc (Nat.le_refl _) (.cells #[.slice d.A d.xs.length d.c] 24)).alloc (by rw [World.size_alloc]; omega) (.cells mnA0.cs.toArray 29))
 have HCM := Lib.hid (rbmay_any d _ (h.below B1.out (Nat.le_refl _)) hfs hbl)
 have HCD := Lib.hid (fun X (hX : Below w.heap.size w X) => rdigest_any d X (h.below hX (Nat.le_refl _)) hfs hbl)
 unfold DSumPost at HCD
 have LB1 := Lib.hid T1.load
 have TT1 := Lib.hid T1
 have MM1 := Lib.hid M1
 have hz := zeroMn
 rw [show mnA0.v = .agg mnA0.cs.toArray from rfl] at hz
 have hzne : ¬ mnA0.cs.toArray = #[] := by decide
 have HRV := Lib.hid (fun i (hi : i < d.xs.length) => RsAt.rv h hi)
 have HCELL := Lib.hid h.2.2.2.1
 have hlc := h.1
 have hcm := h.2.1
 simp only [maxLen] at hcm
 have HV := Lib.hid (show mofB d.rs = if bmay d.rs = true then some (mof SH.sum (SH.sum (bbs d.rs)) d.rs) else none from rfl)
 have HMB := Lib.hid (show bmay d.rs = true → ∀ k, k < d.xs.length → Rc.may (d.xs.getD k rcA0).R = true from fun hm k hk => (bmay_iff.1 hm).2.1 _ (List.mem_map.2 ⟨_, by rw [List.getD_eq_getElem?_getD, List.getElem?_eq_getElem hk]; exact List.getElem_mem _, rfl⟩))
 have HM10 := Lib.hid (show bmay d.rs = true → d.xs.length ≤ 10 from fun hm => by have := (bmay_iff.1 hm).1; unfold Bk.rs at this; rwa [List.length_map] at this)
 have HRS := Lib.hid (show ∀ k, k < d.xs.length → d.rs.take (k + 1) = d.rs.take k ++ [(d.xs.getD k rcA0).R] from fun k hk => by
  unfold Bk.rs
  rw [List.take_succ_eq_append_getElem (by rw [List.length_map]; exact hk), List.getElem_map, List.getD_eq_getElem?_getD, List.getElem?_eq_getElem hk]
  rfl)
 have HRL := Lib.hid (show d.rs.length = d.xs.length by unfold Bk.rs; rw [List.length_map])
 have HDL := Lib.hid (SH.sum_len (bbs d.rs))
 have HDB := Lib.hid (SH.sum_bytes (bbs d.rs))
 generalize mofB d.rs = V at *
 generalize SH.sum (bbs d.rs) = D at *
 generalize hrs : d.rs = rs at *
 obtain ⟨xs, A, c⟩ := d
 dsimp only at *
 have HSZ0 := Lib.hid (show ∀ X : World, X = ((w.alloc (.cells #[.slice A xs.length c] 24)).alloc (.cells mnA0.cs.toArray 29)) → X.heap.size = w.heap.size + 1 + 1 from fun X e => by rw [e]; simp [World.size_alloc])
 generalize hnl : xs.length = n at *
 clear T1 M1 h hrs hfs hbl
 cases hm : bmay rs
 ·rw [hm] at HCM HV
  have HF := Lib.hid (show V = none by rw [HV.out]; rfl)
  clear HV HMB HM10 hm
  have HB0 := Lib.hid buildMn0
  go_enter Tryz.func13, Tryz.ntmps13
  go_wp2_with (first | ((with_reducible refine wpList_load_at (o := ⟨some 10, .load 24 (.tmp 1), _, _, _, _⟩) ?e1 24 (.tmp 1) ?e2 ⟨w.heap.size, 0, none⟩ ?e3 _ LB1.out ?_); (case e1 => rfl); (case e2 => rfl); (case e3 => rfl)))
  refine HCM.out.mono ?_
  rintro e w1 ⟨rfl, hb1⟩
  have M2 := Lib.hid (MM1.out.below hb1 MM1.out.lt)
  have B2 := Lib.hid (B1.out.trans (hb1.mono B1.out.size))
  have SZ0 := Lib.hid (mn_size (mnA0_ok w1))
  have SO0 := Lib.hid (mn_ones mnA0)
  have XB := Lib.hid (show MnAt (w1.setRow (w.heap.size + 1) mnA0.cs.toArray) (w.heap.size + 1) mnA0 from setRow_heap _ _ _ _ _ _ M2.out)
  have BX := Lib.hid (below_setRow B2.out (show w.heap.size ≤ w.heap.size + 1 by omega) mnA0.cs.toArray)
  have NB := Lib.hid M2.out
  unfold MnAt at NB
  clear hb1
  go_wp2_with (first | ((with_reducible refine wpList_build_at (o := ⟨some 14, .build 29 #[], _, _, _, _⟩) ?e1 29 #[] ?e2 #[] ?e3 _ (HB0.out _) ?_); (case e1 => rfl); (case e2 => rfl); (case e3 => simp)) | ((with_reducible refine wpList_store_row (o := ⟨none, .store 29 (.tmp 2) (.tmp 14), _, _, _, _⟩) ?e1 29 (.tmp 2) (.tmp 14) ?e2 (w.heap.size + 1) mnA0.cs.toArray ?e3 ?e4 29 _ NB.out SZ0.out rfl SO0.out ?_); (case e1 => rfl); (case e2 => rfl); (case e3 => rfl); (case e4 => rfl)))
  refine bodyPost_ret (v := .tuple #[mnA0.v, .bool false]) ?_ rfl ?_
  ·exact res_mn2 Tryz.results13 rfl XB.out (mnA0_ok _)
  ·rw [HF.out]
   exact ⟨mnA0, rfl, rfl, mnA0_ok _, BX.out⟩
 ·rw [hm] at HCM HV
  have HF := Lib.hid (show V = some (mof SH.sum D rs) by rw [HV.out]; rfl)
  have HMB := Lib.hid (HMB.out hm)
  have HM10 := Lib.hid (HM10.out hm)
  clear HV hm
  have HB1 := Lib.hid (build_mn HDL.out)
  have SZ1 := Lib.hid (size_pre (v := Value.slice none 0 0) (show (Tryz.prog.info? 29).map (·.size) = some (32 + 1) by kernel_rfl) (mnP_len HDL.out))
  have SQ1 := Lib.hid (show mnA0.cs.toArray.size = (mnP D ++ [Value.slice none 0 0]).toArray.size by rw [mnA0_size, List.size_toArray, List.length_append, ← mnP_len HDL.out]; rfl)
  have SO1 := Lib.hid (mnP_one D (v := .slice none 0 0) rfl)
  have HP32 := Lib.hid (mnP_len HDL.out)
  generalize hE2 : (mnP D ++ [Value.slice none 0 0]).toArray = E2 at *
  go_enter Tryz.func13, Tryz.ntmps13
  go_wp2_with (first | ((with_reducible refine wpList_load_at (o := ⟨some 10, .load 24 (.tmp 1), _, _, _, _⟩) ?e1 24 (.tmp 1) ?e2 ⟨w.heap.size, 0, none⟩ ?e3 _ LB1.out ?_); (case e1 => rfl); (case e2 => rfl); (case e3 => rfl)))
  refine HCM.out.mono ?_
  rintro e w1 ⟨rfl, hb1⟩
  have T2 := Lib.hid (TT1.out.below hb1 TT1.out.lt)
  have M2 := Lib.hid (MM1.out.below hb1 MM1.out.lt)
  have B2 := Lib.hid (B1.out.trans (hb1.mono B1.out.size))
  have HS1 := Lib.hid (show w.heap.size + 1 + 1 ≤ w1.heap.size by have := hb1.size; rw [HSZ0.out _ rfl] at this; exact this)
  have LB2 := Lib.hid T2.out.load
  clear hb1
  go_wp2_with (first | ((with_reducible refine wpList_load_at (o := ⟨some 15, .load 24 (.tmp 1), _, _, _, _⟩) ?e1 24 (.tmp 1) ?e2 ⟨w.heap.size, 0, none⟩ ?e3 _ LB2.out ?_); (case e1 => rfl); (case e2 => rfl); (case e3 => rfl)))
  refine (HCD.out w1 B2.out).mono ?_
  rintro e w2 ⟨rfl, hb2⟩
  have T3 := Lib.hid (T2.out.below hb2 T2.out.lt)
  have M3 := Lib.hid (M2.out.below hb2 M2.out.lt)
  have B3 := Lib.hid (B2.out.trans (hb2.mono B2.out.size))
  have HS2 := Lib.hid (show w.heap.size + 1 + 1 ≤ w2.heap.size from Nat.le_trans HS1.out hb2.size)
  clear hb2
  go_wp2_with (first | ((with_reducible refine wpList_build_at (o := ⟨some 17, .build 29 #[(0, .tmp 16)], _, _, _, _⟩) ?e1 29 #[(0, .tmp 16)] ?e2 #[(0, .agg (bvals D))] ?e3 _ (HB1.out _) ?_); (case e1 => rfl); (case e2 => rfl); (case e3 => (simp only [List.map_toArray, List.map_cons, List.map_nil]; rfl))) | ((with_reducible refine wpList_store_new (o := ⟨none, .store 29 (.tmp 5) (.tmp 17), _, _, _, _⟩) ?e1 29 (.tmp 5) (.tmp 17) ?e2 ?e3 mnA0.cs.toArray E2 ?e4 SZ1.out SQ1.out SO1.out ?_); (case e1 => rfl); (case e2 => rfl); (case e3 => rfl); (case e4 => rfl)))
  have J0 : RJ TLn 43 29 w2.heap.size (w2.heap.size + 1) (mnP D) (.slice none 0 0) [] (w2.alloc (.cells E2 29)) := by
   refine ⟨?_, World.ownsRow_nil _ _ _ _, (fun e he => by cases he), by omega, by rw [World.size_alloc]; exact Nat.le_refl _⟩
   rw [hE2]
   exact heap_alloc_new w2 _
  have JJ0 := Lib.hid J0
  have BW0 := Lib.hid (B3.out.alloc B3.out.size (.cells E2 29))
  have HWS := Lib.hid (World.size_alloc w2 (.cells E2 29))
  have M4 := Lib.hid (M3.out.below ((Below.refl _ _).alloc (Nat.le_refl _) (.cells E2 29)) M3.out.lt)
  have T4 := Lib.hid (T3.out.old (.cells E2 29))
  generalize hW0 : w2.alloc (.cells E2 29) = W0 at *
  generalize w2.heap.size = bl at *
  have HBL := Lib.hid (show bl ≤ W0.heap.size by have := HWS.out; omega)
  have HWL := Lib.hid (show w.heap.size ≤ bl by have := HS2.out; omega)
  clear J0 hW0 hE2 hz hzne
  clear HB1 SZ1 SQ1 SO1
  go_loopw [6] (fun i wr => ∃ (k : Nat) (ls : List LnA) (v : Value), k ≤ n ∧ i = .int .i64 k ∧ ls.length = k ∧ Below bl W0 wr ∧ RJ TLn 43 29 bl (bl + 1) (mnP D) v ls wr ∧ ls.map (fun l : LnA => l.x) = (rs.take k).map (mofL SH.sum)) (fun i _ => n - (intOf i).toNat)
  case atStart => exact ⟨0, [], .slice none 0 0, Nat.zero_le _, rfl, rfl, Below.refl _ _, JJ0.out, rfl⟩
  case round =>
   obtain ⟨k, ls, v, hk, rfl, hke, hb, hJ, hmp⟩ := hrel
   have HBW := Lib.hid hb
   have HKN := Lib.hid hk
   have HKL := Lib.hid hke
   have HML := Lib.hid hmp
   have HJ := Lib.hid hJ
   have BWR := Lib.hid (BW0.out.trans (hb.mono HWL.out))
   have HS0 := Lib.hid (fun X (hX : Below wr.heap.size wr X) => BoAt.c0 ((T4.out.below hb (by have := HS2.out; omega)).below hX (by have := (T4.out.below hb (by have := HS2.out; omega)).lt; exact this)))
   have s0 := HS0.out wr (Below.refl _ _)
   clear hJ hmp hke
   by_cases hlt : k < n
   ·have t1 : (k : Int) < (n : Int) := by omega
    obtain ⟨b, off, hA, hbB, hcc⟩ := HCELL.out (by omega)
    have hx := hcc k hlt
    have HX8 := Lib.hid (fun X (hX : Below wr.heap.size wr X) => (hcc k hlt).same ((BWR.out.trans (hX.mono BWR.out.size)).block b hbB))
    have IX := Lib.hid (ix_rec b off n c k hlt k rfl)
    rw [← hA] at IX
    have HXV := Lib.hid (HRV.out k hlt)
    have HXM := Lib.hid (HMB.out k hlt)
    have HTR := Lib.hid (HRS.out k hlt)
    generalize xs.getD k rcA0 = x at *
    generalize off + k * 19 = o at *
    have HFK := Lib.hid (may_FOk HXM.out)
    have HWN := Lib.hid (wf_may (by have h := HXM.out; unfold Rc.may rmay at h; simp only [Bool.and_eq_true] at h; exact h.1.1))
    have HFL := Lib.hid (rmay_len HXM.out)
    have HFC := Lib.hid HXV.out.2.2.2.2
    have hfc1 := HXV.out.2.1
    have hfc2 := HXV.out.2.2.1
    simp only [maxLen] at hfc2
    obtain ⟨⟨z, dn, dr, fs⟩, Af, cf⟩ := x
    have HZ : Hid (z.length = 16 ∧ AllBytes z) := Lib.hid HXV.out.1
    have HB1 := Lib.hid (build_ln HZ.out.1 dn dr)
    have SZ3 := Lib.hid (size_pre (v := Value.slice none 0 0) (show (Tryz.prog.info? 43).map (·.size) = some (18 + 1) by kernel_rfl) (lnP_len HZ.out.1 dn dr))
    have SQ3 := Lib.hid (show (KLn.cs lnA0).toArray.size = (lnP z dn dr ++ [Value.slice none 0 0]).toArray.size by rw [lnA0_size, List.size_toArray, List.length_append, ← lnP_len HZ.out.1]; rfl)
    have SO3 := Lib.hid (lnP_one z dn dr (v := .slice none 0 0) rfl)
    have HP18 := Lib.hid (lnP_len HZ.out.1 dn dr)
    generalize hE3 : (lnP z dn dr ++ [Value.slice none 0 0]).toArray = E3 at *
    dsimp only at *
    have HC18 := Lib.hid (fun X (hX : Below wr.heap.size wr X) => (HX8.out X hX).c18)
    dsimp only at HC18
    generalize hMl : fs.length = M at *
    have HM := Lib.hid hMl
    have HE3 := Lib.hid hE3
    have hz := zeroLn
    rw [show KLn.v lnA0 = .agg (KLn.cs lnA0).toArray from rfl] at hz
    have hzne : ¬ (KLn.cs lnA0).toArray = #[] := by decide
    have HHA := Lib.hid hA
    have HHB := Lib.hid hb
    clear hcc hb hx hA hMl hE3
    go_wp2_with fail
    refine wp_region_G _ (by kernel_rfl) ?_
    refine wpGv (i := 0) (oi := ⟨some 25, _, _, _, _, _⟩) (v := ?_) rfl ?_ ?_; rotate_left; (focus (intro w9 hSw; go_simp; try with_reducible rfl)); simp only [Act.put, Z2, Z3, Z4]
    refine wpGv (i := 1) (oi := ⟨some 26, _, _, _, _, _⟩) (v := ?_) rfl ?_ ?_; rotate_left; (focus (intro w9 hSw; have q0 := HS0.out w9 hSw; go_simp; try with_reducible rfl)); simp only [Act.put, Z2, Z3, Z4]
    refine wpGv (i := 2) (oi := ⟨some 27, _, _, _, _, _⟩) (v := ?_) rfl ?_ ?_; rotate_left; (focus (intro w9 hSw; go_simp; try with_reducible rfl)); simp only [Act.put, Z2, Z3, Z4]
    refine wpGv (i := 3) (oi := ⟨some 28, _, _, _, _, _⟩) (v := ?_) rfl ?_ ?_; rotate_left; (focus (intro w9 hSw; have q0 := IX.out w9; go_simp; try with_reducible rfl)); simp only [Act.put, Z2, Z3, Z4]
    refine wpGv (i := 4) (oi := ⟨some 29, _, _, _, _, _⟩) (v := ?_) rfl ?_ ?_; rotate_left; (focus (intro w9 hSw; go_simp; try with_reducible rfl)); simp only [Act.put, Z2, Z3, Z4]
    refine wpGv (i := 5) (oi := ⟨some 30, _, _, _, _, _⟩) (v := (.agg (bvals z))) rfl ?_ ?_; (focus (intro w9 hSw; exact exec_load_at 38 _ rfl _ rfl (HX8.out w9 hSw).load_id)); simp only [Act.put, Z2, Z3, Z4]
    refine wpGv (i := 6) (oi := ⟨some 31, _, _, _, _, _⟩) (v := ?_) rfl ?_ ?_; rotate_left; (focus (intro w9 hSw; go_simp; try with_reducible rfl)); simp only [Act.put, Z2, Z3, Z4]
    refine wpGv (i := 7) (oi := ⟨some 32, _, _, _, _, _⟩) (v := ?_) rfl ?_ ?_; rotate_left; (focus (intro w9 hSw; have q0 := HS0.out w9 hSw; go_simp; try with_reducible rfl)); simp only [Act.put, Z2, Z3, Z4]
    refine wpGv (i := 8) (oi := ⟨some 33, _, _, _, _, _⟩) (v := ?_) rfl ?_ ?_; rotate_left; (focus (intro w9 hSw; go_simp; try with_reducible rfl)); simp only [Act.put, Z2, Z3, Z4]
    refine wpGv (i := 9) (oi := ⟨some 34, _, _, _, _, _⟩) (v := ?_) rfl ?_ ?_; rotate_left; (focus (intro w9 hSw; have q0 := IX.out w9; go_simp; try with_reducible rfl)); simp only [Act.put, Z2, Z3, Z4]
    refine wpGv (i := 10) (oi := ⟨some 35, _, _, _, _, _⟩) (v := ?_) rfl ?_ ?_; rotate_left; (focus (intro w9 hSw; go_simp; try with_reducible rfl)); simp only [Act.put, Z2, Z3, Z4]
    refine wpGv (i := 11) (oi := ⟨some 36, _, _, _, _, _⟩) (v := ?_) rfl ?_ ?_; rotate_left; (focus (intro w9 hSw; have q0 := (HX8.out w9 hSw).c16; have q1 := (HX8.out w9 hSw).c17; go_simp; try with_reducible rfl)); simp only [Act.put, Z2, Z3, Z4]
    refine wpGv (i := 12) (oi := ⟨some 37, _, _, _, _, _⟩) (v := (.agg E3)) rfl ?_ ?_; (focus (intro w9 hSw; exact exec_build_at 43 #[(0, .tmp 30), (1, .tmp 36)] rfl _ (by simp only [List.map_toArray, List.map_cons, List.map_nil]; rfl) (HB1.out w9))); simp only [Act.put, Z2, Z3, Z4]
    refine wpG_alloc (i := 13) (oi := ⟨some 7, _, _, _, _, _⟩) (z := (KLn.cs lnA0).toArray) (t := 43) (by kernel_rfl) rfl ⟨by rfl, fun w9 hSw => by have hz9 := hz; go_simp; try rfl⟩ ?_; intro g hg ng; simp only [Act.put, Z2, Z3, Z4]
    refine wpG_store (i := 14) (oi := ⟨none, _, _, _, _, _⟩) (v := undef) [(g, E3, 43)] (by kernel_rfl) rfl ⟨by rfl, fun w9 hSw hO => ⟨_, Or.inr ⟨exec_store_at 43 _ _ rfl g E3 rfl rfl 43 _ (hO _ (.head _)) SZ3.out SQ3.out SO3.out, rfl⟩, below_setRow hSw hg E3, fun x hx => by obtain rfl := List.mem_singleton.1 hx; exact setRow_heap _ _ _ _ _ _ (hO _ (.head _))⟩⟩ ?_; simp only [Act.put]
    refine wpG_done (by kernel_rfl) ?_ _
    intro V0 hV0 hO
    have HG := Lib.hid (show V0.heap[g]? = some (.cells E3 43) from hO _ (.head _))
    have HGV := Lib.hid (show g < V0.heap.size from HasBlks.lt hO (.head _))
    have BR0 := Lib.hid hV0
    have BV0 := Lib.hid (BWR.out.trans (hV0.mono BWR.out.size))
    have HGL := Lib.hid (show g ≤ V0.heap.size from Nat.le_of_lt HGV.out)
    have HGR := Lib.hid hg
    have HWG := Lib.hid (show w.heap.size ≤ g from Nat.le_trans BWR.out.size hg)
    have I0 : RJ TEn 48 43 g V0.heap.size (lnP z dn dr) (.slice none 0 0) [] V0 := ⟨by rw [HE3.out]; exact HG.out, World.ownsRow_nil _ _ _ _, (fun e he => by cases he), HGV.out, Nat.le_refl _⟩
    have II0 := Lib.hid I0
    clear I0 hV0 hO hg ng s0 hz hzne
    go_wp2
    go_loopw [8] (fun i wr => ∃ (j : Nat) (es : List EnA) (vi : Value), j ≤ M ∧ i = .int .i64 j ∧ es.length = j ∧ Below g V0 wr ∧ RJ TEn 48 43 g V0.heap.size (lnP z dn dr) vi es wr ∧ es.map (fun e : EnA => e.e) = (fs.take j).map (mofE SH.sum)) (fun i _ => M - (intOf i).toNat)
    case atStart => exact ⟨0, [], .slice none 0 0, Nat.zero_le _, rfl, rfl, Below.refl _ _, II0.out, rfl⟩
    case round =>
     obtain ⟨j, es, vi, hj, rfl, hke, hbi, hI, hmp⟩ := hrel
     have HJN := Lib.hid hj
     have HKE := Lib.hid hke
     have HMP := Lib.hid hmp
     have HI := Lib.hid hI
     have BRI := Lib.hid (BR0.out.trans (hbi.mono HGR.out))
     have BWI := Lib.hid (BV0.out.trans (hbi.mono HWG.out))
     have s0 := HS0.out wr BRI.out
     have r18 := HC18.out wr BRI.out
     have ix1 := IX.out wr
     clear hI hmp hke
     by_cases hjt : j < M
     ·have t2 : (j : Int) < (M : Int) := by omega
      obtain ⟨bf, offf, hAf, hbf, hcf⟩ := HFC.out (by omega)
      obtain ⟨c0, c1, c2, c3⟩ := hcf j hjt
      have c0 := (BWI.out.cell (p := ⟨bf, offf + j * 4, none⟩) hbf).trans c0
      have c1 := (BWI.out.cell (p := ⟨bf, offf + j * 4 + 1, none⟩) hbf).trans c1
      have c2 := (BWI.out.cell (p := ⟨bf, offf + j * 4 + 2, none⟩) hbf).trans c2
      have c3 := (BWI.out.cell (p := ⟨bf, offf + j * 4 + 3, none⟩) hbf).trans c3
      have IXF := ix_fld bf offf M cf j hjt j rfl
      rw [← hAf] at IXF
      have HFOk := HFK.out (fs.getD j fld0) (by rw [List.getD_eq_getElem?_getD, List.getElem?_eq_getElem (by rw [HM.out]; exact hjt)]; exact List.getElem_mem _)
      have HTK := Lib.hid (show fs.take (j + 1) = fs.take j ++ [fs.getD j fld0] by
       rw [List.take_succ_eq_append_getElem (by rw [HM.out]; exact hjt), List.getD_eq_getElem?_getD, List.getElem?_eq_getElem (by rw [HM.out]; exact hjt)]
       rfl)
      generalize fs.getD j fld0 = f at c0 c1 c2 c3 HFOk HTK
      obtain ⟨no, cn, cr, s⟩ := f
      unfold FOk at HFOk
      dsimp only at c0 c1 c2 c3 HFOk
      have HCA := Lib.hid (fun w9 (h9 : Below w.heap.size w w9) => rof_dig s w9 (by have := HFOk.2; omega))
      unfold DSumPost at HCA
      have HCB := Lib.hid (fun w9 (h9 : Below w.heap.size w w9) => rof10_new s w9 HFOk.2)
      unfold KPostN at HCB
      have HDL2 := Lib.hid (SH.sum_len (nums s))
      have HDB2 := Lib.hid (SH.sum_bytes (nums s))
      have HSZ := HFOk.2
      have HFO := Lib.hid (show (Lit.int .i64 no).wf = true ∧ (Lit.int .i64 cn).wf = true ∧ (Lit.int .i64 cr).wf = true ∧ (Lit.int .i64 (s.size : Int)).wf = true from ⟨HFOk.1.1, HFOk.1.2.1, HFOk.1.2.2, wf_small (by omega) (by omega)⟩)
      generalize hD2 : SH.sum (nums s) = D2 at *
      generalize hG : sgOf (nums s) = G at *
      have HDD := Lib.hid hD2
      have HGG := Lib.hid hG
      generalize offf + j * 4 = of at c0 c1 c2 c3 IXF
      have hO := Lib.hid (HI.out.alloc (.cells #[.int .i64 no, .int .i64 cn, .int .i64 cr, .string s] 80))
      have hF := FlAt.new wr ⟨no, ⟨cn, cr, s⟩⟩
      dsimp only at hF
      have hS0 := Lib.hid (show Fr g V0 wr.heap.size #[.int .i64 no, .int .i64 cn, .int .i64 cr, .string s] 80 (wr.alloc (.cells #[.int .i64 no, .int .i64 cn, .int .i64 cr, .string s] 80)) from ⟨hbi.trans ((Below.refl _ _).alloc (by have := HGL.out; have := hbi.size; omega) _), hF⟩)
      have HNE := Lib.hid (show wr.heap.size ≠ g by have := HGV.out; have := hbi.size; omega)
      have HLE := Lib.hid (show es.length ≤ 90000 by have := HKE.out; have := HFL.out; omega)
      clear hcf hbi HFOk hD2 hG hF hAf
      go_wp2_with fail
      clear c0 c1 c2 c3 IXF ix1 r18 s0
      refine wp_region_held_drew (S := fun w9 => Fr g V0 wr.heap.size #[.int .i64 no, .int .i64 cn, .int .i64 cr, .string s] 80 w9) (by kernel_rfl) (hS0.out.below HGL.out ((Below.refl _ _).drew)) (fun hS => ?_)
      have J1 := Lib.hid hO.out.drew
      have S2 := Lib.hid hS
      generalize World.drew _ = X at *
      refine wpHv (i := 0) (oi := ⟨some 58, _, _, _, _, _⟩) (v := ?_) rfl ?_ hS ?_; rotate_left; (focus (intro w9 hSw; go_simp; try with_reducible rfl)); simp only [Act.put, Z2, Z3, Z4]
      refine wpHv (i := 2) (oi := ⟨some 60, _, _, _, _, _⟩) (v := ?_) rfl ?_ hS ?_; rotate_left; (focus (intro w9 hSw; go_simp; try with_reducible rfl)); simp only [Act.put, Z2, Z3, Z4]
      refine wpHv (i := 3) (oi := ⟨some 61, _, _, _, _, _⟩) (v := ?_) rfl ?_ hS ?_; rotate_left; (focus (intro w9 hSw; have q0 := cell_of_row _ _ 0 _ _ _ hSw.o; simp at q0; go_simp; try with_reducible rfl)); simp only [Act.put, Z2, Z3, Z4]
      refine wpHv (i := 4) (oi := ⟨some 62, _, _, _, _, _⟩) (v := ?_) rfl ?_ hS ?_; rotate_left; (focus (intro w9 hSw; go_simp; try with_reducible rfl)); simp only [Act.put, Z2, Z3, Z4]
      refine wpHv (i := 5) (oi := ⟨some 63, _, _, _, _, _⟩) (v := ?_) rfl ?_ hS ?_; rotate_left; (focus (intro w9 hSw; go_simp; try with_reducible rfl)); simp only [Act.put, Z2, Z3, Z4]
      refine wpHv (i := 6) (oi := ⟨some 64, _, _, _, _, _⟩) (v := ?_) rfl ?_ hS ?_; rotate_left; (focus (intro w9 hSw; have q1 := cell_of_row _ _ 1 _ _ _ hSw.o; have q2 := cell_of_row _ _ 2 _ _ _ hSw.o; simp at q1 q2; go_simp; try with_reducible rfl)); simp only [Act.put, Z2, Z3, Z4]
      refine wpHv (i := 7) (oi := ⟨some 65, _, _, _, _, _⟩) (v := ?_) rfl ?_ hS ?_; rotate_left; (focus (intro w9 hSw; go_simp; try with_reducible rfl)); simp only [Act.put, Z2, Z3, Z4]
      refine wpHv (i := 8) (oi := ⟨some 66, _, _, _, _, _⟩) (v := ?_) rfl ?_ hS ?_; rotate_left; (focus (intro w9 hSw; go_simp; try with_reducible rfl)); simp only [Act.put, Z2, Z3, Z4]
      refine wpHv (i := 9) (oi := ⟨some 67, _, _, _, _, _⟩) (v := ?_) rfl ?_ hS ?_; rotate_left; (focus (intro w9 hSw; have q3 := cell_of_row _ _ 3 _ _ _ hSw.o; simp at q3; go_simp; try with_reducible rfl)); simp only [Act.put, Z2, Z3, Z4]
      refine wpHv (i := 10) (oi := ⟨some 68, _, _, _, _, _⟩) (v := ?_) rfl ?_ hS ?_; rotate_left; (focus (intro w9 hSw; go_simp; try with_reducible rfl)); simp only [Act.put, Z2, Z3, Z4]
      refine wpHv (i := 11) (oi := ⟨some 69, _, _, _, _, _⟩) (v := ?_) rfl ?_ hS ?_; rotate_left; (focus (intro w9 hSw; go_simp; try with_reducible rfl)); simp only [Act.put, Z2, Z3, Z4]
      refine wpHv (i := 12) (oi := ⟨some 70, _, _, _, _, _⟩) (v := ?_) rfl ?_ hS ?_; rotate_left; (focus (intro w9 hSw; go_simp; try with_reducible rfl)); simp only [Act.put, Z2, Z3, Z4]
      refine wpHv (i := 13) (oi := ⟨some 71, _, _, _, _, _⟩) (v := ?_) rfl ?_ hS ?_; rotate_left; (focus (intro w9 hSw; have q3 := cell_of_row _ _ 3 _ _ _ hSw.o; simp at q3; go_simp; try with_reducible rfl)); simp only [Act.put, Z2, Z3, Z4]
      refine wpHv (i := 15) (oi := ⟨some 73, _, _, _, _, _⟩) (v := ?_) rfl ?_ hS ?_; rotate_left; (focus (intro w9 hSw; go_simp; try with_reducible rfl)); simp only [Act.put, Z2, Z3, Z4]
      refine wpHv (i := 16) (oi := ⟨some 74, _, _, _, _, _⟩) (v := ?_) rfl ?_ hS ?_; rotate_left; (focus (intro w9 hSw; go_simp; try with_reducible rfl)); simp only [Act.put, Z2, Z3, Z4]
      refine wpHv (i := 17) (oi := ⟨some 75, _, _, _, _, _⟩) (v := ?_) rfl ?_ hS ?_; rotate_left; (focus (intro w9 hSw; have q3 := cell_of_row _ _ 3 _ _ _ hSw.o; simp at q3; go_simp; try with_reducible rfl)); simp only [Act.put, Z2, Z3, Z4]
      refine wpAnyH_ready (rs := [1, 14]) (by kernel_rfl) (by simp) (AllReadyH.cons (o := ⟨some 59, _, _, _, _, _⟩) rfl (fun K hK => ?_) (AllReadyH.cons (o := ⟨some 72, _, _, _, _, _⟩) rfl (fun K hK => ?_) AllReadyH.nil))
      ·have g0 := J1.out.cell HP18.out
       go_simp
       refine hK.out _ _ S2.out (fun hS => ?_)
       clear hK K g0
       try simp only [Act.put, Z2, Z3, Z4]
       refine wpAnyH_ready (rs := [14]) (by kernel_rfl) (by simp) (AllReadyH.cons (o := ⟨some 72, _, _, _, _, _⟩) rfl (fun K hK => ?_) AllReadyH.nil)
       go_simp
       refine (HCA.out _ (BV0.out.trans (S2.out.b.mono HWG.out))).mono ?_
       rintro e X3 ⟨rfl, hb4⟩
       have J5 := Lib.hid (J1.out.below hb4)
       have S6 := Lib.hid (S2.out.below HGL.out hb4)
       clear hb4
       refine hK.out _ _ S6.out (fun hS => ?_)
       clear hK K
       try simp only [Act.put, Z2, Z3, Z4]
       refine wpAnyH_ready (rs := [18]) (by kernel_rfl) (by simp) (AllReadyH.cons (o := ⟨some 76, _, _, _, _, _⟩) rfl (fun K hK => ?_) AllReadyH.nil)
       go_simp
       refine (HCB.out _ (BV0.out.trans (S6.out.b.mono HWG.out))).mono ?_
       rintro e X7 ⟨A4, c4, rfl, hr4, hb8, ht4⟩
       have J9 := Lib.hid (J5.out.below hb8)
       have S10 := Lib.hid (S6.out.below HGL.out hb8)
       have YO := Lib.hid (show TEn.K.ok X7 (⟨⟨no, cn, cr, s.size, D2, G⟩, A4, c4⟩ : EnA) ∧ TEn.tag X7 (⟨⟨no, cn, cr, s.size, D2, G⟩, A4, c4⟩ : EnA) from ⟨⟨HFO.out.1, HFO.out.2.1, HFO.out.2.2.1, HFO.out.2.2.2, HDL2.out, HDB2.out, hr4⟩, ht4⟩)
       have YL := Lib.hid (show (KEn.cs (⟨⟨no, cn, cr, s.size, D2, G⟩, A4, c4⟩ : EnA)).length = KEn.n from EnA.len YO.out.1)
       clear hr4 ht4
       clear hb8
       refine hK.out _ _ S10.out (fun hS => ?_)
       clear hK K
       try simp only [Act.put, Z2, Z3, Z4]
       refine wpHv (i := 19) (oi := ⟨some 77, _, _, _, _, _⟩) (v := (.agg (KEn.cs (⟨⟨no, cn, cr, s.size, D2, G⟩, A4, c4⟩ : EnA)).toArray)) rfl ?_ hS ?_; (focus (intro w9 hSw; have q0 := build_en (x := (⟨⟨no, cn, cr, s.size, D2, G⟩, A4, c4⟩ : EnA)) HDL2.out w9; dsimp only at q0; exact exec_build_at 48 #[(0, .tmp 61), (1, .tmp 64), (2, .tmp 68), (3, .tmp 72), (4, .tmp 76)] rfl _ (by simp only [List.map_toArray, List.map_cons, List.map_nil]; rfl) q0)); simp only [Act.put, Z2, Z3, Z4]
       refine wpAnyH_ready (rs := [20]) (by kernel_rfl) (by simp) (AllReadyH.cons (o := ⟨some 78, _, _, _, _, _⟩) rfl (fun K hK => ?_) AllReadyH.nil)
       refine step_bsliceK (K := KEn) rfl (.tmp 77) rfl (⟨⟨no, cn, cr, s.size, D2, G⟩, A4, c4⟩ : EnA) rfl YL.out Tryz.underlying41 sizeEn zeroEn nEn ?_
       have J11 := Lib.hid (J9.out.alloc (.cells (KEn.cs (⟨⟨no, cn, cr, s.size, D2, G⟩, A4, c4⟩ : EnA)).toArray 48))
       have S12 := Lib.hid (S10.out.below HGL.out ((Below.refl _ _).alloc (Nat.le_refl _) (.cells (KEn.cs (⟨⟨no, cn, cr, s.size, D2, G⟩, A4, c4⟩ : EnA)).toArray 48)))
       have YO13 := Lib.hid (show TEn.K.ok _ _ ∧ TEn.tag _ _ from ⟨TEn.K.below YO.out.1 ((Below.refl _ _).alloc (Nat.le_refl _) (.cells (KEn.cs (⟨⟨no, cn, cr, s.size, D2, G⟩, A4, c4⟩ : EnA)).toArray 48)), TEn.below YO.out.2 ((Below.refl _ _).alloc (Nat.le_refl _) (.cells (KEn.cs (⟨⟨no, cn, cr, s.size, D2, G⟩, A4, c4⟩ : EnA)).toArray 48))⟩)
       refine hK.out _ _ S12.out (fun hS => ?_)
       clear hK K
       try simp only [Act.put, Z2, Z3, Z4]
       refine wpAnyH_ready (rs := [21]) (by kernel_rfl) (by simp) (AllReadyH.cons (o := ⟨some 79, _, _, _, _, _⟩) rfl (fun K hK => ?_) AllReadyH.nil)
       obtain ⟨i0, hi, hz0, hz1, hz2⟩ := info_parts infoEn
       refine step_append_K (K := KEn) (o := ⟨some 79, _, _, _, _, _⟩) rfl _ _ 41 rfl V0.heap.size 48 i0 _ 88 Tryz.underlying41 hi hz0 hz1 hz2 (by decide) (by decide) vi es (⟨⟨no, cn, cr, s.size, D2, G⟩, A4, c4⟩ : EnA) rfl J11.out.own HLE.out YL.out rfl J11.out.le ?_
       intro v3 X3 ho3 hg3
       obtain ⟨g13, cap13, rfl⟩ := ownsRow_succ ho3
       have M14 := Lib.hid (J11.out.grown YO13.out ho3 hg3 (by decide))
       have S16 := Lib.hid (J11.out.fr S12.out (by decide) hg3)
       have J15 := Lib.hid (M14.out.store (by decide) HP18.out)
       have S17 := Lib.hid (M14.out.fr (p := 18) S16.out HNE.out)
       clear ho3 hg3
       refine hK.out _ _ S16.out (fun hS => ?_)
       clear hK K
       try simp only [Act.put, Z2, Z3, Z4]
       refine wpHv (i := 22) (oi := ⟨some 80, _, _, _, _, _⟩) (v := ?_) rfl ?_ hS ?_; rotate_left; (focus (intro w9 hSw; go_simp; try with_reducible rfl)); simp only [Act.put, Z2, Z3, Z4]
       refine wpAnyH_ready (rs := [23]) (by kernel_rfl) (by simp) (AllReadyH.cons (o := ⟨none, _, _, _, _, _⟩) rfl (fun K hK => ?_) AllReadyH.nil)
       have g0 := M14.out.cell HP18.out
       have gf := M14.out.fz 18
       go_simp
       refine hK.out _ _ S17.out (fun hS => ?_)
       clear hK K g0 gf
       try simp only [Act.put, Z2, Z3, Z4]
       refine wpAnyH_done (by kernel_rfl) ?_ _
       have JE := J15
       have SE := S17
       generalize hv4 : (Value.slice (some ⟨g13, 0, none⟩) (es.length + 1) cap13) = v4 at *
       clear hv4
       have HM2 := Lib.hid (show (es ++ [(⟨⟨no, cn, cr, s.size, D2, G⟩, A4, c4⟩ : EnA)]).map (fun e : EnA => e.e) = (fs.take (j + 1)).map (mofE SH.sum) by
        rw [HTK.out, List.map_append, List.map_append, HMP.out]; simp only [mofE, List.map_cons, List.map_nil, HDD.out, HGG.out])
       have h8 := HJN.out
       go_wp2
       go_roundw
       case rel => exact ⟨j + 1, es ++ [(⟨⟨no, cn, cr, s.size, D2, G⟩, A4, c4⟩ : EnA)], v4, by omega, by go_num, by rw [List.length_append, HKE.out]; rfl, SE.out.b, JE.out, HM2.out⟩
       case measure => simp [intOf]; omega
      ·go_simp
       refine (HCA.out _ (BV0.out.trans (S2.out.b.mono HWG.out))).mono ?_
       rintro e X18 ⟨rfl, hb19⟩
       have J20 := Lib.hid (J1.out.below hb19)
       have S21 := Lib.hid (S2.out.below HGL.out hb19)
       clear hb19
       refine hK.out _ _ S21.out (fun hS => ?_)
       clear hK K
       try simp only [Act.put, Z2, Z3, Z4]
       refine wpAnyH_ready (rs := [1, 18]) (by kernel_rfl) (by simp) (AllReadyH.cons (o := ⟨some 59, _, _, _, _, _⟩) rfl (fun K hK => ?_) (AllReadyH.cons (o := ⟨some 76, _, _, _, _, _⟩) rfl (fun K hK => ?_) AllReadyH.nil))
       ·have g0 := J20.out.cell HP18.out
        go_simp
        refine hK.out _ _ S21.out (fun hS => ?_)
        clear hK K g0
        try simp only [Act.put, Z2, Z3, Z4]
        refine wpAnyH_ready (rs := [18]) (by kernel_rfl) (by simp) (AllReadyH.cons (o := ⟨some 76, _, _, _, _, _⟩) rfl (fun K hK => ?_) AllReadyH.nil)
        go_simp
        refine (HCB.out _ (BV0.out.trans (S21.out.b.mono HWG.out))).mono ?_
        rintro e X22 ⟨A4, c4, rfl, hr4, hb23, ht4⟩
        have J24 := Lib.hid (J20.out.below hb23)
        have S25 := Lib.hid (S21.out.below HGL.out hb23)
        have YO := Lib.hid (show TEn.K.ok X22 (⟨⟨no, cn, cr, s.size, D2, G⟩, A4, c4⟩ : EnA) ∧ TEn.tag X22 (⟨⟨no, cn, cr, s.size, D2, G⟩, A4, c4⟩ : EnA) from ⟨⟨HFO.out.1, HFO.out.2.1, HFO.out.2.2.1, HFO.out.2.2.2, HDL2.out, HDB2.out, hr4⟩, ht4⟩)
        have YL := Lib.hid (show (KEn.cs (⟨⟨no, cn, cr, s.size, D2, G⟩, A4, c4⟩ : EnA)).length = KEn.n from EnA.len YO.out.1)
        clear hr4 ht4
        clear hb23
        refine hK.out _ _ S25.out (fun hS => ?_)
        clear hK K
        try simp only [Act.put, Z2, Z3, Z4]
        refine wpHv (i := 19) (oi := ⟨some 77, _, _, _, _, _⟩) (v := (.agg (KEn.cs (⟨⟨no, cn, cr, s.size, D2, G⟩, A4, c4⟩ : EnA)).toArray)) rfl ?_ hS ?_; (focus (intro w9 hSw; have q0 := build_en (x := (⟨⟨no, cn, cr, s.size, D2, G⟩, A4, c4⟩ : EnA)) HDL2.out w9; dsimp only at q0; exact exec_build_at 48 #[(0, .tmp 61), (1, .tmp 64), (2, .tmp 68), (3, .tmp 72), (4, .tmp 76)] rfl _ (by simp only [List.map_toArray, List.map_cons, List.map_nil]; rfl) q0)); simp only [Act.put, Z2, Z3, Z4]
        refine wpAnyH_ready (rs := [20]) (by kernel_rfl) (by simp) (AllReadyH.cons (o := ⟨some 78, _, _, _, _, _⟩) rfl (fun K hK => ?_) AllReadyH.nil)
        refine step_bsliceK (K := KEn) rfl (.tmp 77) rfl (⟨⟨no, cn, cr, s.size, D2, G⟩, A4, c4⟩ : EnA) rfl YL.out Tryz.underlying41 sizeEn zeroEn nEn ?_
        have J26 := Lib.hid (J24.out.alloc (.cells (KEn.cs (⟨⟨no, cn, cr, s.size, D2, G⟩, A4, c4⟩ : EnA)).toArray 48))
        have S27 := Lib.hid (S25.out.below HGL.out ((Below.refl _ _).alloc (Nat.le_refl _) (.cells (KEn.cs (⟨⟨no, cn, cr, s.size, D2, G⟩, A4, c4⟩ : EnA)).toArray 48)))
        have YO28 := Lib.hid (show TEn.K.ok _ _ ∧ TEn.tag _ _ from ⟨TEn.K.below YO.out.1 ((Below.refl _ _).alloc (Nat.le_refl _) (.cells (KEn.cs (⟨⟨no, cn, cr, s.size, D2, G⟩, A4, c4⟩ : EnA)).toArray 48)), TEn.below YO.out.2 ((Below.refl _ _).alloc (Nat.le_refl _) (.cells (KEn.cs (⟨⟨no, cn, cr, s.size, D2, G⟩, A4, c4⟩ : EnA)).toArray 48))⟩)
        refine hK.out _ _ S27.out (fun hS => ?_)
        clear hK K
        try simp only [Act.put, Z2, Z3, Z4]
        refine wpAnyH_ready (rs := [21]) (by kernel_rfl) (by simp) (AllReadyH.cons (o := ⟨some 79, _, _, _, _, _⟩) rfl (fun K hK => ?_) AllReadyH.nil)
        obtain ⟨i0, hi, hz0, hz1, hz2⟩ := info_parts infoEn
        refine step_append_K (K := KEn) (o := ⟨some 79, _, _, _, _, _⟩) rfl _ _ 41 rfl V0.heap.size 48 i0 _ 88 Tryz.underlying41 hi hz0 hz1 hz2 (by decide) (by decide) vi es (⟨⟨no, cn, cr, s.size, D2, G⟩, A4, c4⟩ : EnA) rfl J26.out.own HLE.out YL.out rfl J26.out.le ?_
        intro v3 X3 ho3 hg3
        obtain ⟨g13, cap13, rfl⟩ := ownsRow_succ ho3
        have M29 := Lib.hid (J26.out.grown YO28.out ho3 hg3 (by decide))
        have S31 := Lib.hid (J26.out.fr S27.out (by decide) hg3)
        have J30 := Lib.hid (M29.out.store (by decide) HP18.out)
        have S32 := Lib.hid (M29.out.fr (p := 18) S31.out HNE.out)
        clear ho3 hg3
        refine hK.out _ _ S31.out (fun hS => ?_)
        clear hK K
        try simp only [Act.put, Z2, Z3, Z4]
        refine wpHv (i := 22) (oi := ⟨some 80, _, _, _, _, _⟩) (v := ?_) rfl ?_ hS ?_; rotate_left; (focus (intro w9 hSw; go_simp; try with_reducible rfl)); simp only [Act.put, Z2, Z3, Z4]
        refine wpAnyH_ready (rs := [23]) (by kernel_rfl) (by simp) (AllReadyH.cons (o := ⟨none, _, _, _, _, _⟩) rfl (fun K hK => ?_) AllReadyH.nil)
        have g0 := M29.out.cell HP18.out
        have gf := M29.out.fz 18
        go_simp
        refine hK.out _ _ S32.out (fun hS => ?_)
        clear hK K g0 gf
        try simp only [Act.put, Z2, Z3, Z4]
        refine wpAnyH_done (by kernel_rfl) ?_ _
        have JE := J30
        have SE := S32
        generalize hv4 : (Value.slice (some ⟨g13, 0, none⟩) (es.length + 1) cap13) = v4 at *
        clear hv4
        have HM2 := Lib.hid (show (es ++ [(⟨⟨no, cn, cr, s.size, D2, G⟩, A4, c4⟩ : EnA)]).map (fun e : EnA => e.e) = (fs.take (j + 1)).map (mofE SH.sum) by
         rw [HTK.out, List.map_append, List.map_append, HMP.out]; simp only [mofE, List.map_cons, List.map_nil, HDD.out, HGG.out])
        have h8 := HJN.out
        go_wp2
        go_roundw
        case rel => exact ⟨j + 1, es ++ [(⟨⟨no, cn, cr, s.size, D2, G⟩, A4, c4⟩ : EnA)], v4, by omega, by go_num, by rw [List.length_append, HKE.out]; rfl, SE.out.b, JE.out, HM2.out⟩
        case measure => simp [intOf]; omega
       ·go_simp
        refine (HCB.out _ (BV0.out.trans (S21.out.b.mono HWG.out))).mono ?_
        rintro e X33 ⟨A4, c4, rfl, hr4, hb34, ht4⟩
        have J35 := Lib.hid (J20.out.below hb34)
        have S36 := Lib.hid (S21.out.below HGL.out hb34)
        have YO := Lib.hid (show TEn.K.ok X33 (⟨⟨no, cn, cr, s.size, D2, G⟩, A4, c4⟩ : EnA) ∧ TEn.tag X33 (⟨⟨no, cn, cr, s.size, D2, G⟩, A4, c4⟩ : EnA) from ⟨⟨HFO.out.1, HFO.out.2.1, HFO.out.2.2.1, HFO.out.2.2.2, HDL2.out, HDB2.out, hr4⟩, ht4⟩)
        have YL := Lib.hid (show (KEn.cs (⟨⟨no, cn, cr, s.size, D2, G⟩, A4, c4⟩ : EnA)).length = KEn.n from EnA.len YO.out.1)
        clear hr4 ht4
        clear hb34
        refine hK.out _ _ S36.out (fun hS => ?_)
        clear hK K
        try simp only [Act.put, Z2, Z3, Z4]
        refine wpHv (i := 19) (oi := ⟨some 77, _, _, _, _, _⟩) (v := (.agg (KEn.cs (⟨⟨no, cn, cr, s.size, D2, G⟩, A4, c4⟩ : EnA)).toArray)) rfl ?_ hS ?_; (focus (intro w9 hSw; have q0 := build_en (x := (⟨⟨no, cn, cr, s.size, D2, G⟩, A4, c4⟩ : EnA)) HDL2.out w9; dsimp only at q0; exact exec_build_at 48 #[(0, .tmp 61), (1, .tmp 64), (2, .tmp 68), (3, .tmp 72), (4, .tmp 76)] rfl _ (by simp only [List.map_toArray, List.map_cons, List.map_nil]; rfl) q0)); simp only [Act.put, Z2, Z3, Z4]
        refine wpAnyH_ready (rs := [1, 20]) (by kernel_rfl) (by simp) (AllReadyH.cons (o := ⟨some 59, _, _, _, _, _⟩) rfl (fun K hK => ?_) (AllReadyH.cons (o := ⟨some 78, _, _, _, _, _⟩) rfl (fun K hK => ?_) AllReadyH.nil))
        ·have g0 := J35.out.cell HP18.out
         go_simp
         refine hK.out _ _ S36.out (fun hS => ?_)
         clear hK K g0
         try simp only [Act.put, Z2, Z3, Z4]
         refine wpAnyH_ready (rs := [20]) (by kernel_rfl) (by simp) (AllReadyH.cons (o := ⟨some 78, _, _, _, _, _⟩) rfl (fun K hK => ?_) AllReadyH.nil)
         refine step_bsliceK (K := KEn) rfl (.tmp 77) rfl (⟨⟨no, cn, cr, s.size, D2, G⟩, A4, c4⟩ : EnA) rfl YL.out Tryz.underlying41 sizeEn zeroEn nEn ?_
         have J37 := Lib.hid (J35.out.alloc (.cells (KEn.cs (⟨⟨no, cn, cr, s.size, D2, G⟩, A4, c4⟩ : EnA)).toArray 48))
         have S38 := Lib.hid (S36.out.below HGL.out ((Below.refl _ _).alloc (Nat.le_refl _) (.cells (KEn.cs (⟨⟨no, cn, cr, s.size, D2, G⟩, A4, c4⟩ : EnA)).toArray 48)))
         have YO39 := Lib.hid (show TEn.K.ok _ _ ∧ TEn.tag _ _ from ⟨TEn.K.below YO.out.1 ((Below.refl _ _).alloc (Nat.le_refl _) (.cells (KEn.cs (⟨⟨no, cn, cr, s.size, D2, G⟩, A4, c4⟩ : EnA)).toArray 48)), TEn.below YO.out.2 ((Below.refl _ _).alloc (Nat.le_refl _) (.cells (KEn.cs (⟨⟨no, cn, cr, s.size, D2, G⟩, A4, c4⟩ : EnA)).toArray 48))⟩)
         refine hK.out _ _ S38.out (fun hS => ?_)
         clear hK K
         try simp only [Act.put, Z2, Z3, Z4]
         refine wpAnyH_ready (rs := [21]) (by kernel_rfl) (by simp) (AllReadyH.cons (o := ⟨some 79, _, _, _, _, _⟩) rfl (fun K hK => ?_) AllReadyH.nil)
         obtain ⟨i0, hi, hz0, hz1, hz2⟩ := info_parts infoEn
         refine step_append_K (K := KEn) (o := ⟨some 79, _, _, _, _, _⟩) rfl _ _ 41 rfl V0.heap.size 48 i0 _ 88 Tryz.underlying41 hi hz0 hz1 hz2 (by decide) (by decide) vi es (⟨⟨no, cn, cr, s.size, D2, G⟩, A4, c4⟩ : EnA) rfl J37.out.own HLE.out YL.out rfl J37.out.le ?_
         intro v3 X3 ho3 hg3
         obtain ⟨g13, cap13, rfl⟩ := ownsRow_succ ho3
         have M40 := Lib.hid (J37.out.grown YO39.out ho3 hg3 (by decide))
         have S42 := Lib.hid (J37.out.fr S38.out (by decide) hg3)
         have J41 := Lib.hid (M40.out.store (by decide) HP18.out)
         have S43 := Lib.hid (M40.out.fr (p := 18) S42.out HNE.out)
         clear ho3 hg3
         refine hK.out _ _ S42.out (fun hS => ?_)
         clear hK K
         try simp only [Act.put, Z2, Z3, Z4]
         refine wpHv (i := 22) (oi := ⟨some 80, _, _, _, _, _⟩) (v := ?_) rfl ?_ hS ?_; rotate_left; (focus (intro w9 hSw; go_simp; try with_reducible rfl)); simp only [Act.put, Z2, Z3, Z4]
         refine wpAnyH_ready (rs := [23]) (by kernel_rfl) (by simp) (AllReadyH.cons (o := ⟨none, _, _, _, _, _⟩) rfl (fun K hK => ?_) AllReadyH.nil)
         have g0 := M40.out.cell HP18.out
         have gf := M40.out.fz 18
         go_simp
         refine hK.out _ _ S43.out (fun hS => ?_)
         clear hK K g0 gf
         try simp only [Act.put, Z2, Z3, Z4]
         refine wpAnyH_done (by kernel_rfl) ?_ _
         have JE := J41
         have SE := S43
         generalize hv4 : (Value.slice (some ⟨g13, 0, none⟩) (es.length + 1) cap13) = v4 at *
         clear hv4
         have HM2 := Lib.hid (show (es ++ [(⟨⟨no, cn, cr, s.size, D2, G⟩, A4, c4⟩ : EnA)]).map (fun e : EnA => e.e) = (fs.take (j + 1)).map (mofE SH.sum) by
          rw [HTK.out, List.map_append, List.map_append, HMP.out]; simp only [mofE, List.map_cons, List.map_nil, HDD.out, HGG.out])
         have h8 := HJN.out
         go_wp2
         go_roundw
         case rel => exact ⟨j + 1, es ++ [(⟨⟨no, cn, cr, s.size, D2, G⟩, A4, c4⟩ : EnA)], v4, by omega, by go_num, by rw [List.length_append, HKE.out]; rfl, SE.out.b, JE.out, HM2.out⟩
         case measure => simp [intOf]; omega
        ·refine step_bsliceK (K := KEn) rfl (.tmp 77) rfl (⟨⟨no, cn, cr, s.size, D2, G⟩, A4, c4⟩ : EnA) rfl YL.out Tryz.underlying41 sizeEn zeroEn nEn ?_
         have J44 := Lib.hid (J35.out.alloc (.cells (KEn.cs (⟨⟨no, cn, cr, s.size, D2, G⟩, A4, c4⟩ : EnA)).toArray 48))
         have S45 := Lib.hid (S36.out.below HGL.out ((Below.refl _ _).alloc (Nat.le_refl _) (.cells (KEn.cs (⟨⟨no, cn, cr, s.size, D2, G⟩, A4, c4⟩ : EnA)).toArray 48)))
         have YO46 := Lib.hid (show TEn.K.ok _ _ ∧ TEn.tag _ _ from ⟨TEn.K.below YO.out.1 ((Below.refl _ _).alloc (Nat.le_refl _) (.cells (KEn.cs (⟨⟨no, cn, cr, s.size, D2, G⟩, A4, c4⟩ : EnA)).toArray 48)), TEn.below YO.out.2 ((Below.refl _ _).alloc (Nat.le_refl _) (.cells (KEn.cs (⟨⟨no, cn, cr, s.size, D2, G⟩, A4, c4⟩ : EnA)).toArray 48))⟩)
         refine hK.out _ _ S45.out (fun hS => ?_)
         clear hK K
         try simp only [Act.put, Z2, Z3, Z4]
         refine wpAnyH_ready (rs := [1]) (by kernel_rfl) (by simp) (AllReadyH.cons (o := ⟨some 59, _, _, _, _, _⟩) rfl (fun K hK => ?_) AllReadyH.nil)
         have g0 := J44.out.cell HP18.out
         go_simp
         refine hK.out _ _ S45.out (fun hS => ?_)
         clear hK K g0
         try simp only [Act.put, Z2, Z3, Z4]
         refine wpAnyH_ready (rs := [21]) (by kernel_rfl) (by simp) (AllReadyH.cons (o := ⟨some 79, _, _, _, _, _⟩) rfl (fun K hK => ?_) AllReadyH.nil)
         obtain ⟨i0, hi, hz0, hz1, hz2⟩ := info_parts infoEn
         refine step_append_K (K := KEn) (o := ⟨some 79, _, _, _, _, _⟩) rfl _ _ 41 rfl V0.heap.size 48 i0 _ 88 Tryz.underlying41 hi hz0 hz1 hz2 (by decide) (by decide) vi es (⟨⟨no, cn, cr, s.size, D2, G⟩, A4, c4⟩ : EnA) rfl J44.out.own HLE.out YL.out rfl J44.out.le ?_
         intro v3 X3 ho3 hg3
         obtain ⟨g13, cap13, rfl⟩ := ownsRow_succ ho3
         have M47 := Lib.hid (J44.out.grown YO46.out ho3 hg3 (by decide))
         have S49 := Lib.hid (J44.out.fr S45.out (by decide) hg3)
         have J48 := Lib.hid (M47.out.store (by decide) HP18.out)
         have S50 := Lib.hid (M47.out.fr (p := 18) S49.out HNE.out)
         clear ho3 hg3
         refine hK.out _ _ S49.out (fun hS => ?_)
         clear hK K
         try simp only [Act.put, Z2, Z3, Z4]
         refine wpHv (i := 22) (oi := ⟨some 80, _, _, _, _, _⟩) (v := ?_) rfl ?_ hS ?_; rotate_left; (focus (intro w9 hSw; go_simp; try with_reducible rfl)); simp only [Act.put, Z2, Z3, Z4]
         refine wpAnyH_ready (rs := [23]) (by kernel_rfl) (by simp) (AllReadyH.cons (o := ⟨none, _, _, _, _, _⟩) rfl (fun K hK => ?_) AllReadyH.nil)
         have g0 := M47.out.cell HP18.out
         have gf := M47.out.fz 18
         go_simp
         refine hK.out _ _ S50.out (fun hS => ?_)
         clear hK K g0 gf
         try simp only [Act.put, Z2, Z3, Z4]
         refine wpAnyH_done (by kernel_rfl) ?_ _
         have JE := J48
         have SE := S50
         generalize hv4 : (Value.slice (some ⟨g13, 0, none⟩) (es.length + 1) cap13) = v4 at *
         clear hv4
         have HM2 := Lib.hid (show (es ++ [(⟨⟨no, cn, cr, s.size, D2, G⟩, A4, c4⟩ : EnA)]).map (fun e : EnA => e.e) = (fs.take (j + 1)).map (mofE SH.sum) by
          rw [HTK.out, List.map_append, List.map_append, HMP.out]; simp only [mofE, List.map_cons, List.map_nil, HDD.out, HGG.out])
         have h8 := HJN.out
         go_wp2
         go_roundw
         case rel => exact ⟨j + 1, es ++ [(⟨⟨no, cn, cr, s.size, D2, G⟩, A4, c4⟩ : EnA)], v4, by omega, by go_num, by rw [List.length_append, HKE.out]; rfl, SE.out.b, JE.out, HM2.out⟩
         case measure => simp [intOf]; omega
     ·obtain rfl : j = M := by omega
      have t2 : ¬ (j : Int) < (j : Int) := by omega
      obtain ⟨A4, c4, rfl⟩ := own_slice HI.out.own
      have HE := Lib.hid (HI.out.line HZ.out HWN.out)
      have LE := Lib.hid (load_ln (Kind.at_blk HE.out.2.2) HE.out.1)
      have hyx : LnA.x ⟨z, dn, dr, A4, c4, es⟩ = mofL SH.sum ⟨z, dn, dr, fs⟩ := by
       have h := HMP.out
       rw [List.take_of_length_le (by rw [HM.out]; exact Nat.le_refl _)] at h
       unfold LnA.x mofL
       dsimp only
       rw [h]
      have HYX := Lib.hid hyx
      generalize hy : (⟨z, dn, dr, A4, c4, es⟩ : LnA) = y at *
      rw [show KLn.v y = .agg (KLn.cs y).toArray from rfl] at LE
      have YL := Lib.hid (show (KLn.cs y).length = KLn.n from LnA.len HE.out.1)
      have J1 := Lib.hid (HJ.out.below BRI.out)
      have J2 := Lib.hid (J1.out.alloc (.cells (KLn.cs y).toArray 43))
      have YO := Lib.hid (show TLn.K.ok (wr.alloc (.cells (KLn.cs y).toArray 43)) y ∧ TLn.tag (wr.alloc (.cells (KLn.cs y).toArray 43)) y from ⟨TLn.K.below (w := wr) HE.out.1 ((Below.refl _ _).alloc (Nat.le_refl _) _), TLn.below (w := wr) HE.out.2.1 ((Below.refl _ _).alloc (Nat.le_refl _) _)⟩)
      have R2 := Lib.hid (Kind.row_one (K := KLn) (w := wr) (x := y) (t := 43) YO.out.1)
      have VS := Lib.hid J2.out.le
      have VL : Hid (ls.length + 1 ≤ 10000000) := Lib.hid (by have := HKL.out; have := HM10.out; have := HKN.out; omega)
      have m32 := J1.out.cell HP32.out
      have BLI := Lib.hid (HHB.out.trans (BRI.out.mono (by have := HBL.out; have := HHB.out.size; omega)))
      obtain ⟨i0, hi, hz0, hz1, hz2⟩ := info_parts infoLn
      clear hbi hyx hy
      go_wp2_with (first | ((with_reducible refine wpList_load_at (o := ⟨some 83, .load 43 (.tmp 7), _, _, _, _⟩) ?e1 43 (.tmp 7) ?e2 ⟨g, 0, none⟩ ?e3 _ LE.out ?_); (case e1 => rfl); (case e2 => rfl); (case e3 => rfl)) | ((with_reducible refine wpList_bsliceK (K := KLn) (o := ⟨some 84, .buildSlice 27 1 #[(0, .tmp 83)], _, _, _, _⟩) ?e1 (.tmp 83) ?e2 y ?e3 YL.out Tryz.underlying27 sizeLn zeroLn nLn ?_); (case e1 => rfl); (case e2 => rfl); (case e3 => rfl)) | (at_builtin; refine wpList_append_K (K := KLn) _ rfl _ _ 27 rfl (bl + 1) 43 i0 _ 56 Tryz.underlying27 hi hz0 hz1 hz2 (by decide) (by omega) _ ls.length ls rfl J2.out.own (some ⟨wr.heap.size, 0, none⟩) 1 1 [y] rfl R2.out rfl VL.out VS.out ?_; intro v3 w3 ho3 hg3; have M5 := Lib.hid (J2.out.grown YO.out ho3 hg3 (by decide)); have J5 := Lib.hid (M5.out.store (by decide) HP32.out); have m32 := M5.out.cell HP32.out; have f32 := M5.out.fz 32; have B5 := Lib.hid (((BLI.out.alloc (by have := HBL.out; have := BLI.out.size; omega) (.cells (KLn.cs y).toArray 43)).grown hg3 (by have := HBL.out; have := J2.out.le; have := J2.out.lt; omega) (fun g9 h9 => by have := own_base J2.out.own h9; omega)).setCell (p := ⟨bl, 32, none⟩) (Nat.le_refl _) v3); obtain ⟨g13, cap13, rfl⟩ := ownsRow_succ ho3; clear ho3 hg3))
      have HM2 := Lib.hid (show (ls ++ [y]).map (fun l : LnA => l.x) = (rs.take (k + 1)).map (mofL SH.sum) by
       rw [HTR.out, List.map_append, List.map_append, HML.out]; simp only [List.map_cons, List.map_nil, HYX.out])
      have h8 := HKN.out
      go_roundw
      case rel => exact ⟨k + 1, ls ++ [y], _, by omega, by go_num, by rw [List.length_append, HKL.out]; rfl, B5.out, J5.out, HM2.out⟩
      case measure => simp [intOf]; omega
   ·obtain rfl : k = n := by omega
    have t1 : ¬ (k : Int) < (k : Int) := by omega
    obtain ⟨A4, c4, rfl⟩ := own_slice HJ.out.own
    have HE := Lib.hid (HJ.out.mn ⟨HDL.out, HDB.out⟩)
    have LE := Lib.hid (load_mn HE.out.2.1 HE.out.1)
    rw [show MnA.v ⟨D, A4, c4, ls⟩ = .agg (MnA.cs ⟨D, A4, c4, ls⟩).toArray from rfl] at LE
    have NB := Lib.hid (M4.out.below hb (show w.heap.size + 1 < bl by have := HS2.out; omega))
    have SZ2 := Lib.hid (mn_size HE.out.1)
    have SQ2 := Lib.hid (show mnA0.cs.toArray.size = (MnA.cs ⟨D, A4, c4, ls⟩).toArray.size by rw [mnA0_size, List.size_toArray]; exact (MnA.len HE.out.1).symm)
    have SO2 := Lib.hid (mn_ones ⟨D, A4, c4, ls⟩)
    have GS := grownBy_setRow wr (w.heap.size + 1) (MnA.cs ⟨D, A4, c4, ls⟩).toArray
    have KX := Lib.hid (HE.out.2.2 _ _ NB.out _ GS)
    have XB := Lib.hid (show MnAt (wr.setRow (w.heap.size + 1) (MnA.cs ⟨D, A4, c4, ls⟩).toArray) (w.heap.size + 1) ⟨D, A4, c4, ls⟩ from setRow_heap _ _ _ _ _ _ NB.out)
    have BX := Lib.hid (below_setRow BWR.out (show w.heap.size ≤ w.heap.size + 1 by omega) (MnA.cs ⟨D, A4, c4, ls⟩).toArray)
    have HFX := Lib.hid (show MnA.m ⟨D, A4, c4, ls⟩ = mof SH.sum D rs by
     have h := HML.out
     rw [List.take_of_length_le (by rw [HRL.out]; exact Nat.le_refl _)] at h
     unfold MnA.m mof
     dsimp only
     rw [h])
    clear hb GS
    unfold MnAt at NB
    go_wp2_with (first | ((with_reducible refine wpList_load_at (o := ⟨some 87, .load 29 (.tmp 5), _, _, _, _⟩) ?e1 29 (.tmp 5) ?e2 ⟨bl, 0, none⟩ ?e3 _ LE.out ?_); (case e1 => rfl); (case e2 => rfl); (case e3 => rfl)) | ((with_reducible refine wpList_store_row (o := ⟨none, .store 29 (.tmp 2) (.tmp 87), _, _, _, _⟩) ?e1 29 (.tmp 2) (.tmp 87) ?e2 (w.heap.size + 1) (MnA.cs ⟨D, A4, c4, ls⟩).toArray ?e3 ?e4 29 _ NB.out SZ2.out SQ2.out SO2.out ?_); (case e1 => rfl); (case e2 => rfl); (case e3 => rfl); (case e4 => rfl)))
    refine bodyPost_ret (v := .tuple #[MnA.v ⟨D, A4, c4, ls⟩, .bool true]) ?_ rfl ?_
    ·exact res_mn2 Tryz.results13 rfl XB.out KX.out
    ·rw [HF.out]
     exact ⟨_, rfl, HFX.out, KX.out, BX.out⟩
end
end Go.Proofs.YtbkopnpafmjicaaGreatDoor
