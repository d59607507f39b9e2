import Derived.Test.YtbkopnpafmjicaaGreatDoorK0
import Derived.Test.YtbkopnpafmjicaaGreatDoorK16
import Derived.Test.YtbkopnpafmjicaaGreatDoorK6
import Derived.Deep.RegionHeld3
import Derived.Test.YtbkopnpafmjicaaGreatDoorK10
import Derived.RangeFuncNested
import Derived.Sort.MapsRangeIn
import Derived.Shelf.SlSortCmp.InsertionK
import Derived.Shelf.SlSortCmp.SmallK
/-
  What the functions that a law of this layer reaches answer, part 17. Nothing that was there is written.
-/
namespace Go.Proofs.YtbkopnpafmjicaaGreatDoor
set_option linter.unusedVariables false
set_option linter.unusedSimpArgs false
section
open Go.RowKit WM
set_option maxRecDepth 100000
theorem XAt.kept_map {w w' : World} {b bm n : Nat} {x : RcA} {es : List RcA} (h : XAt w b x) (hg : w.grownBy w' (some bm)) (hm : MRs w bm n es) : XAt w' b x := h.same (hg.block b h.lt (fun e => by
 obtain ⟨E, cl, ho⟩ := hm.obj
 rw [← Option.some.inj e, h.2] at ho
 cases ho))
theorem gather_snoc {xs : List RcA} {k : Nat} (hk : k < xs.length) : ((xs.take (k + 1)).map (·.R)).foldl mput [] = mput (((xs.take k).map (·.R)).foldl mput []) (xs.getD k rcA0).R := by
 rw [List.take_succ_eq_append_getElem hk, List.map_append, List.foldl_append]
 simp only [List.map_cons, List.map_nil, List.foldl_cons, List.foldl_nil, List.getD, List.getElem?_eq_getElem hk, Option.getD_some]
def BGatherPost (w : World) (rs : List Rc) (e : Ending) (w' : World) : Prop := ∃ b n es, e = .returned (.map (some b)) ∧ w.heap.size ≤ b ∧ MRs w' b n es ∧ es.map (·.R) = rs.foldl mput [] ∧ Below w.heap.size w w'
set_option maxHeartbeats 8000000 in
theorem bgather_any (A : Option Addr) (len c : Nat) (xs : List RcA) (w : World) (hlaid : Laid w) (hl : xs.length = len) (hlen : len ≤ 900) (h : RsAt w A c xs) (hm : ∀ x ∈ xs, x.R.may = true) :
  Calls Tryz.prog 108 #[.slice A len c] w (BGatherPost w (xs.map (·.R))) := by
 have HRV := Lib.hid (fun i (hi : i < len) => RsAt.rv h (show i < xs.length by omega))
 have HMY := Lib.hid (fun i (hi : i < len) => show (xs.getD i rcA0).R.may = true by rw [List.getD_eq_getElem?_getD, List.getElem?_eq_getElem (show i < xs.length by omega)]; exact hm _ (List.getElem_mem _))
 obtain ⟨hc1, hc2, hc3, hcell, _⟩ := h
 simp only [maxLen] at hc2
 have HC := Lib.hid hcell
 have HLN := Lib.hid hl
 have HLA := Lib.hid (fun (X : World) (hX : Below w.heap.size w X) => hlaid.below hX (Nat.le_refl _))
 have H0 := Lib.hid (And.intro (MRs.made w) ((Below.refl w.heap.size w).alloc (Nat.le_refl _) (.map #[] 0)))
 have hmm := @run_makeMap Tryz.prog
 have hlc : len ≤ c := by omega
 have hz := zeroX
 clear hcell hc1 hl hlaid hm
 go_enter Tryz.func108, Tryz.ntmps108
 go_wp2
 go_loopw [11] (fun i wr => ∃ k : Nat, k ≤ len ∧ i = .int .i64 k ∧ ∃ es, MRs wr w.heap.size k es ∧ es.map (·.R) = ((xs.take k).map (·.R)).foldl mput [] ∧ (∀ x ∈ es, x.R.may = true) ∧ Below w.heap.size w wr) (fun i _ => len - (intOf i).toNat)
 case atStart => exact ⟨0, Nat.zero_le _, rfl, [], H0.out.1, rfl, (fun x hx => absurd hx (by simp)), H0.out.2⟩
 case round =>
  obtain ⟨k, hk, rfl, es, hM, heq, hmay, hb⟩ := hrel
  by_cases hlt : k < len
  ·obtain ⟨b0, off, rfl, hbB, hcc⟩ := HC.out (by rw [HLN.out]; omega)
   have hx := (hcc k (by rw [HLN.out]; exact hlt)).same (hb.block b0 hbB)
   have IX := ix_rec b0 off len c k hlt k rfl
   have hvx := (HRV.out k hlt).below hb (Nat.le_refl _)
   have hmx := HMY.out k hlt
   have hgs := gather_snoc (xs := xs) (k := k) (by rw [HLN.out]; exact hlt)
   generalize xs.getD k rcA0 = x at *
   generalize off + k * 19 = ox at *
   have LX := Lib.hid hx.load
   have HVX := Lib.hid hvx
   have HMX0 := Lib.hid hmx
   have ZX := Lib.hid hvx.len
   have HGS := Lib.hid hgs
   have HEQ := Lib.hid heq
   have HMAY := Lib.hid hmay
   have HMM := Lib.hid hM
   have HBB := Lib.hid hb
   have HXL := Lib.hid (rmay_len hmx)
   clear hcc hx hvx hmx hgs heq hmay hM hb
   cases hxat : xat es x.R.z with
   | none =>
    have HXA := Lib.hid hxat
    have ZO := Lib.hid (show rcA0.R.z.length = 16 from z16_len)
    clear hxat
    go_wp2_with (first | ((with_reducible refine wpList_load_by (o := ⟨some 14, .load 58 (.tmp 13), _, _, _, _⟩) ?e1 58 (.tmp 13) ?e2 ⟨b0, ox, none⟩ ?e3 _ LX.out ?_); (case e1 => rfl); (case e2 => rfl); (case e3 => rfl)) | ((with_reducible refine wpList_store_newx (o := ⟨none, .store 58 (.tmp 5) (.tmp 14), _, _, _, _⟩) (w := wr) ?e1 (.tmp 5) (.tmp 14) ?e2 wr.heap.size ?e0 ?e3 x ?e4 ZX.out ?_); (case e1 => rfl); (case e2 => rfl); (case e0 => rfl); (case e3 => rfl); (case e4 => rfl); intro w2 hb2 hx2 hs2; have X2 := Lib.hid hx2; have HW2 := Lib.hid hb2; have LI := Lib.hid hx2.load_id; have HM2 := Lib.hid (HMM.out.below hb2 (Nat.le_refl _)); have LK := HM2.out.look HVX.out.len HVX.out.1.2; rw [HXA.out] at LK; dsimp only [Option.getD_none, Option.getD_some, Option.isSome_none, Option.isSome_some] at LK; clear hx2 hb2 hs2) | ((with_reducible refine wpList_load_by (o := ⟨some 18, .load 38 (.tmp 17), _, _, _, _⟩) ?e1 38 (.tmp 17) ?e2 ⟨wr.heap.size, 0, none⟩ ?e3 _ LI.out ?_); (case e1 => rfl); (case e2 => rfl); (case e3 => rfl)) | ((with_reducible refine wpList_store_newx (o := ⟨none, .store 58 (.tmp 6) (.tmp 20), _, _, _, _⟩) (w := w2) ?e1 (.tmp 6) (.tmp 20) ?e2 w2.heap.size ?e0 ?e3 rcA0 ?e4 ZO.out ?_); (case e1 => rfl); (case e2 => rfl); (case e0 => rfl); (case e3 => rfl); (case e4 => rfl); intro w3 hb3 hx3 hs3; have X3 := Lib.hid (X2.out.below hb3 X2.out.lt); have O3 := Lib.hid hx3; have HM3 := Lib.hid (HM2.out.below hb3 (Nat.le_refl _)); have HB3 := Lib.hid (HBB.out.trans ((HW2.out.trans (hb3.mono HW2.out.size)).mono HBB.out.size)); have HV3 := Lib.hid ((HVX.out.below HW2.out (Nat.le_refl _)).below hb3 (Nat.le_refl _)); have HO := Lib.hid (fun (w9 : World) (hS : Below w3.heap.size w3 w9) => own_any x w9 (HV3.out.below hS (Nat.le_refl _)) (by have := HXL.out; omega)); unfold OwnPost at HO; clear hx3 hb3 hs3 LK))
    refine wp_region_held_drew (S := fun w' => XAt w' wr.heap.size x ∧ XAt w' w2.heap.size rcA0) (by kernel_rfl) ⟨X3.out, O3.out⟩ (fun hS => ?_)
    refine wpHv (i := 0) (oi := ⟨some 24, _, _, _, _, _⟩) (v := ?_) rfl ?_ hS ?_; rotate_left; (focus (intro w9 hSw; (try dsimp only at hSw); go_simp; try with_reducible rfl)); simp only [Act.put, Z2, Z3, Z4]
    refine wpHv (i := 1) (oi := ⟨some 25, _, _, _, _, _⟩) (v := ?_) rfl ?_ hS ?_; rotate_left; (focus (intro w9 hSw; (try dsimp only at hSw); go_simp; try with_reducible rfl)); simp only [Act.put, Z2, Z3, Z4]
    refine wpHv (i := 2) (oi := ⟨some 26, _, _, _, _, _⟩) (v := (.agg (bvals x.R.z))) rfl ?_ hS ?_; (focus (intro w9 hSw; (try dsimp only at hSw); exact exec_load_by 38 _ rfl ⟨wr.heap.size, 0, none⟩ rfl hSw.1.load_id)); simp only [Act.put, Z2, Z3, Z4]
    refine wpHv (i := 3) (oi := ⟨some 27, _, _, _, _, _⟩) (v := (.agg x.cells)) rfl ?_ hS ?_; (focus (intro w9 hSw; (try dsimp only at hSw); exact exec_load_by 58 _ rfl ⟨wr.heap.size, 0, none⟩ rfl hSw.1.load)); simp only [Act.put, Z2, Z3, Z4]
    refine wpAnyH_ready (rs := [4]) (by kernel_rfl) (by simp) (AllReadyH.cons (o := ⟨some 28, _, _, _, _, _⟩) rfl (fun K hK => ?_) AllReadyH.nil)
    go_simp
    refine (HO.out _ (Below.refl w3.heap.size w3).drew).mono ?_
    rintro e x0 ⟨y, rfl, hyR, hy, hb0⟩
    have hbx : Below w3.heap.size w3 x0 := ((Below.refl w3.heap.size w3).drew).trans (hb0.mono (Nat.le_refl _))
    clear hS
    refine hK.out _ _ ⟨X3.out.below hbx X3.out.lt, O3.out.below hbx O3.out.lt⟩ (fun hS => ?_)
    clear hK K
    have YZ : y.R.z = x.R.z := by rw [hyR]
    have YR : y.R = bone (bat (es.map (·.R)) x.R.z) x.R := by rw [xat_bat, HXA.out]; exact hyR
    have YM : y.R.may = true := by rw [hyR]; exact HMX0.out
    have HMX := Lib.hid ((HM3.out.below hbx (Nat.le_refl _)))
    have HBW := Lib.hid (HB3.out.trans (hbx.mono HB3.out.size))
    obtain ⟨w5, hrun, hm5, hg5⟩ := HMX.out.store (by omega) hy
    rw [show y.R.z = x.R.z from YZ] at hrun
    have HRUN := Lib.hid hrun
    have HM5 := Lib.hid hm5
    have HB5 := Lib.hid (HBW.out.grown hg5 HBW.out.size (fun k e => by cases e; exact Nat.le_refl _))
    have HEQ5 : Hid ((xput es y).map (·.R) = ((xs.take (k + 1)).map (·.R)).foldl mput []) := Lib.hid (by rw [HGS.out, ← HEQ.out]; exact xput_mput HMX.out.keys (r := x.R) YZ.symm YR)
    have HMAY5 : Hid (∀ x ∈ xput es y, x.R.may = true) := Lib.hid (fun u hu => by
     rcases xput_mem hu with rfl | hu
     ·exact YM
     ·exact HMAY.out u hu)
    have HS5 := Lib.hid (And.intro (hS.1.kept_map hg5 HMX.out) (hS.2.kept_map hg5 HMX.out))
    clear hrun hm5 hg5 hy hyR hb0 hbx YZ YR YM
    refine wpAnyH_ready (rs := [5]) (by kernel_rfl) (by simp) (AllReadyH.cons (o := ⟨none, _, _, _, _, _⟩) rfl (fun K hK => ?_) AllReadyH.nil)
    have hrun := HRUN.out
    go_simp
    refine hK.out _ _ HS5.out (fun _ => ?_)
    clear hK K hS hrun
    refine wpAnyH_done (by kernel_rfl) ?_ _
    go_wp2
    go_roundw
    case rel => exact ⟨k + 1, by omega, by go_num, _, HM5.out, HEQ5.out, HMAY5.out, HB5.out⟩
    case measure => simp [intOf]; omega
   | some o =>
    have HXA := Lib.hid hxat
    have HOM := Lib.hid (xat_some hxat).1
    have HOZ := Lib.hid (xat_some hxat).2
    have ZO := Lib.hid (HMM.out.rv o HOM.out).len
    have HJN := Lib.hid (join_eq (HMAY.out o HOM.out) HMX0.out HOZ.out)
    clear hxat
    go_wp2_with (first | ((with_reducible refine wpList_load_by (o := ⟨some 14, .load 58 (.tmp 13), _, _, _, _⟩) ?e1 58 (.tmp 13) ?e2 ⟨b0, ox, none⟩ ?e3 _ LX.out ?_); (case e1 => rfl); (case e2 => rfl); (case e3 => rfl)) | ((with_reducible refine wpList_store_newx (o := ⟨none, .store 58 (.tmp 5) (.tmp 14), _, _, _, _⟩) (w := wr) ?e1 (.tmp 5) (.tmp 14) ?e2 wr.heap.size ?e0 ?e3 x ?e4 ZX.out ?_); (case e1 => rfl); (case e2 => rfl); (case e0 => rfl); (case e3 => rfl); (case e4 => rfl); intro w2 hb2 hx2 hs2; have X2 := Lib.hid hx2; have HW2 := Lib.hid hb2; have LI := Lib.hid hx2.load_id; have HM2 := Lib.hid (HMM.out.below hb2 (Nat.le_refl _)); have LK := HM2.out.look HVX.out.len HVX.out.1.2; rw [HXA.out] at LK; dsimp only [Option.getD_none, Option.getD_some, Option.isSome_none, Option.isSome_some] at LK; clear hx2 hb2 hs2) | ((with_reducible refine wpList_load_by (o := ⟨some 18, .load 38 (.tmp 17), _, _, _, _⟩) ?e1 38 (.tmp 17) ?e2 ⟨wr.heap.size, 0, none⟩ ?e3 _ LI.out ?_); (case e1 => rfl); (case e2 => rfl); (case e3 => rfl)) | ((with_reducible refine wpList_store_newx (o := ⟨none, .store 58 (.tmp 6) (.tmp 20), _, _, _, _⟩) (w := w2) ?e1 (.tmp 6) (.tmp 20) ?e2 w2.heap.size ?e0 ?e3 o ?e4 ZO.out ?_); (case e1 => rfl); (case e2 => rfl); (case e0 => rfl); (case e3 => rfl); (case e4 => rfl); intro w3 hb3 hx3 hs3; have X3 := Lib.hid (X2.out.below hb3 X2.out.lt); have O3 := Lib.hid hx3; have HM3 := Lib.hid (HM2.out.below hb3 (Nat.le_refl _)); have HB3 := Lib.hid (HBB.out.trans ((HW2.out.trans (hb3.mono HW2.out.size)).mono HBB.out.size)); have HV3 := Lib.hid ((HVX.out.below HW2.out (Nat.le_refl _)).below hb3 (Nat.le_refl _)); have HJ := Lib.hid (fun (w9 : World) (hS : Below w3.heap.size w3 w9) => xjoin_any o x w9 (HLA.out _ (HB3.out.trans (hS.mono HB3.out.size))) (HM3.out.rv o HOM.out |>.below hS (Nat.le_refl _)) (HV3.out.below hS (Nat.le_refl _))); rw [HJN.out] at HJ; dsimp only [Option.getD_some, Option.isSome_some] at HJ; clear hx3 hb3 hs3 LK))
    refine wp_region_held_drew (S := fun w' => XAt w' wr.heap.size x ∧ XAt w' w2.heap.size o) (by kernel_rfl) ⟨X3.out, O3.out⟩ (fun hS => ?_)
    refine wpHv (i := 0) (oi := ⟨some 30, _, _, _, _, _⟩) (v := ?_) rfl ?_ hS ?_; rotate_left; (focus (intro w9 hSw; (try dsimp only at hSw); go_simp; try with_reducible rfl)); simp only [Act.put, Z2, Z3, Z4]
    refine wpHv (i := 1) (oi := ⟨some 31, _, _, _, _, _⟩) (v := ?_) rfl ?_ hS ?_; rotate_left; (focus (intro w9 hSw; (try dsimp only at hSw); go_simp; try with_reducible rfl)); simp only [Act.put, Z2, Z3, Z4]
    refine wpHv (i := 2) (oi := ⟨some 32, _, _, _, _, _⟩) (v := (.agg (bvals x.R.z))) rfl ?_ hS ?_; (focus (intro w9 hSw; (try dsimp only at hSw); exact exec_load_by 38 _ rfl ⟨wr.heap.size, 0, none⟩ rfl hSw.1.load_id)); simp only [Act.put, Z2, Z3, Z4]
    refine wpHv (i := 3) (oi := ⟨some 33, _, _, _, _, _⟩) (v := (.agg o.cells)) rfl ?_ hS ?_; (focus (intro w9 hSw; (try dsimp only at hSw); exact exec_load_by 58 _ rfl ⟨w2.heap.size, 0, none⟩ rfl hSw.2.load)); simp only [Act.put, Z2, Z3, Z4]
    refine wpHv (i := 4) (oi := ⟨some 34, _, _, _, _, _⟩) (v := (.agg x.cells)) rfl ?_ hS ?_; (focus (intro w9 hSw; (try dsimp only at hSw); exact exec_load_by 58 _ rfl ⟨wr.heap.size, 0, none⟩ rfl hSw.1.load)); simp only [Act.put, Z2, Z3, Z4]
    refine wpAnyH_ready (rs := [5]) (by kernel_rfl) (by simp) (AllReadyH.cons (o := ⟨some 35, _, _, _, _, _⟩) rfl (fun K hK => ?_) AllReadyH.nil)
    go_simp
    refine (HJ.out _ (Below.refl w3.heap.size w3).drew).mono ?_
    rintro e x0 ⟨y, rfl, hyR, hy, hb0⟩
    have hbx : Below w3.heap.size w3 x0 := ((Below.refl w3.heap.size w3).drew).trans (hb0.mono (Nat.le_refl _))
    clear hS
    refine hK.out _ _ ⟨X3.out.below hbx X3.out.lt, O3.out.below hbx O3.out.lt⟩ (fun hS => ?_)
    clear hK K
    have YZ : y.R.z = x.R.z := by rw [hyR, jn_z]; exact HOZ.out
    have YR : y.R = bone (bat (es.map (·.R)) x.R.z) x.R := by rw [xat_bat, HXA.out]; exact hyR
    have YM : y.R.may = true := by rw [hyR]; exact jn_may (HMAY.out o HOM.out) HMX0.out
    have HMX := Lib.hid ((HM3.out.below hbx (Nat.le_refl _)))
    have HBW := Lib.hid (HB3.out.trans (hbx.mono HB3.out.size))
    obtain ⟨w5, hrun, hm5, hg5⟩ := HMX.out.store (by omega) hy
    rw [show y.R.z = x.R.z from YZ] at hrun
    have HRUN := Lib.hid hrun
    have HM5 := Lib.hid hm5
    have HB5 := Lib.hid (HBW.out.grown hg5 HBW.out.size (fun k e => by cases e; exact Nat.le_refl _))
    have HEQ5 : Hid ((xput es y).map (·.R) = ((xs.take (k + 1)).map (·.R)).foldl mput []) := Lib.hid (by rw [HGS.out, ← HEQ.out]; exact xput_mput HMX.out.keys (r := x.R) YZ.symm YR)
    have HMAY5 : Hid (∀ x ∈ xput es y, x.R.may = true) := Lib.hid (fun u hu => by
     rcases xput_mem hu with rfl | hu
     ·exact YM
     ·exact HMAY.out u hu)
    have HS5 := Lib.hid (And.intro (hS.1.kept_map hg5 HMX.out) (hS.2.kept_map hg5 HMX.out))
    clear hrun hm5 hg5 hy hyR hb0 hbx YZ YR YM
    refine wpHv (i := 6) (oi := ⟨some 29, _, _, _, _, _⟩) (v := ?_) rfl ?_ hS ?_; rotate_left; (focus (intro w9 hSw; (try dsimp only at hSw); go_simp; try with_reducible rfl)); simp only [Act.put, Z2, Z3, Z4]
    refine wpHv (i := 7) (oi := ⟨some 36, _, _, _, _, _⟩) (v := ?_) rfl ?_ hS ?_; rotate_left; (focus (intro w9 hSw; (try dsimp only at hSw); go_simp; try with_reducible rfl)); simp only [Act.put, Z2, Z3, Z4]
    refine wpHv (i := 8) (oi := ⟨some 37, _, _, _, _, _⟩) (v := ?_) rfl ?_ hS ?_; rotate_left; (focus (intro w9 hSw; (try dsimp only at hSw); go_simp; try with_reducible rfl)); simp only [Act.put, Z2, Z3, Z4]
    refine wpAnyH_ready (rs := [9]) (by kernel_rfl) (by simp) (AllReadyH.cons (o := ⟨none, _, _, _, _, _⟩) rfl (fun K hK => ?_) AllReadyH.nil)
    have hrun := HRUN.out
    go_simp
    refine hK.out _ _ HS5.out (fun _ => ?_)
    clear hK K hS hrun
    refine wpAnyH_done (by kernel_rfl) ?_ _
    go_wp2
    go_roundw
    case rel => exact ⟨k + 1, by omega, by go_num, _, HM5.out, HEQ5.out, HMAY5.out, HB5.out⟩
    case measure => simp [intOf]; omega
  ·obtain rfl : k = len := by omega
   rw [List.take_of_length_le (by rw [HLN.out]; exact Nat.le_refl _)] at heq
   have HEQ := Lib.hid heq
   have HMM := Lib.hid hM
   have HBB := Lib.hid hb
   clear heq hmay hM hb
   go_wp2
   go_ret
   exact ⟨_, _, _, rfl, Nat.le_refl _, HMM.out, HEQ.out, HBB.out⟩
end
section
section
open Go.RowKit Go.Shelf WM
set_option maxRecDepth 100000
theorem fill_one {z : List Int} (h : z.length = 16) (n r : Int) (A : Option Addr) (l c : Nat) :
  Instr.fill (fun i => some (i * 19, 19)) ((Array.range (1 * 19)).map (rcA0.cells[· % rcA0.cells.size]!)) [(0, .agg (rcells z n r (.slice A l c)))] = some (rcells z n r (.slice A l c)) := by
 obtain ⟨a, b, c', d, e, f, g, i, j, k, l', m, n', o, p, q, rfl⟩ := list16 h
 kernel_rfl
theorem run_bslice {x : RcA} (hz : x.R.z.length = 16) (w : World) : (Instr.buildSlice 22 1 #[(0, .agg x.cells)]).run Tryz.prog w = .ok (.slice (some ⟨w.heap.size, 0, none⟩) 1 1) (w.alloc (.cells x.cells 58)) := by
 have hf := fill_one hz x.R.n x.R.r x.A x.R.fs.length x.c
 unfold Instr.buildSlice
 rw [Sem.run_bind, run_underlying Tryz.underlying22 w]
 simp only [Result.andThen_ok, Sem.run_bind, sizeRecW, Value.cells]
 rw [if_neg (by decide), if_neg (by decide)]
 simp only [Sem.run_bind, zeroX, Result.andThen_ok, Sem.run_pure]
 have hf' : Instr.fill (fun i => some (i * 19, 19)) ((Array.range (1 * 19)).map (rcA0.cells[· % rcA0.cells.size]!)) (#[(0, Value.agg x.cells)] : Array (Nat × Value)).toList = some x.cells := hf
 rw [hf']
 generalize x.cells = C
 clear hf hf'
 simp only [newRow, newObj]
 rfl
section
variable {w : World} {ops : Array Oper} {rest : List Oper} {o : Oper} {a : Act} {Q : Exit → Act → World → Prop}
theorem wpList_bslice (hgd : o.guard = none) (y : Operand) (hop : o.op = .buildSlice 22 1 #[(0, y)]) (x : RcA) (hy : a.eval y = .agg x.cells) (hz : x.R.z.length = 16)
  (hK : wpList Tryz.prog ops Q rest (a.put o.dst (.slice (some ⟨w.heap.size, 0, none⟩) 1 1)) (w.alloc (.cells x.cells 58))) : wpList Tryz.prog ops Q (o :: rest) a w := by
 refine wpList_plain hgd fun K' hK' => ?_
 unfold Oper.wp execOp
 simp only [hop, List.map_toArray, List.map_cons, List.map_nil, hy, Sem.run_bind, run_bslice hz, Result.andThen_ok, Sem.run_pure]
 exact hK' _ _ hK
variable {F : Fence} {n : Nat}
theorem wpListIn_bslice (hgd : o.guard = none) (y : Operand) (hop : o.op = .buildSlice 22 1 #[(0, y)]) (x : RcA) (hy : a.eval y = .agg x.cells) (hz : x.R.z.length = 16)
  (hK : wpListIn F n Tryz.prog ops Q rest (a.put o.dst (.slice (some ⟨w.heap.size, 0, none⟩) 1 1)) (w.alloc (.cells x.cells 58))) : wpListIn F n Tryz.prog ops Q (o :: rest) a w := by
 refine wpListIn_plain hgd fun K' hK' => ?_
 unfold Oper.wpIn
 refine ⟨by simp [Oper.about, hop], ?_⟩
 rw [Oper.semAt_plain F _ _ (by rw [hop]; intro c hc'; cases hc')]
 unfold execOp
 simp only [hop, List.map_toArray, List.map_cons, List.map_nil, hy, Sem.run_bind, run_bslice hz, Result.andThen_ok, Sem.run_pure]
 exact hK' _ _ hK
theorem wpListIn_load_by (hgd : o.guard = none) (ty : TypeId) (x : Operand) (hop : o.op = .load ty x) (ad : Addr) (hx : a.eval x = .pointer (some ad)) (v : Value) (hv : (loadVar ty ad).run Tryz.prog w = .ok v w)
  (hK : wpListIn F n Tryz.prog ops Q rest (a.put o.dst v) w) : wpListIn F n Tryz.prog ops Q (o :: rest) a w := by
 refine wpListIn_plain hgd fun K' hK' => ?_
 unfold Oper.wpIn
 refine ⟨by simp [Oper.about, hop], ?_⟩
 rw [Oper.semAt_plain F _ _ (by rw [hop]; intro c hc'; cases hc')]
 unfold execOp
 simp only [hop, hx, Instr.loadAt, Instr.sureAddr, Sem.run_bind, Sem.run_pure, Result.andThen_ok, hv]
 exact hK' _ _ hK
theorem wpListIn_store_newx (hgd : o.guard = none) (p q : Operand) (hop : o.op = .store 58 p q)
  (b : Nat) (hb : b = w.heap.size) (hx : a.eval p = .pointer (some ⟨b, 0, none⟩)) (x : RcA) (hy : a.eval q = .agg x.cells) (hz : x.R.z.length = 16)
  (hK : wpListIn F n Tryz.prog ops Q rest (a.put o.dst undef) (w.alloc (.cells x.cells 58))) : wpListIn F n Tryz.prog ops Q (o :: rest) a (w.alloc (.cells rcA0.cells 58)) := by
 subst hb
 refine wpListIn_plain hgd fun K' hK' => ?_
 unfold Oper.wpIn
 refine ⟨by simp [Oper.about, hop], ?_⟩
 rw [Oper.semAt_plain F _ _ (by rw [hop]; intro c hc'; cases hc')]
 have hr := run_storeVar_row (P := Tryz.prog) (w.alloc (.cells rcA0.cells 58)) w.heap.size 58 58 rcA0.cells x.cells (heap_alloc_new w _) (x_size hz) ((rcells_size z16_len _ _ _).trans (cells_len hz).symm) (x_one x)
 unfold execOp
 simp only [hop, hx, hy, Instr.storeAt, Instr.sureAddr, Sem.run_bind, Sem.run_pure, Result.andThen_ok, hr]
 rw [show (w.alloc (.cells rcA0.cells 58)).setRow w.heap.size x.cells = w.alloc (.cells x.cells 58) from putR w _ _]
 exact hK' _ _ hK
end
end
section
open Go.RowKit Go.Shelf WM
set_option maxRecDepth 100000
attribute [local go_sem] Oper.semAt_some
structure XR where
 x : RcA
 ok : x.R.Ok
def encX (x : XR) : Array Value := #[.agg x.1.cells]
def named (es : List RcA) (h : ∀ x ∈ es, x.R.Ok) : List XR := es.attach.map fun x => ⟨x.1, h x.1 x.2⟩
theorem named_fst (es : List RcA) (h : ∀ x ∈ es, x.R.Ok) : (named es h).map (·.1) = es := by
 unfold named
 rw [List.map_map]
 exact List.attach_map_subtype_val es
theorem nodup_of_map {α β : Type} {f : α → β} {l : List α} (h : (l.map f).Nodup) : l.Nodup := by
 unfold List.Nodup at h ⊢
 rw [List.pairwise_map] at h
 exact h.imp fun hne e => hne (by rw [e])
def Came (es : List RcA) (D : DataW Value) (left : Lit → Bool) (pre : List XR) : Prop :=
 (∀ x ∈ pre, x.1 ∈ es) ∧ (pre.map (·.1.R.z)).Nodup ∧ ∀ l, left l = true ↔ (Maps.has D l = true ∧ ∀ x ∈ pre, keyOf Tryz.prog 38 (.agg (bvals x.1.R.z)) ≠ some l)
theorem Came.start (es : List RcA) (D : DataW Value) : Came es D (Maps.has D) [] := ⟨(fun x hx => by cases hx), List.nodup_nil, fun l => ⟨fun h => ⟨h, (fun x hx => by cases hx)⟩, fun h => h.1⟩⟩
theorem Came.step {es : List RcA} {D : DataW Value} {left : Lit → Bool} {pre : List XR} (h : Came es D left pre) {x : XR} (hx : x.1 ∈ es) {kl : Lit} (hk : keyOf Tryz.prog 38 (.agg (bvals x.1.R.z)) = some kl) (hl : left kl = true) :
  Came es D (fun z => left z && !z.sameKey kl) (pre ++ [x]) := by
 obtain ⟨h1, h2, h3⟩ := h
 have hkl := keyID.key hk
 refine ⟨fun y hy => ?_, ?_, fun l => ?_⟩
 ·rcases List.mem_append.1 hy with hy | hy
  ·exact h1 y hy
  ·rw [List.mem_singleton.1 hy]; exact hx
 ·rw [List.map_append, List.nodup_append]
  refine ⟨h2, by simp, fun a ha b hb e => ?_⟩
  obtain ⟨y, hy, rfl⟩ := List.mem_map.1 ha
  simp only [List.map_cons, List.map_nil, List.mem_singleton] at hb
  have := ((h3 kl).1 hl).2 y hy
  rw [e, hb] at this
  exact this hk
 ·have hs : l.sameKey kl = true ↔ l = kl := ⟨fun h => WideAt.sameKey_eq h, fun h => by rw [h]; exact WideAt.sameKey_self hkl⟩
  have hs' : (!l.sameKey kl) = true ↔ l ≠ kl := by
   rw [Bool.not_eq_true', ← Bool.not_eq_true, hs]
  rw [Bool.and_eq_true, hs', h3]
  constructor
  ·rintro ⟨⟨a, b⟩, c⟩
   refine ⟨a, fun y hy => ?_⟩
   rcases List.mem_append.1 hy with hy | hy
   ·exact b y hy
   ·rw [List.mem_singleton.1 hy, hk]
    exact fun e => c (Option.some.inj e).symm
  ·rintro ⟨a, b⟩
   refine ⟨⟨a, fun y hy => b y (List.mem_append_left _ hy)⟩, fun e => ?_⟩
   exact b x (List.mem_append_right _ (List.mem_singleton.2 rfl)) (by rw [hk, e])
theorem Came.perm {es : List RcA} {D : DataW Value} {left : Lit → Bool} {pre : List XR} (h : Came es D left pre) (hn : (es.map (·.R.z)).Nodup) (hok : ∀ x ∈ es, x.R.Ok) (hh : ∀ x ∈ es, ∀ l, keyOf Tryz.prog 38 (.agg (bvals x.R.z)) = some l → Maps.has D l = true)
  (hl : ∀ l, left l = false) : (pre.map (·.1)).Perm es := by
 obtain ⟨h1, h2, h3⟩ := h
 have hne : es.Nodup := nodup_of_map hn
 have hnp : (pre.map (·.1)).Nodup := nodup_of_map (f := fun x : RcA => x.R.z) (by rw [List.map_map]; exact h2)
 refine (List.perm_ext_iff_of_nodup hnp hne).2 fun x => ⟨fun hx => ?_, fun hx => ?_⟩
 ·obtain ⟨y, hy, rfl⟩ := List.mem_map.1 hx
  exact h1 y hy
 ·obtain ⟨l, hkl⟩ := key_id (hok x hx).1 (hok x hx).2
  have hd := hh x hx l hkl
  rcases Classical.em (∃ y ∈ pre, keyOf Tryz.prog 38 (.agg (bvals y.1.R.z)) = some l) with ⟨y, hy, hky⟩ | hno
  ·have hz : y.1.R.z = x.R.z := Classical.byContradiction fun e => key_ne hky hkl e rfl
   have e1 := xat_mem hn (h1 y hy)
   have e2 := xat_mem hn hx
   rw [hz, e2] at e1
   exact List.mem_map.2 ⟨y, hy, (Option.some.inj e1).symm⟩
  ·have := (h3 l).2 ⟨hd, fun y hy e => hno ⟨y, hy, e⟩⟩
   rw [hl l] at this
   cases this
def BoxR (w : World) (Bx bm : Nat) : Prop := w.heap[Bx]? = some (.cells #[.map (some bm)] 144)
theorem BoxR.lt {w : World} {Bx bm : Nat} (h : BoxR w Bx bm) : Bx < w.heap.size := (Array.getElem?_eq_some_iff.1 h).1
set_option maxHeartbeats 4000000 in
theorem values1_in (n : Nat) (hn : 1 ≤ n) (l Bx bm nn : Nat) (es : List RcA) (J Jx : List XR → World → Prop) (W : World) (hJ : AbidesFrom W.heap.size J)
  (hY : ∀ pre x W, J pre W → pre.length < es.length → YieldAt Fence.wide (n - 1) Tryz.prog l (encX x) W fun e W' =>
   (e = .returned (.bool true) ∧ J (pre ++ [x]) W' ∧ KeepsWalks W W') ∨ (e = .returned (.bool false) ∧ Jx (pre ++ [x]) W'))
  (hBx : BoxR W Bx bm) (hM : MRs W bm nn es) (h0 : J [] W) :
  CallsIn Fence.wide n Tryz.prog 128 #[.func (.yield l) #[] #[], .pointer (some ⟨Bx, 0, none⟩)] W fun e W' => (∃ v, e = .returned v) ∧
   ((∃ ys : List XR, (ys.map (·.1)).Perm es ∧ J ys W') ∨ (∃ pre : List XR, True ∧ Jx pre W')) := by
 have hok : ∀ x ∈ es, x.R.Ok := fun x hx => (hM.rv x hx).1
 obtain ⟨D, hown, hsz, hkeys, _, hat, hhas⟩ := hM
 have cB : W.cell? ⟨Bx, 0, none⟩ = some (.map (some bm)) := by rw [cell_of_row _ _ _ _ _ _ hBx]; rfl
 have HH : Hid (∀ x ∈ es, ∀ l, keyOf Tryz.prog 38 (.agg (bvals x.R.z)) = some l → Maps.has D l = true) := Lib.hid fun x hx l hl => by
  rw [(hat _ _ hl).1, xat_mem hkeys hx]; rfl
 have HV : Hid (∀ kl c yd, Maps.has D kl = true → heldR c = some yd → (∀ zd, D.atKey kl zd = yd.1) → ∃ x : XR, x.1 ∈ es ∧ keyOf Tryz.prog 38 (.agg (bvals x.1.R.z)) = some kl ∧ c = .agg x.1.cells) := Lib.hid fun kl c yd hd hc hz => by
  obtain ⟨x, hx, hk⟩ := hhas kl hd
  refine ⟨⟨x, hok x hx⟩, hx, hk, ?_⟩
  have h1 := (hat _ _ hk).2
  rw [hz, xat_mem hkeys hx] at h1
  simp only [heldR, Option.some.injEq] at hc
  rw [← hc] at h1
  simpa using h1
 have HSZ := Lib.hid hsz
 have HKY := Lib.hid hkeys
 have HOK := Lib.hid hok
 have hz := zeroX
 clear hat hhas hsz hkeys hok hBx
 refine callsIn_of_wp Tryz.func128 rfl trivial ?_ rfl
 simp only [Tryz.ntmps128, List.size_toArray, List.length_cons, List.length_nil, Nat.reduceAdd, Nat.reduceSub, Array.replicate_succ, Array.replicate_zero, List.push_toArray, List.append_toArray, List.nil_append, List.cons_append]
 gi_wp2_with (first
  | (gi_at_range; refine wpListIn_range_own _ rfl _ 144 rfl 38 58 keyID Tryz.underlying144 heldR bm nn _ rfl hown ?_; intro w0 hrg0 hg0 hs0))
 go_frame
 gi_loopw [4] (fun _ wr => ∃ (left : Lit → Bool) (cnt : Nat) (pre : List XR), wr.ranges Tryz.prog 38 heldR bm W.heap.size nn D left cnt ∧ pre.length + cnt ≤ Maps.size D ∧ Came es D left pre ∧ J pre wr)
  (fun _ wr => wr.rangeLeft bm W.heap.size)
 case atStart =>
  exact ⟨_, _, [], hrg0, by simp, Came.start es D, hJ [] W w0 none h0 hg0 (fun r e => by cases e)⟩
 case round =>
  obtain ⟨left, cnt, pre, hrg, hcs, hC, hJs⟩ := hrel
  gi_wp2_with (first
   | (gi_at_next; refine wpListIn_next_ranges (α := Value) (β := Value) _ rfl _ rfl 38 keyID heldR id id (fun key kl hk => ⟨key, rfl⟩) (fun v y hv => ⟨v, rfl⟩) bm W.heap.size nn _ _ _ rfl hrg ?_ ?_))
  ·intro hc0 hl0
   gi_wp2
   go_end0
   exact ⟨⟨_, rfl⟩, .inl ⟨pre, hC.perm HKY.out HOK.out HH.out hl0, hJs⟩⟩
  ·intro key c kl yd yp w2 cnt2 hkey hlk hv hatk hrg2 hlt hg2 hs2 hen
   try dsimp only [id] at hkey
   try dsimp only [id] at hv
   try dsimp only [id] at hen
   try dsimp only [id]
   obtain ⟨x, hxe, hxk, rfl⟩ := HV.out kl c (yd, yp) ((hC.2.2 kl).1 hlk).1 hv hatk
   have hC2 := hC.step hxe hxk hlk
   have hJ2 : J pre w2 := hJ _ wr w2 (some W.heap.size) hJs hg2 (fun r e => by cases e; exact ⟨Nat.le_refl _, hrg.iter_walk⟩)
   have hJ3 := hJ _ _ _ none hJ2 (World.grownBy_alloc w2 (.cells x.1.cells 58) none) (fun r e => by cases e)
   have hrg3 := hrg2.alloc (.cells x.1.cells 58)
   obtain ⟨fn, tmps, assign, body, hy, hR⟩ := hY pre x _ hJ3 (by rw [← HSZ.out]; omega)
   have LX := Lib.hid (XAt.new (x := x.1) w2 x.2.1).load
   have ZX := Lib.hid x.2.1
   have HRR := Lib.hid hR
   have HC2 := Lib.hid hC2
   have HRG := Lib.hid hrg3
   have HMS := Lib.hid (show (w2.alloc (.cells x.1.cells 58)).rangeLeft bm W.heap.size < wr.rangeLeft bm W.heap.size by rw [hrg3.left_eq, hrg.left_eq]; exact hlt)
   dsimp only [encX] at hy
   clear hs2 hR hC2 hJ2 hJ3 hrg3 hC hJs hkey hv hatk
   gi_wp2_with (first
    | ((with_reducible refine wpListIn_store_newx (w := w2) ?e0 (.tmp 4) (.tmp 10) ?e1 w2.heap.size ?e2 ?e3 x.1 ?e4 ZX.out ?_); (case e0 => rfl); (case e1 => rfl); (case e2 => rfl); (case e3 => rfl); (case e4 => rfl))
    | ((with_reducible refine wpListIn_load_by ?e0 58 (.tmp 4) ?e1 ⟨w2.heap.size, 0, none⟩ ?e2 _ LX.out ?_); (case e0 => rfl); (case e1 => rfl); (case e2 => rfl)))
   refine HRR.out.mono ?_
   rintro e W3 (⟨rfl, hJ3, hk3⟩ | ⟨rfl, hJx3⟩)
   ·have HJ3 := Lib.hid hJ3
    have HR3 := Lib.hid (HRG.out.of_walks hk3)
    clear hJ3 hk3
    gi_wp2
    go_roundw
    case rel => exact ⟨_, cnt2, pre ++ [x], HR3.out, by simp; omega, HC2.out, HJ3.out⟩
    case measure => rw [HR3.out.left_eq, hrg.left_eq]; exact hlt
   ·have HX := Lib.hid hJx3
    clear hJx3
    gi_wp2
    refine bodyPost_ret (results_none rfl _ _ _) rfl ?_
    exact ⟨⟨_, rfl⟩, .inr ⟨_, trivial, HX.out⟩⟩
end
section
open Go.RowKit Go.Shelf WM
set_option maxRecDepth 100000
def insRen : Go.Shelf.Ren := ⟨fun | 20 => 136 | n => n, fun | 24 => 58 | 22 => 22 | 3 => 3 | 25 => 160 | 4 => 4 | 0 => 0 | n => n, fun n => n⟩
theorem insLay : Go.Proofs.SlLaysF0.n20 Tryz.prog insRen :=
  { mixed := by kernel_rfl, f20 := ⟨Tryz.f136.name, by decide, Tryz.func136.trans (congrArg some (by kernel_rfl))⟩,
    t0 := Tryz.underlying0, a0 := Tryz.isAgg0, z0 := Tryz.sizeOf0, v0 := Tryz.zeroValue0,
    t3 := Tryz.underlying3, a3 := Tryz.isAgg3, z3 := Tryz.sizeOf3, v3 := Tryz.zeroValue3,
    t4 := Tryz.underlying4, a4 := Tryz.isAgg4, z4 := Tryz.sizeOf4, v4 := Tryz.zeroValue4,
    t22 := Tryz.underlying22, a22 := Tryz.isAgg22, z22 := Tryz.sizeOf22, v22 := Tryz.zeroValue22,
    t25 := Tryz.underlying160, a25 := Tryz.isAgg160, z25 := Tryz.sizeOf160, v25 := Tryz.zeroValue160 }
instance : Inhabited XR := ⟨⟨rcA0, ⟨z16_len, z16_bytes⟩⟩⟩
def encR (x : XR) : List Value := x.1.cs
theorem encR_arr (x : XR) : (encR x).toArray = x.1.cells := by simp [encR, RcA.cs]
def cfR (x y : XR) : Int := cmpB x.1.R.z y.1.R.z
theorem ltR (x y : XR) : ltOf cfR x y = lessL x.1.R.z y.1.R.z := cmpB_less
theorem rising1_any (x y : XR) (W : World) : Calls Tryz.prog 121 #[.agg x.1.cells, .agg y.1.cells] W fun e w' => e = .returned (.int .i64 (cfR x y)) ∧ ∃ q os, w' = Go.Sort.grow (W.drewN q) os := by
 have X1 := (XAt.new (x := x.1) W x.2.1).old (.cells y.1.cells 58)
 have X2 := XAt.new (x := y.1) (W.alloc (.cells x.1.cells 58)) y.2.1
 rw [World.size_alloc] at X2
 have L1 := Lib.hid X1.load_id
 have L2 := Lib.hid X2.load_id
 have HC := Lib.hid (compare_any x.1.R.z y.1.R.z ((W.alloc (.cells x.1.cells 58)).alloc (.cells y.1.cells 58)) x.2.2 y.2.2 x.2.1 y.2.1)
 unfold cfR
 generalize cmpB x.1.R.z y.1.R.z = r at HC ⊢
 clear X1 X2
 go_enter Tryz.func121, Tryz.ntmps121
 go_wp2_with (first | ((with_reducible refine wpList_load_by (o := ⟨some 6, .load 38 (.tmp 5), _, _, _, _⟩) ?e1 38 (.tmp 5) ?e2 ⟨W.heap.size, 0, none⟩ ?e3 _ L1.out ?_); (case e1 => rfl); (case e2 => rfl); (case e3 => rfl)) | ((with_reducible refine wpList_load_by (o := ⟨some 8, .load 38 (.tmp 7), _, _, _, _⟩) ?e1 38 (.tmp 7) ?e2 ⟨(W.heap.size + 1), 0, none⟩ ?e3 _ L2.out ?_); (case e1 => rfl); (case e2 => rfl); (case e3 => rfl)))
 refine HC.out.mono ?_
 rintro e w1 ⟨rfl, q, os, hw1⟩
 have HW : Hid (∃ q os, w1 = Go.Sort.grow (W.drewN q) os) := Lib.hid ⟨q, _, by rw [hw1, Go.Sort.alloc_eq_grow, Go.Sort.alloc_eq_grow, Go.Sort.grow_grow]; exact Go.Sort.grow_grow (W.drewN q) _ _⟩
 clear hw1
 go_wp2
 go_ret
 exact ⟨rfl, HW.out⟩
theorem cmpR (blk off size : Nat) (w : World) : CmpLays Tryz.prog 121 #[] encR 19 cfR blk off size w := fun m os dk _ x y => by
 have h := rising1_any x y (sortWorldK encR 19 w blk off m dk os)
 rw [← encR_arr, ← encR_arr] at h
 exact h
theorem swoR : Go.Sort.SWO (ltOf cfR) where
 irrefl x := by rw [ltR, il_irr]
 trans x y z h1 h2 := by rw [ltR] at *; exact il_trans h1 h2
 ntrans x y z h1 h2 := by
  rw [ltR] at *
  cases h : lessL x.1.R.z z.1.R.z
  ·rfl
  ·rcases il_tri x.1.R.z y.1.R.z with h3 | h3 | h3
   ·rw [h3] at h1; cases h1
   ·rw [h3] at h; rw [h] at h2; cases h2
   ·have := il_trans h3 h; rw [this] at h2; cases h2
def SortPost (w : World) (blk : Nat) (d : Array XR) (e : Ending) (w' : World) : Prop :=
 e = .returned (.tuple #[]) ∧ ∃ d' n os, Go.Sort.PermIn 0 d.size d d' ∧ Go.Sort.SortedIn (ltOf cfR) 0 d.size d' ∧ w' = sortWorldK encR 19 w blk 0 n d' os
theorem ins_any (blk cap : Nat) (d : Array XR) (w : World) (hH : Go.Sort.HoldsK encR 19 w blk 0 d) (hblk : blk < w.heap.size) (hsz : d.size ≤ 10) :
  Calls Tryz.prog 136 #[.slice (some ⟨blk, 0, none⟩) d.size cap, .int .i64 0, .int .i64 d.size, .func (.func 121) #[] #[]] w (SortPost w blk d) := by
 have h := AnyQ.insertionSortCmpFunc insLay 19 Tryz.isAgg58 sizeRecW encR (fun x => cs_len x.2.1) (fun x => cs_one x.1) cfR 121 #[] blk 0 cap 0 d.size d w (enters_of Tryz.func121 (by kernel_rfl) rfl) (cmpR blk 0 d.size w) hH hblk (Nat.zero_le _) (Nat.le_refl _) (by omega)
 exact h.mono fun e w' ⟨he, n, os, hw⟩ =>
  have h2 := Go.Sort.insertionSort_holds (lt := ltOf cfR) swoR d 0 d.size (Nat.zero_le _) (Nat.le_refl _)
  ⟨he, _, n, os, h2.1, h2.2, hw⟩
theorem ins_none (w : World) (fv : Value) : Calls Tryz.prog 136 #[.slice none 0 0, .int .i64 0, .int .i64 0, fv] w fun e w' => e = .returned (.tuple #[]) ∧ w' = w := by
 go_enter Tryz.func136, Tryz.ntmps136
 go_wp2
 refine wp_loop_rounds 1 ?_
 rw [rounds_succ]
 go_wp2
 go_end0
 exact ⟨rfl, rfl⟩
theorem bitsLen_any (n : Nat) (h : n ≤ 10) (w : World) : Calls Tryz.prog 134 #[.int .u64 n] w fun e w' => (∃ l : Int, e = .returned (.int .i64 l)) ∧ w' = w := by
 have h64 : ∀ w : World, Calls Tryz.prog 145 #[.int .u64 n] w fun e w' => (∃ l : Int, e = .returned (.int .i64 l)) ∧ w' = w := fun w => by
  have hc : n = 0 ∨ n = 1 ∨ n = 2 ∨ n = 3 ∨ n = 4 ∨ n = 5 ∨ n = 6 ∨ n = 7 ∨ n = 8 ∨ n = 9 ∨ n = 10 := by omega
  rcases hc with rfl | rfl | rfl | rfl | rfl | rfl | rfl | rfl | rfl | rfl | rfl
  all_goals
   go_enter Tryz.func145, Tryz.ntmps145
   go_wp2
   go_ret
   exact ⟨⟨_, rfl⟩, rfl⟩
 have H := Lib.hid h64
 clear h64
 go_enter Tryz.func134, Tryz.ntmps134
 go_wp2_with fail
 refine (H.out _).mono ?_
 rintro e w1 ⟨⟨l, rfl⟩, rfl⟩
 go_wp2
 go_ret
 exact ⟨⟨_, rfl⟩, rfl⟩
set_option maxHeartbeats 1000000 in
theorem pdq_any (A : Option Addr) (n cap : Nat) (lim : Int) (fv : Value) (w : World) (h : n ≤ 10) (R : Ending → World → Prop) (hr : ∀ w', R (.returned (.tuple #[])) w' → R (.returned (.tuple #[])) w')
  (hi : Calls Tryz.prog 136 #[.slice A n cap, .int .i64 0, .int .i64 n, fv] w fun e w' => e = .returned (.tuple #[]) ∧ R e w') :
  Calls Tryz.prog 133 #[.slice A n cap, .int .i64 0, .int .i64 n, .int .i64 lim, fv] w R := by
 have HI := Lib.hid hi
 have t1 : (n : Int) ≤ 12 := by omega
 clear hi
 go_enter Tryz.func133, Tryz.ntmps133
 go_wp2
 refine wp_loop_rounds 1 ?_
 rw [rounds_succ]
 go_wp2_with fail
 refine HI.out.mono ?_
 rintro e w1 ⟨rfl, h1⟩
 have H1 := Lib.hid h1
 clear h1
 go_wp2
 (try simp only [Exit.inBlock, Exit.then])
 refine bodyPost_ret (results_none rfl _ _ _) rfl ?_
 exact H1.out
set_option maxHeartbeats 1000000 in
theorem sortFunc_any (A : Option Addr) (n cap : Nat) (fv : Value) (w : World) (h : n ≤ 10) (R : Ending → World → Prop)
  (hi : Calls Tryz.prog 136 #[.slice A n cap, .int .i64 0, .int .i64 n, fv] w fun e w' => e = .returned (.tuple #[]) ∧ R e w') :
  Calls Tryz.prog 127 #[.slice A n cap, fv] w fun e w' => e = .returned (.tuple #[]) ∧ R e w' := by
 have HB := Lib.hid (bitsLen_any n h)
 have HP := Lib.hid (fun lim => pdq_any A n cap lim fv w h (fun e w' => e = .returned (.tuple #[]) ∧ R e w') (fun _ h => h) (hi.mono fun e w' h => ⟨h.1, h⟩))
 have x1 : IntKind.u64.wrap (n : Int) = n := by simp [IntKind.wrap, IntKind.bits, IntKind.signed]; omega
 clear hi
 go_enter Tryz.func127, Tryz.ntmps127
 go_wp2_with fail
 refine (HB.out _).mono ?_
 rintro e w1 ⟨⟨l, rfl⟩, rfl⟩
 go_wp2_with fail
 refine (HP.out _).mono ?_
 rintro e w1 ⟨rfl, h1⟩
 have H1 := Lib.hid h1
 clear h1
 go_wp2
 go_end0
 exact ⟨rfl, H1.out⟩
end
end
end Go.Proofs.YtbkopnpafmjicaaGreatDoor
