import Derived.Test.YtnlhkpmgbpfjmaaGreatDoorQc0
import Derived.Test.YtnlhkpmgbpfjmaaGreatDoorQc14
import Derived.Test.YtnlhkpmgbpfjmaaGreatDoorQc9
import Derived.Test.YtnlhkpmgbpfjmaaGreatDoorQc12
import Derived.Test.YtnlhkpmgbpfjmaaGreatDoorQc7
import Derived.Test.YtnlhkpmgbpfjmaaGreatDoorQc1
import Derived.Test.YtnlhkpmgbpfjmaaGreatDoorQc4
import Derived.Test.YtnlhkpmgbpfjmaaGreatDoorQc5
import Derived.Test.YtnlhkpmgbpfjmaaGreatDoorQc6
import Derived.Test.YtnlhkpmgbpfjmaaGreatDoorQc8
import Derived.Test.YtnlhkpmgbpfjmaaGreatDoorQc13
import Derived.BigQuiet
import Derived.Deep.RegionHeld3
/-
  What the functions that a law of this layer reaches answer, part 15. Nothing that was there is written.
-/
namespace Go.Proofs.YtnlhkpmgbpfjmaaGreatDoor
set_option linter.unusedVariables false
set_option linter.unusedSimpArgs false
section
open Go.RowKit WM
set_option maxRecDepth 100000
theorem bsame_drop {xs ys : List RcA} {k : Nat} (h1 : k < xs.length) (h2 : k < ys.length) : bsame ((xs.drop k).map (·.R)) ((ys.drop k).map (·.R)) =
  ((xs.getD k rcA0).R.same (ys.getD k rcA0).R && bsame ((xs.drop (k + 1)).map (·.R)) ((ys.drop (k + 1)).map (·.R))) := by
 rw [List.drop_eq_getElem_cons h1, List.drop_eq_getElem_cons h2, List.map_cons, List.map_cons, bsame]
 simp only [List.getD, List.getElem?_eq_getElem h1, List.getElem?_eq_getElem h2, Option.getD_some]
set_option maxHeartbeats 4000000 in
theorem beqf_any (A1 A2 : Option Addr) (len1 len2 c1 c2 : Nat) (xs ys : List RcA) (w : World) (hl1 : xs.length = len1) (hl2 : ys.length = len2) (h1 : RsAt w A1 c1 xs) (h2 : RsAt w A2 c2 ys) :
  Calls Tryz.prog 55 #[.slice A1 len1 c1, .slice A2 len2 c2, .func (.func 56) #[] #[]] w fun e w' => e = .returned (.bool (bsame (xs.map (·.R)) (ys.map (·.R)))) ∧ Below w.heap.size w w' := by
 have HR1 := Lib.hid (fun i (hi : i < xs.length) => RsAt.rv h1 hi)
 have HR2 := Lib.hid (fun i (hi : i < ys.length) => RsAt.rv h2 hi)
 obtain ⟨hc1, hm1, hn1, hcell1, _⟩ := h1
 obtain ⟨hc2, hm2, hn2, hcell2, _⟩ := h2
 simp only [maxLen] at hm1 hm2
 have HL1 := Lib.hid hl1
 have HC1 := Lib.hid hcell1
 have HL2 := Lib.hid hl2
 have HC2 := Lib.hid hcell2
 have hlen1 : len1 ≤ c1 := by omega
 have hlen2 : len2 ≤ c2 := by omega
 have hz := zeroX
 clear hcell1 hcell2 hc1 hc2 hl1 hl2 hn1 hn2
 by_cases hl : len1 = len2
 ·subst hl
  have HV := Lib.hid (show bsame (xs.map (·.R)) (ys.map (·.R)) = bsame ((xs.drop 0).map (·.R)) ((ys.drop 0).map (·.R)) by rw [List.drop_zero, List.drop_zero])
  have HB0 := Lib.hid (Below.refl w.heap.size w)
  generalize bsame (xs.map (·.R)) (ys.map (·.R)) = V at HV ⊢
  go_enter Tryz.func55, Tryz.ntmps55
  go_wp2
  go_loopw [17] (fun i wr => ∃ k : Nat, k ≤ len1 ∧ i = .int .i64 k ∧ Below w.heap.size w wr ∧ V = bsame ((xs.drop k).map (·.R)) ((ys.drop k).map (·.R))) (fun i _ => len1 - (intOf i).toNat)
  case atStart => exact ⟨0, Nat.zero_le _, rfl, HB0.out, HV.out⟩
  case round =>
   obtain ⟨k, hk, rfl, hb, hf⟩ := hrel
   by_cases hlt : k < len1
   ·obtain ⟨b1, off1, rfl, hB1, hcc1⟩ := HC1.out (by rw [HL1.out]; omega)
    obtain ⟨b2, off2, rfl, hB2, hcc2⟩ := HC2.out (by rw [HL2.out]; omega)
    have hx := (hcc1 k (by rw [HL1.out]; exact hlt)).same (hb.block b1 hB1)
    have hy := (hcc2 k (by rw [HL2.out]; exact hlt)).same (hb.block b2 hB2)
    have IX1 := ix_rec b1 off1 len1 c1 k hlt k rfl
    have IX2 := ix_rec b2 off2 len1 c2 k hlt k rfl
    have hvx := (HR1.out k (by rw [HL1.out]; exact hlt)).below hb (Nat.le_refl _)
    have hvy := (HR2.out k (by rw [HL2.out]; exact hlt)).below hb (Nat.le_refl _)
    have hdr := bsame_drop (xs := xs) (ys := ys) (k := k) (by rw [HL1.out]; exact hlt) (by rw [HL2.out]; exact hlt)
    have hB2 := Nat.lt_of_lt_of_le hB2 hb.size
    rw [hdr] at hf
    generalize xs.getD k rcA0 = x at *
    generalize ys.getD k rcA0 = y at *
    generalize off1 + k * 19 = o1 at *
    generalize off2 + k * 19 = o2 at *
    have LX := Lib.hid hx.load
    have HY := Lib.hid hy
    have HVX := Lib.hid hvx
    have HVY := Lib.hid hvy
    have ZX := Lib.hid hvx.len
    have ZY := Lib.hid hvy.len
    have HBB := Lib.hid hb
    clear hcc1 hcc2 hx hy hvx hvy hdr hb
    cases hs : x.R.same y.R
    ·rw [hs, Bool.false_and] at hf
     have HS := Lib.hid hs
     have HF := Lib.hid hf
     clear hs hf
     go_wp2_with (first | ((with_reducible refine wpList_load_by (o := ⟨some 21, .load 36 (.tmp 20), _, _, _, _⟩) ?e1 36 (.tmp 20) ?e2 ⟨b1, o1, none⟩ ?e3 _ LX.out ?_); (case e1 => rfl); (case e2 => rfl); (case e3 => rfl)) | ((with_reducible refine wpList_store_newx (o := ⟨none, .store 36 (.tmp 8) (.tmp 21), _, _, _, _⟩) (w := wr) ?e1 (.tmp 8) (.tmp 21) ?e2 wr.heap.size ?e0 ?e3 x ?e4 ZX.out ?_); (case e1 => rfl); (case e2 => rfl); (case e0 => rfl); (case e3 => rfl); (case e4 => rfl); intro w2 hb2 hx2 hs2; have X2 := Lib.hid hx2; have HW2 := Lib.hid hb2; have LY := Lib.hid (HY.out.same (hb2.block b2 hB2)).load; clear hx2 hb2 hs2) | ((with_reducible refine wpList_load_by (o := ⟨some 25, .load 36 (.tmp 24), _, _, _, _⟩) ?e1 36 (.tmp 24) ?e2 ⟨b2, o2, none⟩ ?e3 _ LY.out ?_); (case e1 => rfl); (case e2 => rfl); (case e3 => rfl)) | ((with_reducible refine wpList_store_newx (o := ⟨none, .store 36 (.tmp 9) (.tmp 25), _, _, _, _⟩) (w := w2) ?e1 (.tmp 9) (.tmp 25) ?e2 w2.heap.size ?e0 ?e3 y ?e4 ZY.out ?_); (case e1 => rfl); (case e2 => rfl); (case e0 => rfl); (case e3 => rfl); (case e4 => rfl); intro w3 hb3 hy3 hs3; have HB3 := Lib.hid (HW2.out.trans (hb3.mono HW2.out.size)); have L27 := Lib.hid (X2.out.below hb3 X2.out.lt).load; have L28 := Lib.hid hy3.load; have HC := Lib.hid (xsame_any x y w3 (HVX.out.below HB3.out (Nat.le_refl _)) (HVY.out.below HB3.out (Nat.le_refl _))); rw [HS.out] at HC; clear hb3 hy3 hs3) | ((with_reducible refine wpList_load_by (o := ⟨some 27, .load 36 (.tmp 8), _, _, _, _⟩) ?e1 36 (.tmp 8) ?e2 ⟨wr.heap.size, 0, none⟩ ?e3 _ L27.out ?_); (case e1 => rfl); (case e2 => rfl); (case e3 => rfl)) | ((with_reducible refine wpList_load_by (o := ⟨some 28, .load 36 (.tmp 9), _, _, _, _⟩) ?e1 36 (.tmp 9) ?e2 ⟨w2.heap.size, 0, none⟩ ?e3 _ L28.out ?_); (case e1 => rfl); (case e2 => rfl); (case e3 => rfl)))
     refine HC.out.mono ?_
     rintro e w4 ⟨rfl, hb4⟩
     have B4 := Lib.hid (HBB.out.trans ((HB3.out.trans (hb4.mono HB3.out.size)).mono HBB.out.size))
     clear hb4
     go_wp2
     go_ret
     exact ⟨by rw [HF.out]; rfl, B4.out⟩
    ·rw [hs, Bool.true_and] at hf
     have HS := Lib.hid hs
     have HF := Lib.hid hf
     clear hs hf
     go_wp2_with (first | ((with_reducible refine wpList_load_by (o := ⟨some 21, .load 36 (.tmp 20), _, _, _, _⟩) ?e1 36 (.tmp 20) ?e2 ⟨b1, o1, none⟩ ?e3 _ LX.out ?_); (case e1 => rfl); (case e2 => rfl); (case e3 => rfl)) | ((with_reducible refine wpList_store_newx (o := ⟨none, .store 36 (.tmp 8) (.tmp 21), _, _, _, _⟩) (w := wr) ?e1 (.tmp 8) (.tmp 21) ?e2 wr.heap.size ?e0 ?e3 x ?e4 ZX.out ?_); (case e1 => rfl); (case e2 => rfl); (case e0 => rfl); (case e3 => rfl); (case e4 => rfl); intro w2 hb2 hx2 hs2; have X2 := Lib.hid hx2; have HW2 := Lib.hid hb2; have LY := Lib.hid (HY.out.same (hb2.block b2 hB2)).load; clear hx2 hb2 hs2) | ((with_reducible refine wpList_load_by (o := ⟨some 25, .load 36 (.tmp 24), _, _, _, _⟩) ?e1 36 (.tmp 24) ?e2 ⟨b2, o2, none⟩ ?e3 _ LY.out ?_); (case e1 => rfl); (case e2 => rfl); (case e3 => rfl)) | ((with_reducible refine wpList_store_newx (o := ⟨none, .store 36 (.tmp 9) (.tmp 25), _, _, _, _⟩) (w := w2) ?e1 (.tmp 9) (.tmp 25) ?e2 w2.heap.size ?e0 ?e3 y ?e4 ZY.out ?_); (case e1 => rfl); (case e2 => rfl); (case e0 => rfl); (case e3 => rfl); (case e4 => rfl); intro w3 hb3 hy3 hs3; have HB3 := Lib.hid (HW2.out.trans (hb3.mono HW2.out.size)); have L27 := Lib.hid (X2.out.below hb3 X2.out.lt).load; have L28 := Lib.hid hy3.load; have HC := Lib.hid (xsame_any x y w3 (HVX.out.below HB3.out (Nat.le_refl _)) (HVY.out.below HB3.out (Nat.le_refl _))); rw [HS.out] at HC; clear hb3 hy3 hs3) | ((with_reducible refine wpList_load_by (o := ⟨some 27, .load 36 (.tmp 8), _, _, _, _⟩) ?e1 36 (.tmp 8) ?e2 ⟨wr.heap.size, 0, none⟩ ?e3 _ L27.out ?_); (case e1 => rfl); (case e2 => rfl); (case e3 => rfl)) | ((with_reducible refine wpList_load_by (o := ⟨some 28, .load 36 (.tmp 9), _, _, _, _⟩) ?e1 36 (.tmp 9) ?e2 ⟨w2.heap.size, 0, none⟩ ?e3 _ L28.out ?_); (case e1 => rfl); (case e2 => rfl); (case e3 => rfl)))
     refine HC.out.mono ?_
     rintro e w4 ⟨rfl, hb4⟩
     have B4 := Lib.hid (HBB.out.trans ((HB3.out.trans (hb4.mono HB3.out.size)).mono HBB.out.size))
     clear hb4
     go_wp2
     go_roundw
     case rel => exact ⟨k + 1, by omega, by go_num, B4.out, HF.out⟩
     case measure => simp [intOf]; omega
   ·obtain rfl : k = len1 := by omega
    rw [List.drop_eq_nil_of_le (by rw [HL1.out]; exact Nat.le_refl _), List.drop_eq_nil_of_le (by rw [HL2.out]; exact Nat.le_refl _)] at hf
    have HF := Lib.hid hf
    have HB := Lib.hid hb
    clear hf hb
    go_wp2
    go_ret
    exact ⟨by rw [HF.out]; rfl, HB.out⟩
 ·have HF := Lib.hid (show bsame (xs.map (·.R)) (ys.map (·.R)) = false by
   cases h : bsame (xs.map (·.R)) (ys.map (·.R)) with
   | false => rfl
   | true =>
    have h2 := congrArg List.length (bsame_iff.1 h)
    rw [List.length_map, List.length_map, HL1.out, HL2.out] at h2
    exact absurd h2 hl)
  have hne : ¬ (len1 : Int) = (len2 : Int) := by omega
  have HB0 := Lib.hid (Below.refl w.heap.size w)
  go_enter Tryz.func55, Tryz.ntmps55
  go_wp2
  go_ret
  exact ⟨by rw [HF.out]; rfl, HB0.out⟩
set_option maxHeartbeats 1000000 in
theorem bsame_any (a b : Bk) (w : World) (h1 : BkAt w a) (h2 : BkAt w b) :
  Calls Tryz.prog 24 #[.agg #[.slice a.A a.xs.length a.c], .agg #[.slice b.A b.xs.length b.c]] w fun e w' => e = .returned (.bool (bsame a.rs b.rs)) ∧ Below w.heap.size w w' := by
 obtain ⟨xs, A, c⟩ := a
 obtain ⟨ys, B, d⟩ := b
 unfold BkAt at h1 h2
 dsimp only at h1 h2 ⊢
 have S1 := (BoAt.new w (.slice A xs.length c)).old (.cells #[.slice B ys.length d] 24)
 have S2 := BoAt.new (w.alloc (.cells #[.slice A xs.length c] 24)) (.slice B ys.length d)
 rw [World.size_alloc] at S2
 have HB := Lib.hid (((Below.refl w.heap.size w).alloc (Nat.le_refl _) (.cells #[.slice A xs.length c] 24)).alloc (by simp) (.cells #[.slice B ys.length d] 24))
 have s1 := S1.c0
 have s2 := S2.c0
 have HC := Lib.hid (beqf_any A B _ _ c d xs ys _ rfl rfl (h1.below HB.out (Nat.le_refl _)) (h2.below HB.out (Nat.le_refl _)))
 clear S1 S2 h1 h2
 unfold Bk.rs
 dsimp only
 generalize xs.length = l1 at *
 generalize ys.length = l2 at *
 generalize bsame (xs.map (·.R)) (ys.map (·.R)) = V at *
 go_enter Tryz.func24, Tryz.ntmps24
 go_wp2_with fail
 refine HC.out.mono ?_
 rintro e w1 ⟨rfl, hb⟩
 have B1 := Lib.hid (HB.out.trans (hb.mono HB.out.size))
 clear hb
 go_wp2
 go_ret
 exact ⟨rfl, B1.out⟩
end
section
open Go.RowKit WM
set_option maxRecDepth 100000
def prevA (ls : List LnA) (k : Nat) : Option (List Int) := if k = 0 then none else some (ls.getD (k - 1) lnA0).z
theorem lsOk_step {ls : List LnA} {k : Nat} (hk : k < ls.length) : lsOk (prevA ls k) ((ls.drop k).map (·.x)) = (lnOk (ls.getD k lnA0).x && (riseOk (prevA ls k) (ls.getD k lnA0).z && lsOk (prevA ls (k + 1)) ((ls.drop (k + 1)).map (·.x)))) := by
 rw [List.drop_eq_getElem_cons hk, List.map_cons]
 have h : ls.getD k lnA0 = ls[k] := by rw [List.getD_eq_getElem?_getD, List.getElem?_eq_getElem hk]; rfl
 have h2 : prevA ls (k + 1) = some ls[k].z := by unfold prevA; rw [if_neg (by omega), Nat.add_sub_cancel, h]
 rw [h, h2]
 simp only [lsOk]
 rw [Bool.and_assoc]
 rfl
def lastA (es : List EnA) (j : Nat) : Int := if j = 0 then -1 else (es.getD (j - 1) enA0).e.no
theorem esOk_step {n r : Int} {es : List EnA} {j : Nat} (hj : j < es.length) : esOk n r (lastA es j) ((es.drop j).map (·.e)) = (enOk n r (lastA es j) (es.getD j enA0).e && esOk n r (lastA es (j + 1)) ((es.drop (j + 1)).map (·.e))) := by
 rw [List.drop_eq_getElem_cons hj, List.map_cons]
 have h : es.getD j enA0 = es[j] := by rw [List.getD_eq_getElem?_getD, List.getElem?_eq_getElem hj]; rfl
 have h2 : lastA es (j + 1) = es[j].e.no := by unfold lastA; rw [if_neg (by omega), Nat.add_sub_cancel, h]
 rw [h, h2]
 rfl
theorem ln_size {x : LnA} {w : World} (h : x.Ok w) : (Tryz.prog.info? 63).map (·.size) = some (KLn.cs x).toArray.size := by
 rw [List.size_toArray, show (KLn.cs x).length = 19 from LnA.len h]
 obtain ⟨i, hi, _, hs, _⟩ := info_parts infoLn
 rw [hi]
 exact congrArg some hs
theorem ln_ones (x : LnA) : (KLn.cs x).toArray.all (·.oneCell') = true := by
 rw [Array.all_eq_true_iff_forall_mem]
 intro u hu
 exact LnA.one x u (List.mem_toArray.1 hu)
theorem lnA0_size : (KLn.cs lnA0).toArray.size = 19 := by decide
end
section
open Go.RowKit WM
set_option maxRecDepth 100000
def lineA (ls : List LnA) (z : List Int) : Option LnA := ls.find? fun x => decide (x.z = z)
theorem lineA_step {ls : List LnA} {k : Nat} (z : List Int) (hk : k < ls.length) : lineA (ls.drop k) z = if (ls.getD k lnA0).z = z then some (ls.getD k lnA0) else lineA (ls.drop (k + 1)) z := by
 rw [List.drop_eq_getElem_cons hk]
 have h : ls.getD k lnA0 = ls[k] := by rw [List.getD_eq_getElem?_getD, List.getElem?_eq_getElem hk]; rfl
 rw [h]
 unfold lineA
 by_cases hz : ls[k].z = z
 ·rw [if_pos hz, List.find?_cons_of_pos (by simpa using hz)]
 ·rw [if_neg hz, List.find?_cons_of_neg (by simpa using hz)]
theorem lineA_x (ls : List LnA) (z : List Int) : (lineA ls z).map (·.x) = lfind (ls.map (·.x)) z := by
 unfold lineA lfind
 induction ls with
 | nil => rfl
 | cons x ls ih =>
  rw [List.map_cons]
  by_cases hz : x.z = z
  ·rw [List.find?_cons_of_pos (by simpa using hz), List.find?_cons_of_pos (by show decide (x.x.z = z) = true; exact decide_eq_true hz)]; rfl
  ·rw [List.find?_cons_of_neg (by simpa using hz), List.find?_cons_of_neg (by show ¬ decide (x.x.z = z) = true; rw [decide_eq_true_eq]; exact hz)]; exact ih
theorem lineA_ok {w : World} {A : Option Addr} {c : Nat} {ls : List LnA} {z : List Int} (h : KLn.row w A c ls) : (((lineA ls z).getD lnA0).Ok w) := by
 cases hl : lineA ls z with
 | none => exact ⟨rfl, by show AllBytes z16m; unfold AllBytes z16m; decide, by decide, by decide, Kind.row_nil w none 0 (by decide) (fun _ => rfl)⟩
 | some x => exact h.2.2.2.2 x (List.mem_of_find?_eq_some hl)
def LinePost (w : World) (V : Option LnA) (e : Ending) (w' : World) : Prop := e = .returned (.tuple #[KLn.v (V.getD lnA0), .bool V.isSome]) ∧ Below w.heap.size w w'
theorem res_ln2 {fn : Func} {p q : Tmp} (h : fn.results = #[.cell p 63, .tmp q]) {tmps : Array Value} {w : World} {g : Nat} {x : LnA} (hp : tmps.getD p undef = .pointer (some ⟨g, 0, none⟩)) (hs : KLn.blk 63 w g x) (hx : x.Ok w) :
  (results fn tmps).run Tryz.prog w = .ok (.tuple #[KLn.v x, tmps.getD q undef]) w := by
 have hp' : tmps[p]?.getD undef = .pointer (some ⟨g, 0, none⟩) := by simpa using hp
 have hl := load_ln (Kind.at_blk hs) hx
 simp [results, h, hp', asAddr, hl]
theorem buildLn0 (w : World) : (Instr.build 63 #[]).run Tryz.prog w = .ok (.agg (KLn.cs lnA0).toArray) w := run_build w _ _ _ (by kernel_rfl)
theorem lnA0_ok (w : World) : lnA0.Ok w := ⟨rfl, by show AllBytes z16m; unfold AllBytes z16m; decide, by decide, by decide, Kind.row_nil w none 0 (by decide) (fun _ => rfl)⟩
structure LineS (w : World) (m : MnA) (z : List Int) (X : World) : Prop where
 a : MnAt X w.heap.size m
 b : KId.blk 31 X (w.heap.size + 1) z
 c : KLn.blk 63 X (w.heap.size + 1 + 1) lnA0
 below : Below w.heap.size w X
theorem LineS.go {w X Y : World} {m : MnA} {z : List Int} (h : LineS w m z X) (hb : Below X.heap.size X Y) : LineS w m z Y :=
 ⟨h.a.below hb h.a.lt, Kind.blk_below h.b hb (Kind.blk_lt h.b), Kind.blk_below h.c hb (Kind.blk_lt h.c), h.below.trans (hb.mono h.below.size)⟩
theorem LineS.new (w : World) (m : MnA) (z : List Int) : LineS w m z (((w.alloc (.cells m.cs.toArray 29)).alloc (.cells (bvals z) 31)).alloc (.cells (KLn.cs lnA0).toArray 63)) := by
 have e1 : (w.alloc (.cells m.cs.toArray 29)).heap.size = w.heap.size + 1 := World.size_alloc _ _
 have e2 : ((w.alloc (.cells m.cs.toArray 29)).alloc (.cells (bvals z) 31)).heap.size = w.heap.size + 1 + 1 := by rw [World.size_alloc, e1]
 refine ⟨?_, ?_, ?_, ?_⟩
 ·exact ((MnAt.new w m).below ((Below.refl _ _).alloc (Nat.le_refl _) _) (MnAt.new w m).lt).below ((Below.refl _ _).alloc (Nat.le_refl _) _) (by rw [e2]; omega)
 ·have h := Kind.blk_new (K := KId) (w.alloc (.cells m.cs.toArray 29)) z 31
  rw [e1] at h
  exact Kind.blk_old h _
 ·have h := Kind.blk_new (K := KLn) ((w.alloc (.cells m.cs.toArray 29)).alloc (.cells (bvals z) 31)) lnA0 63
  rw [e2] at h
  exact h
 ·exact (((Below.refl _ _).alloc (Nat.le_refl _) _).alloc (by rw [e1]; omega) _).alloc (by rw [e2]; omega) _
end
section
open Go.RowKit WM
set_option maxRecDepth 100000
def entA (es : List EnA) (no : Int) : Option EnA := es.find? fun x => decide (x.e.no = no)
theorem entA_step {es : List EnA} {k : Nat} (no : Int) (hk : k < es.length) : entA (es.drop k) no = if (es.getD k enA0).e.no = no then some (es.getD k enA0) else entA (es.drop (k + 1)) no := by
 rw [List.drop_eq_getElem_cons hk]
 have h : es.getD k enA0 = es[k] := by rw [List.getD_eq_getElem?_getD, List.getElem?_eq_getElem hk]; rfl
 rw [h]
 unfold entA
 by_cases hz : es[k].e.no = no
 ·rw [if_pos hz, List.find?_cons_of_pos (by simpa using hz)]
 ·rw [if_neg hz, List.find?_cons_of_neg (by simpa using hz)]
theorem entA_e (es : List EnA) (no : Int) : (entA es no).map (·.e) = efind (es.map (·.e)) no := by
 unfold entA efind
 induction es with
 | nil => rfl
 | cons x es ih =>
  rw [List.map_cons]
  by_cases hz : x.e.no = no
  ·rw [List.find?_cons_of_pos (by simpa using hz), List.find?_cons_of_pos (by simpa using hz)]; rfl
  ·rw [List.find?_cons_of_neg (by simpa using hz), List.find?_cons_of_neg (by simpa using hz)]; exact ih
def findA (ls : List LnA) (z : List Int) (no : Int) : Option EnA := entA ((lineA ls z).getD lnA0).es no
theorem findA_e (m : MnA) (z : List Int) (no : Int) : (findA m.ls z no).map (·.e) = mfind m.m z no := by
 unfold findA mfind
 rw [entA_e, show m.m.ls = m.ls.map (·.x) from rfl, ← lineA_x]
 cases lineA m.ls z with
 | none => rfl
 | some x => rfl
theorem enA0_ok (w : World) : enA0.Ok w := ⟨by decide, by decide, by decide, by decide, rfl, by show AllBytes z32m; unfold AllBytes z32m; decide, Kind.row_nil w none 0 (by decide) (fun _ => rfl)⟩
theorem MnA.one (x : MnA) (u : Value) (hu : u ∈ x.cs) : u.oneCell' = true := by
 unfold MnA.cs at hu
 rcases List.mem_append.1 hu with h | h
 ·exact byte_ones _ _ h
 ·rw [List.mem_singleton] at h
  rw [h]
  rfl
def KMn : Kind MnA := { n := 33, pos := by decide, cs := MnA.cs, d := mnA0, ok := fun w x => x.Ok w, len := fun h => MnA.len h, one := MnA.one, below := fun h hb => MnA.below h hb }
theorem load_mn {w : World} {b : Nat} {m : MnA} (h : MnAt w b m) (hx : m.Ok w) : (loadVar 29 ⟨b, 0, none⟩).run Tryz.prog w = .ok m.v w :=
 Kind.at_load (K := KMn) (Kind.at_blk (K := KMn) (t := 29) h) (MnA.len hx) Tryz.underlying29 rfl (by obtain ⟨i, hi, _, hs, _⟩ := info_parts infoMn; rw [hi]; exact congrArg some hs)
theorem en_size {x : EnA} {w : World} (h : x.Ok w) : (Tryz.prog.info? 68).map (·.size) = some (KEn.cs x).toArray.size := by
 rw [List.size_toArray, show (KEn.cs x).length = 37 from EnA.len h]
 obtain ⟨i, hi, _, hs, _⟩ := info_parts infoEn
 rw [hi]
 exact congrArg some hs
theorem en_ones (x : EnA) : (KEn.cs x).toArray.all (·.oneCell') = true := by
 rw [Array.all_eq_true_iff_forall_mem]
 intro u hu
 exact EnA.one x u (List.mem_toArray.1 hu)
theorem enA0_size : (KEn.cs enA0).toArray.size = 37 := by decide
theorem res_en2 {fn : Func} {p q : Tmp} (h : fn.results = #[.cell p 68, .tmp q]) {tmps : Array Value} {w : World} {g : Nat} {x : EnA} (hp : tmps.getD p undef = .pointer (some ⟨g, 0, none⟩)) (hs : KEn.blk 68 w g x) (hx : x.Ok w) :
  (results fn tmps).run Tryz.prog w = .ok (.tuple #[KEn.v x, tmps.getD q undef]) w := by
 have hp' : tmps[p]?.getD undef = .pointer (some ⟨g, 0, none⟩) := by simpa using hp
 have hl := load_en (Kind.at_blk hs) hx
 simp [results, h, hp', asAddr, hl]
theorem buildEn0 (w : World) : (Instr.build 68 #[]).run Tryz.prog w = .ok (.agg (KEn.cs enA0).toArray) w := run_build w _ _ _ (by kernel_rfl)
structure FindS (w : World) (m : MnA) (z : List Int) (X : World) : Prop where
 a : MnAt X w.heap.size m
 b : KId.blk 31 X (w.heap.size + 1) z
 c : KEn.blk 68 X (w.heap.size + 1 + 1) enA0
 below : Below w.heap.size w X
theorem FindS.go {w X Y : World} {m : MnA} {z : List Int} (h : FindS w m z X) (hb : Below X.heap.size X Y) : FindS w m z Y :=
 ⟨h.a.below hb h.a.lt, Kind.blk_below h.b hb (Kind.blk_lt h.b), Kind.blk_below h.c hb (Kind.blk_lt h.c), h.below.trans (hb.mono h.below.size)⟩
theorem FindS.new (w : World) (m : MnA) (z : List Int) : FindS w m z (((w.alloc (.cells m.cs.toArray 29)).alloc (.cells (bvals z) 31)).alloc (.cells (KEn.cs enA0).toArray 68)) := by
 have e1 : (w.alloc (.cells m.cs.toArray 29)).heap.size = w.heap.size + 1 := World.size_alloc _ _
 have e2 : ((w.alloc (.cells m.cs.toArray 29)).alloc (.cells (bvals z) 31)).heap.size = w.heap.size + 1 + 1 := by rw [World.size_alloc, e1]
 refine ⟨?_, ?_, ?_, ?_⟩
 ·exact ((MnAt.new w m).below ((Below.refl _ _).alloc (Nat.le_refl _) _) (MnAt.new w m).lt).below ((Below.refl _ _).alloc (Nat.le_refl _) _) (by rw [e2]; omega)
 ·have h := Kind.blk_new (K := KId) (w.alloc (.cells m.cs.toArray 29)) z 31
  rw [e1] at h
  exact Kind.blk_old h _
 ·have h := Kind.blk_new (K := KEn) ((w.alloc (.cells m.cs.toArray 29)).alloc (.cells (bvals z) 31)) enA0 68
  rw [e2] at h
  exact h
 ·exact (((Below.refl _ _).alloc (Nat.le_refl _) _).alloc (by rw [e1]; omega) _).alloc (by rw [e2]; omega) _
end
section
open Go.RowKit WM
set_option maxRecDepth 20000
def FTag (w : World) (A : Option Addr) : Prop := ∀ p, A = some p → ∃ cur, w.heap[p.block]? = some (.cells cur 59)
theorem FTag.own {w : World} {base n c size : Nat} {A : Option Addr} {xs : List Value} (h : w.ownsRow base 59 size (.slice A n c) n xs) : FTag w A := by
 intro p e
 rcases h.2 with ⟨h1, _⟩ | ⟨g, cap, cur, h1, _, hg, _⟩
 ·simp only [Value.slice.injEq] at h1
  rw [h1.1] at e; cases e
 ·simp only [Value.slice.injEq] at h1
  rw [h1.1] at e
  cases e
  exact ⟨cur, hg⟩
theorem tag_ne {w : World} {g : Nat} {cur : Array Value} {t : TypeId} (h : w.heap[g]? = some (.cells cur t)) (ht : t ≠ 59) : ∀ c, w.heap[g]? ≠ some (.cells c 59) := by
 intro c e
 rw [h] at e
 simp only [Option.some.injEq, Obj.cells.injEq] at e
 exact ht e.2.1
theorem FTag.kept {w w' : World} {A : Option Addr} {row : Option Nat} (h : FTag w A) (hg : w.grownBy w' row) (hr : ∀ g, row = some g → ∀ c, w.heap[g]? ≠ some (.cells c 59)) : FTag w' A := fun p e => by
 obtain ⟨cur, hc⟩ := h p e
 refine ⟨cur, (hg.block _ (Array.getElem?_eq_some_iff.1 hc).1 (fun e2 => hr _ e2.symm cur hc)).trans hc⟩
theorem FsAt.kept_tag {w w' : World} {A : Option Addr} {c : Nat} {fs : List Fld} {row : Option Nat} (h : FsAt w A c fs) (t : FTag w A) (hg : w.grownBy w' row) (hr : ∀ g, row = some g → ∀ c, w.heap[g]? ≠ some (.cells c 59)) : FsAt w' A c fs := by
 cases row with
 | none => exact h.below (B := w.heap.size) ⟨hg.os, hg.tape, hg.output, hg.size, fun k hk => hg.block k hk (fun e => by cases e)⟩ (Nat.le_refl _)
 | some b =>
  refine h.kept' hg fun off h0 e => ?_
  obtain ⟨cur, hc⟩ := t _ e
  exact hr b rfl cur hc
theorem RvAt.kept_tag {w w' : World} {x : RcA} {row : Option Nat} (h : RvAt w x) (t : FTag w x.A) (hg : w.grownBy w' row) (hr : ∀ g, row = some g → ∀ c, w.heap[g]? ≠ some (.cells c 59)) : RvAt w' x := ⟨h.1, h.2.kept_tag t hg hr⟩
end
section
open Go.RowKit WM
set_option maxRecDepth 100000
def Tag (t : TypeId) (w : World) (A : Option Addr) : Prop := ∀ p, A = some p → ∃ cur, w.heap[p.block]? = some (.cells cur t)
def NoT (ts : List TypeId) (w : World) (row : Option Nat) : Prop := ∀ g, row = some g → ∀ t ∈ ts, ∀ c, w.heap[g]? ≠ some (.cells c t)
theorem NoT.of {ts : List TypeId} {w : World} {g : Nat} {cur : Array Value} {t : TypeId} (h : w.heap[g]? = some (.cells cur t)) (ht : t ∉ ts) : NoT ts w (some g) := fun g' e t' ht' c hc => by
 obtain rfl := Option.some.inj e
 rw [h] at hc
 simp only [Option.some.injEq, Obj.cells.injEq] at hc
 exact ht (hc.2.1 ▸ ht')
theorem NoT.own {ts : List TypeId} {w : World} {base size n : Nat} {t : TypeId} {v : Value} {xs : List Value} (h : w.ownsRow base t size v n xs) (ht : t ∉ ts) : NoT ts w v.ownBlock := by
 rcases h.2 with ⟨rfl, _⟩ | ⟨g, cap, cur, rfl, _, hg, _⟩
 ·exact fun g e => by simp [Value.ownBlock] at e
 ·exact NoT.of hg ht
theorem NoT.sub {ts us : List TypeId} {w : World} {row : Option Nat} (h : NoT ts w row) (hu : ∀ t ∈ us, t ∈ ts) : NoT us w row := fun g e t ht => h g e t (hu t ht)
theorem Tag.below {t : TypeId} {w w' : World} {A : Option Addr} (h : Tag t w A) (hb : Below w.heap.size w w') : Tag t w' A := fun p e => by
 obtain ⟨cur, hc⟩ := h p e
 exact ⟨cur, (hb.block _ (Array.getElem?_eq_some_iff.1 hc).1).trans hc⟩
theorem Tag.kept {t : TypeId} {w w' : World} {A : Option Addr} {row : Option Nat} (h : Tag t w A) (hg : w.grownBy w' row) (hr : NoT [t] w row) : Tag t w' A := fun p e => by
 obtain ⟨cur, hc⟩ := h p e
 exact ⟨cur, (hg.block _ (Array.getElem?_eq_some_iff.1 hc).1 (fun e2 => hr _ e2.symm t (List.mem_singleton.2 rfl) cur hc)).trans hc⟩
theorem Tag.own {w : World} {base n c size : Nat} {t : TypeId} {A : Option Addr} {xs : List Value} (h : w.ownsRow base t size (.slice A n c) n xs) : Tag t w A := by
 intro p e
 rcases h.2 with ⟨h1, _⟩ | ⟨g, cap, cur, h1, _, hg, _⟩
 ·simp only [Value.slice.injEq] at h1
  rw [h1.1] at e; cases e
 ·simp only [Value.slice.injEq] at h1
  rw [h1.1] at e
  cases e
  exact ⟨cur, hg⟩
theorem Kind.row_kept {α : Type} {K : Kind α} {t : TypeId} {w w' : World} {A : Option Addr} {c : Nat} {xs : List α} {row : Option Nat} (h : K.row w A c xs) (ht : Tag t w A) (hg : w.grownBy w' row) (hr : NoT [t] w row) (hk : ∀ x ∈ xs, K.ok w' x) : K.row w' A c xs := by
 obtain ⟨h1, h2, h3, h4, h5⟩ := h
 refine ⟨h1, h2, h3, fun h0 => ?_, hk⟩
 obtain ⟨b, off, hA, hb, hc⟩ := h4 h0
 obtain ⟨cur, hcur⟩ := ht _ hA
 have hs := hg.block b hb (fun e2 => hr _ e2.symm t (List.mem_singleton.2 rfl) cur hcur)
 exact ⟨b, off, hA, Nat.lt_of_lt_of_le hb hg.size, fun i hi => Kind.at_same (hc i hi) hs⟩
structure TKind (α : Type) where
 K : Kind α
 tag : World → α → Prop
 ts : List TypeId
 below : ∀ {w w' : World} {x : α}, tag w x → Below w.heap.size w w' → tag w' x
 kept : ∀ {w w' : World} {x : α} {row : Option Nat}, K.ok w x → tag w x → w.grownBy w' row → NoT ts w row → K.ok w' x ∧ tag w' x
theorem KSig_kept {w w' : World} {A : Option Addr} {c : Nat} {xs : List Sg} {row : Option Nat} (h : KSig.row w A c xs) (ht : Tag 122 w A) (hg : w.grownBy w' row) (hr : NoT [122] w row) : KSig.row w' A c xs := Kind.row_kept h ht hg hr h.2.2.2.2
theorem EnA.kept {w w' : World} {x : EnA} {row : Option Nat} (h : x.Ok w) (ht : Tag 122 w x.A) (hg : w.grownBy w' row) (hr : NoT [122] w row) : x.Ok w' ∧ Tag 122 w' x.A :=
 ⟨⟨h.1, h.2.1, h.2.2.1, h.2.2.2.1, h.2.2.2.2.1, h.2.2.2.2.2.1, KSig_kept h.2.2.2.2.2.2 ht hg hr⟩, ht.kept hg hr⟩
def TEn : TKind EnA := { K := KEn, tag := fun w x => Tag 122 w x.A, ts := [122], below := fun h hb => Tag.below h hb, kept := fun h ht hg hr => EnA.kept h ht hg hr }
def LnA.T (w : World) (x : LnA) : Prop := Tag 68 w x.A ∧ ∀ e ∈ x.es, Tag 122 w e.A
theorem LnA.kept {w w' : World} {x : LnA} {row : Option Nat} (h : x.Ok w) (ht : x.T w) (hg : w.grownBy w' row) (hr : NoT [122, 68] w row) : x.Ok w' ∧ x.T w' := by
 have h1 : NoT [122] w row := hr.sub fun t ht => by rw [List.mem_singleton.1 ht]; exact List.mem_cons_self
 have h2 : NoT [68] w row := hr.sub fun t ht => by rw [List.mem_singleton.1 ht]; exact List.mem_cons_of_mem _ List.mem_cons_self
 have key : ∀ e ∈ x.es, e.Ok w' ∧ Tag 122 w' e.A := fun e he => EnA.kept (h.2.2.2.2.2.2.2.2 e he) (ht.2 e he) hg h1
 exact ⟨⟨h.1, h.2.1, h.2.2.1, h.2.2.2.1, Kind.row_kept h.2.2.2.2 ht.1 hg h2 fun e he => (key e he).1⟩, ht.1.kept hg h2, fun e he => (key e he).2⟩
theorem LnA.T_below {w w' : World} {x : LnA} (h : x.T w) (hb : Below w.heap.size w w') : x.T w' := ⟨h.1.below hb, fun e he => (h.2 e he).below hb⟩
def TLn : TKind LnA := { K := KLn, tag := fun w x => x.T w, ts := [122, 68], below := fun h hb => LnA.T_below h hb, kept := fun h ht hg hr => LnA.kept h ht hg hr }
structure RJ {α : Type} (T : TKind α) (te tc : TypeId) (bl base : Nat) (pre : List Value) (v : Value) (xs : List α) (W : World) : Prop where
 blk : W.heap[bl]? = some (.cells (pre ++ [v]).toArray tc)
 own : W.ownsRow base te T.K.n v xs.length (xs.flatMap T.K.cs)
 ok : ∀ x ∈ xs, T.K.ok W x ∧ T.tag W x
 lt : bl < base
 le : base ≤ W.heap.size
section
variable {α : Type} {T : TKind α} {te tc : TypeId} {bl base : Nat} {pre : List Value} {v v' : Value} {xs : List α} {y : α} {W W' : World}
theorem RJ.below (h : RJ T te tc bl base pre v xs W) (hb : Below W.heap.size W W') : RJ T te tc bl base pre v xs W' :=
 ⟨(hb.block _ (Array.getElem?_eq_some_iff.1 h.blk).1).trans h.blk, own_below h.own hb, fun x hx => ⟨T.K.below (h.ok x hx).1 hb, T.below (h.ok x hx).2 hb⟩, h.lt, Nat.le_trans h.le hb.size⟩
theorem RJ.alloc (h : RJ T te tc bl base pre v xs W) (o : Obj) : RJ T te tc bl base pre v xs (W.alloc o) := h.below ((Below.refl _ _).alloc (Nat.le_refl _) o)
theorem RJ.drew (h : RJ T te tc bl base pre v xs W) : RJ T te tc bl base pre v xs W.drew := h.below ((Below.refl _ _).drew)
theorem RJ.cell (h : RJ T te tc bl base pre v xs W) {p : Nat} (hp : p = pre.length) : W.cell? ⟨bl, p, none⟩ = some v := by
 subst hp
 rw [cell_of_row _ _ _ _ _ _ h.blk, List.getElem?_toArray, List.getElem?_append_right (Nat.le_refl _), Nat.sub_self]
 rfl
structure RM {α : Type} (T : TKind α) (te tc : TypeId) (bl base : Nat) (pre : List Value) (v v' : Value) (xs : List α) (W : World) : Prop where
 blk : W.heap[bl]? = some (.cells (pre ++ [v]).toArray tc)
 own : W.ownsRow base te T.K.n v' xs.length (xs.flatMap T.K.cs)
 ok : ∀ x ∈ xs, T.K.ok W x ∧ T.tag W x
 lt : bl < base
 le : base ≤ W.heap.size
theorem RJ.grown (h : RJ T te tc bl base pre v xs W) (hy : T.K.ok W y ∧ T.tag W y) (hO : W'.ownsRow base te T.K.n v' (xs.length + 1) ((xs ++ [y]).flatMap T.K.cs)) (hG : W.grownBy W' v.ownBlock) (he : te ∉ T.ts) : RM T te tc bl base pre v v' (xs ++ [y]) W' := by
 refine ⟨(hG.block _ (Array.getElem?_eq_some_iff.1 h.blk).1 (fun e => ?_)).trans h.blk, by rw [List.length_append]; exact hO, fun x hx => ?_, h.lt, Nat.le_trans h.le hG.size⟩
 ·have := own_base h.own e.symm
  have := h.lt
  omega
 ·rcases List.mem_append.1 hx with hx | hx
  ·exact T.kept (h.ok x hx).1 (h.ok x hx).2 hG (NoT.own h.own he)
  ·rw [List.mem_singleton.1 hx]
   exact T.kept hy.1 hy.2 hG (NoT.own h.own he)
theorem RM.cell (h : RM T te tc bl base pre v v' xs W) {p : Nat} (hp : p = pre.length) : W.cell? ⟨bl, p, none⟩ = some v := by
 subst hp
 rw [cell_of_row _ _ _ _ _ _ h.blk, List.getElem?_toArray, List.getElem?_append_right (Nat.le_refl _), Nat.sub_self]
 rfl
theorem RM.fz (h : RM T te tc bl base pre v v' xs W) (j : Nat) : W.frozen? ⟨bl, j, none⟩ = false := frozen_of_row _ _ _ _ _ h.blk
theorem grownBy_setCell9 (W : World) (b j : Nat) (u : Value) : W.grownBy (W.setCell ⟨b, j, none⟩ u) (some b) :=
 ⟨by simp [World.setCell], by simp [World.setCell], by simp [World.setCell], by simp, fun k _ hk => Below.heap_setCell _ _ _ _ (fun e => hk (by rw [e]))⟩
theorem RM.store (h : RM T te tc bl base pre v v' xs W) (hc : tc ∉ T.ts) {p : Nat} (hp : p = pre.length) : RJ T te tc bl base pre v' xs (W.setCell ⟨bl, p, none⟩ v') := by
 subst hp
 have hg := grownBy_setCell9 W bl pre.length v'
 refine ⟨?_, h.own.kept hg ?_, fun x hx => T.kept (h.ok x hx).1 (h.ok x hx).2 hg (NoT.of h.blk hc), h.lt, Nat.le_trans h.le hg.size⟩
 ·rw [heap_setCell_same _ _ _ _ _ _ h.blk]
  congr 2
  simp
 ·cases ho : v'.ownBlock with
  | none => exact .inl rfl
  | some g =>
   refine .inr fun e => ?_
   have := own_base h.own ho
   have := h.lt
   have := Option.some.inj e
   omega
theorem RJ.other {q : Nat} {c : Array Value} {t : TypeId} (h : RJ T te tc bl base pre v xs W) (hq : W.heap[q]? = some (.cells c t)) (ht : t ≠ te) (hG : W.grownBy W' v.ownBlock) : W'.heap[q]? = some (.cells c t) := by
 refine (hG.block _ (Array.getElem?_eq_some_iff.1 hq).1 (fun e => ?_)).trans hq
 rcases h.own.2 with ⟨rfl, _⟩ | ⟨g, cap, cur, rfl, _, hg, _⟩
 ·simp [Value.ownBlock] at e
 ·obtain rfl : q = g := by simpa [Value.ownBlock] using e
  rw [hq] at hg
  simp only [Option.some.injEq, Obj.cells.injEq] at hg
  exact ht hg.2.1
theorem RM.other {q : Nat} {c : Array Value} {t : TypeId} (h : RM T te tc bl base pre v v' xs W) {p : Nat} (hq : W.heap[q]? = some (.cells c t)) (hne : q ≠ bl) : (W.setCell ⟨bl, p, none⟩ v').heap[q]? = some (.cells c t) := (Below.heap_setCell _ _ _ _ hne).trans hq
end
def enC (no n r len : Int) (ds : List Int) (A : Option Addr) (m c : Nat) : List Value := .int .i64 no :: .int .i64 n :: .int .i64 r :: .int .i64 len :: (ds.map (Value.int .u8) ++ [.slice A m c])
def lnP (z : List Int) (n r : Int) : List Value := z.map (Value.int .u8) ++ [.int .i64 n, .int .i64 r]
def mnP (z : List Int) : List Value := z.map (Value.int .u8)
theorem lnP_len {z : List Int} (h : z.length = 16) (n r : Int) : 18 = (lnP z n r).length := by simp [lnP, h]
theorem mnP_len {z : List Int} (h : z.length = 32) : 32 = (mnP z).length := by simp [mnP, h]
theorem ln_cs (x : LnA) : KLn.cs x = lnP x.z x.n x.r ++ [.slice x.A x.es.length x.c] := by
 show x.z.map (Value.int .u8) ++ [.int .i64 x.n, .int .i64 x.r, .slice x.A x.es.length x.c] = _
 unfold lnP
 rw [List.append_assoc]
 rfl
theorem built_en {ds : List Int} (h : ds.length = 32) (no n r len : Int) (A : Option Addr) (m c : Nat) : Tryz.prog.built 68 [(0, .int .i64 no), (1, .agg #[.int .i64 n, .int .i64 r]), (2, .int .i64 len), (3, .agg (bvals ds)), (4, .slice A m c)] = some (enC no n r len ds A m c).toArray := by
 obtain ⟨a0, a1, a2, a3, a4, a5, a6, a7, a8, a9, a10, a11, a12, a13, a14, a15, a16, a17, a18, a19, a20, a21, a22, a23, a24, a25, a26, a27, a28, a29, a30, a31, rfl⟩ := list32 h
 kernel_rfl
theorem build_en {x : EnA} (h : x.e.ds.length = 32) (w : World) : (Instr.build 68 #[(0, .int .i64 x.e.no), (1, .agg #[.int .i64 x.e.n, .int .i64 x.e.r]), (2, .int .i64 x.e.len), (3, .agg (bvals x.e.ds)), (4, .slice x.A x.e.bs.length x.c)]).run Tryz.prog w = .ok (.agg (KEn.cs x).toArray) w := run_build w _ _ _ (built_en h _ _ _ _ _ _ _)
theorem built_ln {z : List Int} (h : z.length = 16) (n r : Int) : Tryz.prog.built 63 [(0, .agg (bvals z)), (1, .agg #[.int .i64 n, .int .i64 r])] = some (lnP z n r ++ [Value.slice none 0 0]).toArray := by
 obtain ⟨a, b, c, d, e, f, g, i, j, k, l, m, n', o, p, q, rfl⟩ := list16 h
 kernel_rfl
theorem build_ln {z : List Int} (h : z.length = 16) (n r : Int) (w : World) : (Instr.build 63 #[(0, .agg (bvals z)), (1, .agg #[.int .i64 n, .int .i64 r])]).run Tryz.prog w = .ok (.agg (lnP z n r ++ [Value.slice none 0 0]).toArray) w := run_build w _ _ _ (built_ln h n r)
theorem built_mn {z : List Int} (h : z.length = 32) : Tryz.prog.built 29 [(0, .agg (bvals z))] = some (mnP z ++ [Value.slice none 0 0]).toArray := by
 obtain ⟨a0, a1, a2, a3, a4, a5, a6, a7, a8, a9, a10, a11, a12, a13, a14, a15, a16, a17, a18, a19, a20, a21, a22, a23, a24, a25, a26, a27, a28, a29, a30, a31, rfl⟩ := list32 h
 kernel_rfl
theorem build_mn {z : List Int} (h : z.length = 32) (w : World) : (Instr.build 29 #[(0, .agg (bvals z))]).run Tryz.prog w = .ok (.agg (mnP z ++ [Value.slice none 0 0]).toArray) w := run_build w _ _ _ (built_mn h)
theorem size_pre {t : TypeId} {pre : List Value} {n : Nat} {v : Value} (h : (Tryz.prog.info? t).map (·.size) = some (n + 1)) (hp : n = pre.length) : (Tryz.prog.info? t).map (·.size) = some (pre ++ [v]).toArray.size := by
 rw [h, List.size_toArray, List.length_append, hp]
 rfl
theorem lnP_one (z : List Int) (n r : Int) {v : Value} (hv : v.oneCell' = true) : (lnP z n r ++ [v]).toArray.all (·.oneCell') = true := by
 rw [Array.all_eq_true_iff_forall_mem]
 intro u hu
 simp only [lnP, List.mem_toArray, List.mem_append, List.mem_cons, List.not_mem_nil, or_false] at hu
 rcases hu with (hu | rfl | rfl) | rfl
 ·exact byte_ones _ u hu
 ·rfl
 ·rfl
 ·exact hv
theorem mnP_one (z : List Int) {v : Value} (hv : v.oneCell' = true) : (mnP z ++ [v]).toArray.all (·.oneCell') = true := by
 rw [Array.all_eq_true_iff_forall_mem]
 intro u hu
 simp only [mnP, List.mem_toArray, List.mem_append, List.mem_cons, List.not_mem_nil, or_false] at hu
 rcases hu with hu | rfl
 ·exact byte_ones _ u hu
 ·exact hv
structure Fr (bl : Nat) (W0 : World) (bf : Nat) (C : Array Value) (t : TypeId) (X : World) : Prop where
 b : Below bl W0 X
 o : X.heap[bf]? = some (.cells C t)
theorem Fr.below {bl bf : Nat} {W0 X Y : World} {C : Array Value} {t : TypeId} (h : Fr bl W0 bf C t X) (hbl : bl ≤ W0.heap.size) (hb : Below X.heap.size X Y) : Fr bl W0 bf C t Y :=
 ⟨h.b.trans (hb.mono (Nat.le_trans hbl h.b.size)), (hb.block _ (Array.getElem?_eq_some_iff.1 h.o).1).trans h.o⟩
section
variable {α : Type} {T : TKind α} {te tc t : TypeId} {bl base bf p : Nat} {pre : List Value} {v v' : Value} {xs : List α} {W0 X Y : World} {C : Array Value}
theorem RJ.fr (J : RJ T te tc bl base pre v xs X) (h : Fr bl W0 bf C t X) (ht : t ≠ te) (hG : X.grownBy Y v.ownBlock) : Fr bl W0 bf C t Y :=
 ⟨h.b.grown hG (Nat.le_of_lt (Nat.lt_of_lt_of_le J.lt J.le)) (fun g hg => by have := own_base J.own hg; have := J.lt; omega), J.other h.o ht hG⟩
theorem RM.fr (M : RM T te tc bl base pre v v' xs X) (h : Fr bl W0 bf C t X) (hne : bf ≠ bl) : Fr bl W0 bf C t (X.setCell ⟨bl, p, none⟩ v') := ⟨h.b.setCell (Nat.le_refl _) _, M.other h.o hne⟩
end
end
end Go.Proofs.YtnlhkpmgbpfjmaaGreatDoor
