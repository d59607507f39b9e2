import Derived.Test.YtcmknbdeafcknaaGreatDoorBkRec
/-
  What book.Same answers. Nothing that was there is written.
-/
namespace Go.Proofs.YtcmknbdeafcknaaGreatDoor
open Go.RowKit WM
set_option linter.unusedVariables false
set_option maxRecDepth 100000
theorem bsame_drop {xs ys : List RcA} {k : Nat} (h1 : k < xs.length) (h2 : k < ys.length) : bsame ((xs.drop k).map (·.R)) ((ys.drop k).map (·.R)) =
    ((xs.getD k rcA0).R.same (ys.getD k rcA0).R && bsame ((xs.drop (k + 1)).map (·.R)) ((ys.drop (k + 1)).map (·.R))) := by
  rw [List.drop_eq_getElem_cons h1, List.drop_eq_getElem_cons h2, List.map_cons, List.map_cons, bsame]
  simp only [List.getD, List.getElem?_eq_getElem h1, List.getElem?_eq_getElem h2, Option.getD_some]
set_option maxHeartbeats 4000000 in
theorem beqf_any (A1 A2 : Option Addr) (len1 len2 c1 c2 : Nat) (xs ys : List RcA) (w : World) (hl1 : xs.length = len1) (hl2 : ys.length = len2) (h1 : RsAt w A1 c1 xs) (h2 : RsAt w A2 c2 ys) :
    Calls Tryz.prog 48 #[.slice A1 len1 c1, .slice A2 len2 c2, .func (.func 49) #[] #[]] w fun e w' => e = .returned (.bool (bsame (xs.map (·.R)) (ys.map (·.R)))) ∧ Below w.heap.size w w' := by
  have HR1 := Lib.hid (fun i (hi : i < xs.length) => RsAt.rv h1 hi)
  have HR2 := Lib.hid (fun i (hi : i < ys.length) => RsAt.rv h2 hi)
  obtain ⟨hc1, hm1, hn1, hcell1, _⟩ := h1
  obtain ⟨hc2, hm2, hn2, hcell2, _⟩ := h2
  simp only [maxLen] at hm1 hm2
  have HL1 := Lib.hid hl1
  have HC1 := Lib.hid hcell1
  have HL2 := Lib.hid hl2
  have HC2 := Lib.hid hcell2
  have hlen1 : len1 ≤ c1 := by omega
  have hlen2 : len2 ≤ c2 := by omega
  have hz := zeroX
  clear hcell1 hcell2 hc1 hc2 hl1 hl2 hn1 hn2
  by_cases hl : len1 = len2
  · subst hl
    have HV := Lib.hid (show bsame (xs.map (·.R)) (ys.map (·.R)) = bsame ((xs.drop 0).map (·.R)) ((ys.drop 0).map (·.R)) by rw [List.drop_zero, List.drop_zero])
    have HB0 := Lib.hid (Below.refl w.heap.size w)
    generalize bsame (xs.map (·.R)) (ys.map (·.R)) = V at HV ⊢
    go_enter Tryz.func48, Tryz.ntmps48
    go_wp2
    go_loopw [17] (fun i wr => ∃ k : Nat, k ≤ len1 ∧ i = .int .i64 k ∧ Below w.heap.size w wr ∧ V = bsame ((xs.drop k).map (·.R)) ((ys.drop k).map (·.R))) (fun i _ => len1 - (intOf i).toNat)
    case atStart => exact ⟨0, Nat.zero_le _, rfl, HB0.out, HV.out⟩
    case round =>
      obtain ⟨k, hk, rfl, hb, hf⟩ := hrel
      by_cases hlt : k < len1
      · obtain ⟨b1, off1, rfl, hB1, hcc1⟩ := HC1.out (by rw [HL1.out]; omega)
        obtain ⟨b2, off2, rfl, hB2, hcc2⟩ := HC2.out (by rw [HL2.out]; omega)
        have hx := (hcc1 k (by rw [HL1.out]; exact hlt)).same (hb.block b1 hB1)
        have hy := (hcc2 k (by rw [HL2.out]; exact hlt)).same (hb.block b2 hB2)
        have IX1 := ix_rec b1 off1 len1 c1 k hlt k rfl
        have IX2 := ix_rec b2 off2 len1 c2 k hlt k rfl
        have hvx := (HR1.out k (by rw [HL1.out]; exact hlt)).below hb (Nat.le_refl _)
        have hvy := (HR2.out k (by rw [HL2.out]; exact hlt)).below hb (Nat.le_refl _)
        have hdr := bsame_drop (xs := xs) (ys := ys) (k := k) (by rw [HL1.out]; exact hlt) (by rw [HL2.out]; exact hlt)
        have hB2 := Nat.lt_of_lt_of_le hB2 hb.size
        rw [hdr] at hf
        generalize xs.getD k rcA0 = x at *
        generalize ys.getD k rcA0 = y at *
        generalize off1 + k * 19 = o1 at *
        generalize off2 + k * 19 = o2 at *
        have LX := Lib.hid hx.load
        have HY := Lib.hid hy
        have HVX := Lib.hid hvx
        have HVY := Lib.hid hvy
        have ZX := Lib.hid hvx.len
        have ZY := Lib.hid hvy.len
        have HBB := Lib.hid hb
        clear hcc1 hcc2 hx hy hvx hvy hdr hb
        cases hs : x.R.same y.R
        · rw [hs, Bool.false_and] at hf
          have HS := Lib.hid hs
          have HF := Lib.hid hf
          clear hs hf
          go_wp2_with (first | ((with_reducible refine wpList_load_by (o := ⟨some 21, .load 33 (.tmp 20), _, _, _, _⟩) ?e1 33 (.tmp 20) ?e2 ⟨b1, o1, none⟩ ?e3 _ LX.out ?_); (case e1 => rfl); (case e2 => rfl); (case e3 => rfl)) | ((with_reducible refine wpList_store_newx (o := ⟨none, .store 33 (.tmp 8) (.tmp 21), _, _, _, _⟩) (w := wr) ?e1 (.tmp 8) (.tmp 21) ?e2 wr.heap.size ?e0 ?e3 x ?e4 ZX.out ?_); (case e1 => rfl); (case e2 => rfl); (case e0 => rfl); (case e3 => rfl); (case e4 => rfl); intro w2 hb2 hx2 hs2; have X2 := Lib.hid hx2; have HW2 := Lib.hid hb2; have LY := Lib.hid (HY.out.same (hb2.block b2 hB2)).load; clear hx2 hb2 hs2) | ((with_reducible refine wpList_load_by (o := ⟨some 25, .load 33 (.tmp 24), _, _, _, _⟩) ?e1 33 (.tmp 24) ?e2 ⟨b2, o2, none⟩ ?e3 _ LY.out ?_); (case e1 => rfl); (case e2 => rfl); (case e3 => rfl)) | ((with_reducible refine wpList_store_newx (o := ⟨none, .store 33 (.tmp 9) (.tmp 25), _, _, _, _⟩) (w := w2) ?e1 (.tmp 9) (.tmp 25) ?e2 w2.heap.size ?e0 ?e3 y ?e4 ZY.out ?_); (case e1 => rfl); (case e2 => rfl); (case e0 => rfl); (case e3 => rfl); (case e4 => rfl); intro w3 hb3 hy3 hs3; have HB3 := Lib.hid (HW2.out.trans (hb3.mono HW2.out.size)); have L27 := Lib.hid (X2.out.below hb3 X2.out.lt).load; have L28 := Lib.hid hy3.load; have HC := Lib.hid (xsame_any x y w3 (HVX.out.below HB3.out (Nat.le_refl _)) (HVY.out.below HB3.out (Nat.le_refl _))); rw [HS.out] at HC; clear hb3 hy3 hs3) | ((with_reducible refine wpList_load_by (o := ⟨some 27, .load 33 (.tmp 8), _, _, _, _⟩) ?e1 33 (.tmp 8) ?e2 ⟨wr.heap.size, 0, none⟩ ?e3 _ L27.out ?_); (case e1 => rfl); (case e2 => rfl); (case e3 => rfl)) | ((with_reducible refine wpList_load_by (o := ⟨some 28, .load 33 (.tmp 9), _, _, _, _⟩) ?e1 33 (.tmp 9) ?e2 ⟨w2.heap.size, 0, none⟩ ?e3 _ L28.out ?_); (case e1 => rfl); (case e2 => rfl); (case e3 => rfl)))
          refine HC.out.mono ?_
          rintro e w4 ⟨rfl, hb4⟩
          have B4 := Lib.hid (HBB.out.trans ((HB3.out.trans (hb4.mono HB3.out.size)).mono HBB.out.size))
          clear hb4
          go_wp2
          go_ret
          exact ⟨by rw [HF.out]; rfl, B4.out⟩
        · rw [hs, Bool.true_and] at hf
          have HS := Lib.hid hs
          have HF := Lib.hid hf
          clear hs hf
          go_wp2_with (first | ((with_reducible refine wpList_load_by (o := ⟨some 21, .load 33 (.tmp 20), _, _, _, _⟩) ?e1 33 (.tmp 20) ?e2 ⟨b1, o1, none⟩ ?e3 _ LX.out ?_); (case e1 => rfl); (case e2 => rfl); (case e3 => rfl)) | ((with_reducible refine wpList_store_newx (o := ⟨none, .store 33 (.tmp 8) (.tmp 21), _, _, _, _⟩) (w := wr) ?e1 (.tmp 8) (.tmp 21) ?e2 wr.heap.size ?e0 ?e3 x ?e4 ZX.out ?_); (case e1 => rfl); (case e2 => rfl); (case e0 => rfl); (case e3 => rfl); (case e4 => rfl); intro w2 hb2 hx2 hs2; have X2 := Lib.hid hx2; have HW2 := Lib.hid hb2; have LY := Lib.hid (HY.out.same (hb2.block b2 hB2)).load; clear hx2 hb2 hs2) | ((with_reducible refine wpList_load_by (o := ⟨some 25, .load 33 (.tmp 24), _, _, _, _⟩) ?e1 33 (.tmp 24) ?e2 ⟨b2, o2, none⟩ ?e3 _ LY.out ?_); (case e1 => rfl); (case e2 => rfl); (case e3 => rfl)) | ((with_reducible refine wpList_store_newx (o := ⟨none, .store 33 (.tmp 9) (.tmp 25), _, _, _, _⟩) (w := w2) ?e1 (.tmp 9) (.tmp 25) ?e2 w2.heap.size ?e0 ?e3 y ?e4 ZY.out ?_); (case e1 => rfl); (case e2 => rfl); (case e0 => rfl); (case e3 => rfl); (case e4 => rfl); intro w3 hb3 hy3 hs3; have HB3 := Lib.hid (HW2.out.trans (hb3.mono HW2.out.size)); have L27 := Lib.hid (X2.out.below hb3 X2.out.lt).load; have L28 := Lib.hid hy3.load; have HC := Lib.hid (xsame_any x y w3 (HVX.out.below HB3.out (Nat.le_refl _)) (HVY.out.below HB3.out (Nat.le_refl _))); rw [HS.out] at HC; clear hb3 hy3 hs3) | ((with_reducible refine wpList_load_by (o := ⟨some 27, .load 33 (.tmp 8), _, _, _, _⟩) ?e1 33 (.tmp 8) ?e2 ⟨wr.heap.size, 0, none⟩ ?e3 _ L27.out ?_); (case e1 => rfl); (case e2 => rfl); (case e3 => rfl)) | ((with_reducible refine wpList_load_by (o := ⟨some 28, .load 33 (.tmp 9), _, _, _, _⟩) ?e1 33 (.tmp 9) ?e2 ⟨w2.heap.size, 0, none⟩ ?e3 _ L28.out ?_); (case e1 => rfl); (case e2 => rfl); (case e3 => rfl)))
          refine HC.out.mono ?_
          rintro e w4 ⟨rfl, hb4⟩
          have B4 := Lib.hid (HBB.out.trans ((HB3.out.trans (hb4.mono HB3.out.size)).mono HBB.out.size))
          clear hb4
          go_wp2
          go_roundw
          case rel => exact ⟨k + 1, by omega, by go_num, B4.out, HF.out⟩
          case measure => simp [intOf]; omega
      · obtain rfl : k = len1 := by omega
        rw [List.drop_eq_nil_of_le (by rw [HL1.out]; exact Nat.le_refl _), List.drop_eq_nil_of_le (by rw [HL2.out]; exact Nat.le_refl _)] at hf
        have HF := Lib.hid hf
        have HB := Lib.hid hb
        clear hf hb
        go_wp2
        go_ret
        exact ⟨by rw [HF.out]; rfl, HB.out⟩
  · have HF := Lib.hid (show bsame (xs.map (·.R)) (ys.map (·.R)) = false by
      cases h : bsame (xs.map (·.R)) (ys.map (·.R)) with
      | false => rfl
      | true =>
        have h2 := congrArg List.length (bsame_iff.1 h)
        rw [List.length_map, List.length_map, HL1.out, HL2.out] at h2
        exact absurd h2 hl)
    have hne : ¬ (len1 : Int) = (len2 : Int) := by omega
    have HB0 := Lib.hid (Below.refl w.heap.size w)
    go_enter Tryz.func48, Tryz.ntmps48
    go_wp2
    go_ret
    exact ⟨by rw [HF.out]; rfl, HB0.out⟩
set_option maxHeartbeats 1000000 in
theorem bsame_any (a b : Bk) (w : World) (h1 : BkAt w a) (h2 : BkAt w b) :
    Calls Tryz.prog 23 #[.agg #[.slice a.A a.xs.length a.c], .agg #[.slice b.A b.xs.length b.c]] w fun e w' => e = .returned (.bool (bsame a.rs b.rs)) ∧ Below w.heap.size w w' := by
  obtain ⟨xs, A, c⟩ := a
  obtain ⟨ys, B, d⟩ := b
  unfold BkAt at h1 h2
  dsimp only at h1 h2 ⊢
  have S1 := (BoAt.new w (.slice A xs.length c)).old (.cells #[.slice B ys.length d] 24)
  have S2 := BoAt.new (w.alloc (.cells #[.slice A xs.length c] 24)) (.slice B ys.length d)
  rw [World.size_alloc] at S2
  have HB := Lib.hid (((Below.refl w.heap.size w).alloc (Nat.le_refl _) (.cells #[.slice A xs.length c] 24)).alloc (by simp) (.cells #[.slice B ys.length d] 24))
  have s1 := S1.c0
  have s2 := S2.c0
  have HC := Lib.hid (beqf_any A B _ _ c d xs ys _ rfl rfl (h1.below HB.out (Nat.le_refl _)) (h2.below HB.out (Nat.le_refl _)))
  clear S1 S2 h1 h2
  unfold Bk.rs
  dsimp only
  generalize xs.length = l1 at *
  generalize ys.length = l2 at *
  generalize bsame (xs.map (·.R)) (ys.map (·.R)) = V at *
  go_enter Tryz.func23, Tryz.ntmps23
  go_wp2_with fail
  refine HC.out.mono ?_
  rintro e w1 ⟨rfl, hb⟩
  have B1 := Lib.hid (HB.out.trans (hb.mono HB.out.size))
  clear hb
  go_wp2
  go_ret
  exact ⟨rfl, B1.out⟩
end Go.Proofs.YtcmknbdeafcknaaGreatDoor

