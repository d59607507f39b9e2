import Derived.Test.YtnlhkpmgbpfjmaaGreatDoorQb0
import Derived.Test.YtnlhkpmgbpfjmaaGreatDoorQb35
import Derived.Test.YtnlhkpmgbpfjmaaGreatDoorQb36
import Derived.Test.YtnlhkpmgbpfjmaaGreatDoorQb33
import Derived.Test.YtnlhkpmgbpfjmaaGreatDoorQb34
import Derived.Test.YtnlhkpmgbpfjmaaGreatDoorQb20
/-
  What the functions that a law of this layer reaches answer, part 37. Nothing that was there is written.
-/
namespace Go.Proofs.YtnlhkpmgbpfjmaaGreatDoor
set_option linter.unusedVariables false
set_option linter.unusedSimpArgs false
section
open Go.RowKit Go.Shelf WM
set_option maxRecDepth 100000
theorem adds_err (Y : List Rc) (P : Rc) : addE Y P = (1, []) ∨ addE Y P = (4, []) ∨ (addE Y P).1 = 0 := by
 have hb : ∀ a b : List Rc, (bjE a b).1 = 0 ∨ (bjE a b).1 = 1 ∨ (bjE a b).1 = 4 := fun a b => by
  unfold bjE
  split
  ·split
   ·exact .inr (.inr rfl)
   ·exact .inl rfl
  ·exact .inr (.inl rfl)
 unfold addE
 split
 ·split
  ·rename_i h; exact .inr (.inr h)
  ·rename_i h
   have hx : (addY (addX Y P) P).1 = 0 ∨ (addY (addX Y P) P).1 = 1 ∨ (addY (addX Y P) P).1 = 4 := by
    unfold addY
    split
    ·exact hb _ _
    ·unfold addX
     split
     ·exact .inl rfl
     ·exact hb _ _
   rcases hx with e | e | e
   ·exact absurd e h
   ·exact .inl (by rw [e])
   ·exact .inr (.inl (by rw [e]))
 ·exact .inl rfl
theorem leq_has {R : Rc} {C : List Rc} (h : bleq [R] C = true) : ∃ x, bat C R.z = some x := by
 obtain ⟨h1, h2, h3⟩ := bleq_iff.1 h
 obtain ⟨_, m1, r1⟩ := bmay_iff.1 h1
 obtain ⟨_, m2, r2⟩ := bmay_iff.1 h2
 obtain ⟨x, hx, _⟩ := join_eats h1 h2 (by rw [bjoin_comm m2 m1 r2 r1]; exact h3) R List.mem_cons_self
 exact ⟨x, hx⟩
theorem adds_has {Y : List Rc} {P : Rc} (h : (addE Y P).1 = 0) : ∃ x, bat (addE Y P).2 P.z = some x := by
 obtain ⟨⟨_, _, h3, _⟩, _, _, c3, c4⟩ := addE_ok h
 by_cases hn : P.n = 0 ∧ P.r = 0
 ·exact leq_has (R := aliv P) (c4 fun hf => h3 ⟨hn.1, hn.2, hf⟩)
 ·exact leq_has (R := adead P) (c3 hn)
theorem bput_lenA : ∀ (bs : List Rc) (r : Rc), (bput bs r).length ≤ bs.length + 1
 | [], r => Nat.le_refl _
 | x :: xs, r => by
  have := bput_lenA xs r
  rw [bput]
  split
  ·simp
  ·split <;> simp <;> omega
theorem adds_len {Y : List Rc} {P : Rc} (h : (addE Y P).1 = 0) : (addE Y P).2.length ≤ Y.length + 1 := by
 have ok := (addE_ok h).1
 unfold addE at h ⊢
 rw [if_pos ok] at h ⊢
 split at h
 ·rename_i h0
  rw [if_pos h0]
  have hx : (addX Y P).1 = 0 := by
   unfold addY at h0
   split at h0
   ·rename_i hh; exact hh.1
   ·exact h0
  obtain ⟨x1, _, _⟩ := addX_ok ok hx
  obtain ⟨hY, hmay, hnz, hal⟩ := ok
  have hz : (addX Y P).2 = Y ∨ ((addX Y P).2 = bput Y (adead P)) := by
   unfold addX at hx ⊢
   split
   ·exact .inl rfl
   ·rename_i e
    rw [if_neg e] at hx
    obtain ⟨_, _, _, he⟩ := bjE_ok hx
    rw [he, bjoin_one _ (bmay_iff.1 hY).2.2]
    exact .inr rfl
  unfold addY at h0 ⊢
  split
  ·rename_i hh
   rw [if_pos hh] at h0
   obtain ⟨_, _, _, he⟩ := bjE_ok h0
   rw [he, bjoin_one _ (bmay_iff.1 x1).2.2]
   rcases hz with e | e
   ·rw [e]; exact bput_lenA _ _
   ·have hb : ∃ x, bat (bput Y (adead P)) (aliv P).z = some x := by
     rw [bat_bput _ _ (bmay_iff.1 hY).2.2]
     exact ⟨_, if_pos rfl⟩
    obtain ⟨x, hb⟩ := hb
    rw [e] at x1 ⊢
    rw [bput_lenF (bmay_iff.1 x1).2.2 hb]
    exact bput_lenA _ _
  ·rcases hz with e | e
   ·rw [e]; omega
   ·rw [e]; exact bput_lenA _ _
 ·rename_i h0
  exact absurd h h0
theorem len_rsA {l : Bk} {V : List Rc} (h : l.rs = V) : l.xs.length = V.length := by rw [← h]; unfold Bk.rs; rw [List.length_map]
theorem may_fsA {d : Bk} {X : List Rc} (h : d.rs = X) (hm : bmay X = true) : ∀ x ∈ d.xs, x.R.fs.length ≤ 1000 := by
 subst h
 intro x hx
 have := rmay_len ((bmay_iff.1 hm).2.1 x.R (List.mem_map_of_mem hx))
 omega
set_option maxHeartbeats 16000000 in
theorem aba_few1 (b : Bk) (x : RcA) (w : World) (hlaid : Laid w) (wb : BkAt w b) (wx : RvAt w x) (p : fewB b.rs = false) (r : Bool) (q : fewR x.R.fs = r) : Calls Tryz.prog 6 #[.agg #[.slice b.A b.xs.length b.c], .agg x.cells] w fun e w' => e = .returned (.bool true) ∧ Below w.heap.size w w' := by
 have HLA := Lib.hid (fun (X : World) (hX : Below w.heap.size w X) => hlaid.below hX (Nat.le_refl _))
 have Fb := Lib.hid wb
 have hzm := zeroMn
 rw [show mnA0.v = .agg mnA0.cs.toArray from rfl] at hzm
 have hzne : ¬ mnA0.cs.toArray = #[] := by decide
 have ZX := Lib.hid wx.1.1
 have HX := Lib.hid wx.1
 have Fx := Lib.hid wx
 have hzx := zeroX
 have PB := Lib.hid p
 have PR := Lib.hid q
 clear hlaid wb wx p q
 have B1 := Lib.hid (Below.refl w.heap.size w)
 have T2n := BoAt.new w (.slice b.A b.xs.length b.c)
 have T2 := Lib.hid T2n
 clear T2n
 have B3 := Lib.hid (B1.out.alloc B1.out.size (.cells #[(.slice b.A b.xs.length b.c)] 24))
 have T4 := Lib.hid (T2.out.old (.cells x.cells 36))
 have T5n := XAt.new (x := x) (w.alloc (.cells #[(.slice b.A b.xs.length b.c)] 24)) ZX.out
 simp only [World.size_alloc] at T5n
 have T5 := Lib.hid T5n
 clear T5n
 have B6 := Lib.hid (B3.out.alloc B3.out.size (.cells x.cells 36))
 have F7 := Lib.hid (Fb.out.below B6.out (Nat.le_refl _))
 have F8 := Lib.hid (Fx.out.below B6.out (Nat.le_refl _))
 go_enter Tryz.func6, Tryz.ntmps6
 have C9 := Lib.hid (abAwake ((w.alloc (.cells #[(.slice b.A b.xs.length b.c)] 24)).alloc (.cells x.cells 36)) (HLA.out _ B6.out))
 go_wp2_with fail
 refine C9.out.mono ?_
 rintro e w10 ⟨rfl, hb11⟩
 have T12 := Lib.hid (T4.out.below hb11 T4.out.lt)
 have T13 := Lib.hid (T5.out.below hb11 T5.out.lt)
 have F14 := Lib.hid (F7.out.below hb11 (Nat.le_refl _))
 have F15 := Lib.hid (F8.out.below hb11 (Nat.le_refl _))
 have B16 := Lib.hid (B6.out.trans (hb11.mono B6.out.size))
 clear hb11
 have M17 := Lib.hid (T12.out.load)
 have C18 := Lib.hid (fewB_any b w10 F14.out)
 rw [PB.out] at C18
 go_wp2_with (first | ((with_reducible refine wpList_load_by (o := ⟨some 15, .load 24 (.tmp 2), _, _, _, _⟩) ?e1 24 (.tmp 2) ?e2 ⟨w.heap.size, 0, none⟩ ?e3 _ M17.out ?_); (case e1 => rfl); (case e2 => rfl); (case e3 => rfl)))
 refine C18.out.mono ?_
 rintro e w19 ⟨rfl, hb20⟩
 have T21 := Lib.hid (T12.out.below hb20 T12.out.lt)
 have T22 := Lib.hid (T13.out.below hb20 T13.out.lt)
 have F23 := Lib.hid (F14.out.below hb20 (Nat.le_refl _))
 have F24 := Lib.hid (F15.out.below hb20 (Nat.le_refl _))
 have B25 := Lib.hid (B16.out.trans (hb20.mono B16.out.size))
 clear hb20
 have M26 := Lib.hid (T22.out.load)
 have C27 := Lib.hid (xfew_any x w19 F24.out)
 rw [PR.out] at C27
 go_wp2_with (first | ((with_reducible refine wpList_load_by (o := ⟨some 17, .load 36 (.tmp 3), _, _, _, _⟩) ?e1 36 (.tmp 3) ?e2 ⟨(w.heap.size + 1), 0, none⟩ ?e3 _ M26.out ?_); (case e1 => rfl); (case e2 => rfl); (case e3 => rfl)))
 refine C27.out.mono ?_
 rintro e w28 ⟨rfl, hb29⟩
 have T30 := Lib.hid (T21.out.below hb29 T21.out.lt)
 have T31 := Lib.hid (T22.out.below hb29 T22.out.lt)
 have F32 := Lib.hid (F23.out.below hb29 (Nat.le_refl _))
 have F33 := Lib.hid (F24.out.below hb29 (Nat.le_refl _))
 have B34 := Lib.hid (B25.out.trans (hb29.mono B25.out.size))
 clear hb29
 have M38 := Lib.hid (T30.out.load)
 have M39 := Lib.hid (T31.out.load)
 have C40 := Lib.hid (padd14_any b x w28 (HLA.out _ B34.out) F32.out F33.out)
 unfold BJoinPost at C40
 go_wp2_with (first | ((with_reducible refine wpList_load_by (o := ⟨some 20, .load 24 (.tmp 2), _, _, _, _⟩) ?e1 24 (.tmp 2) ?e2 ⟨w.heap.size, 0, none⟩ ?e3 _ M38.out ?_); (case e1 => rfl); (case e2 => rfl); (case e3 => rfl)) | ((with_reducible refine wpList_load_by (o := ⟨some 21, .load 36 (.tmp 3), _, _, _, _⟩) ?e1 36 (.tmp 3) ?e2 ⟨(w.heap.size + 1), 0, none⟩ ?e3 _ M39.out ?_); (case e1 => rfl); (case e2 => rfl); (case e3 => rfl)))
 refine C40.out.mono ?_
 rintro e w41 ⟨d35, rfl, hd36, hk37, hb42⟩
 have T43 := Lib.hid (T30.out.below hb42 T30.out.lt)
 have T44 := Lib.hid (T31.out.below hb42 T31.out.lt)
 have F45 := Lib.hid (F32.out.below hb42 (Nat.le_refl _))
 have F46 := Lib.hid (F33.out.below hb42 (Nat.le_refl _))
 have B47 := Lib.hid (B34.out.trans (hb42.mono B34.out.size))
 clear hb42
 have E48 := Lib.hid (hd36)
 have F49 := Lib.hid (hk37)
 clear hd36 hk37
 have hb50 := (Below.refl w41.heap.size w41).alloc (Nat.le_refl _) (.cells #[(.slice d35.A d35.xs.length d35.c)] 24)
 have T51 := Lib.hid (BoAt.new w41 (.slice d35.A d35.xs.length d35.c))
 have T52 := Lib.hid (T43.out.below hb50 T43.out.lt)
 have T53 := Lib.hid (T44.out.below hb50 T44.out.lt)
 have F54 := Lib.hid (F45.out.below hb50 (Nat.le_refl _))
 have F55 := Lib.hid (F46.out.below hb50 (Nat.le_refl _))
 have F56 := Lib.hid (F49.out.below hb50 (Nat.le_refl _))
 have B57 := Lib.hid (B47.out.trans (hb50.mono B47.out.size))
 clear hb50
 go_wp2
 go_ret
 exact ⟨rfl, B57.out⟩
set_option maxHeartbeats 16000000 in
theorem aba_few2 (b : Bk) (x : RcA) (w : World) (hlaid : Laid w) (wb : BkAt w b) (wx : RvAt w x) (p : fewB b.rs = true) (q : fewR x.R.fs = false) : Calls Tryz.prog 6 #[.agg #[.slice b.A b.xs.length b.c], .agg x.cells] w fun e w' => e = .returned (.bool true) ∧ Below w.heap.size w w' := by
 have HLA := Lib.hid (fun (X : World) (hX : Below w.heap.size w X) => hlaid.below hX (Nat.le_refl _))
 have Fb := Lib.hid wb
 have hzm := zeroMn
 rw [show mnA0.v = .agg mnA0.cs.toArray from rfl] at hzm
 have hzne : ¬ mnA0.cs.toArray = #[] := by decide
 have ZX := Lib.hid wx.1.1
 have HX := Lib.hid wx.1
 have Fx := Lib.hid wx
 have hzx := zeroX
 have PB := Lib.hid p
 have PR := Lib.hid q
 clear hlaid wb wx p q
 have B1 := Lib.hid (Below.refl w.heap.size w)
 have T2n := BoAt.new w (.slice b.A b.xs.length b.c)
 have T2 := Lib.hid T2n
 clear T2n
 have B3 := Lib.hid (B1.out.alloc B1.out.size (.cells #[(.slice b.A b.xs.length b.c)] 24))
 have T4 := Lib.hid (T2.out.old (.cells x.cells 36))
 have T5n := XAt.new (x := x) (w.alloc (.cells #[(.slice b.A b.xs.length b.c)] 24)) ZX.out
 simp only [World.size_alloc] at T5n
 have T5 := Lib.hid T5n
 clear T5n
 have B6 := Lib.hid (B3.out.alloc B3.out.size (.cells x.cells 36))
 have F7 := Lib.hid (Fb.out.below B6.out (Nat.le_refl _))
 have F8 := Lib.hid (Fx.out.below B6.out (Nat.le_refl _))
 go_enter Tryz.func6, Tryz.ntmps6
 have C9 := Lib.hid (abAwake ((w.alloc (.cells #[(.slice b.A b.xs.length b.c)] 24)).alloc (.cells x.cells 36)) (HLA.out _ B6.out))
 go_wp2_with fail
 refine C9.out.mono ?_
 rintro e w10 ⟨rfl, hb11⟩
 have T12 := Lib.hid (T4.out.below hb11 T4.out.lt)
 have T13 := Lib.hid (T5.out.below hb11 T5.out.lt)
 have F14 := Lib.hid (F7.out.below hb11 (Nat.le_refl _))
 have F15 := Lib.hid (F8.out.below hb11 (Nat.le_refl _))
 have B16 := Lib.hid (B6.out.trans (hb11.mono B6.out.size))
 clear hb11
 have M17 := Lib.hid (T12.out.load)
 have C18 := Lib.hid (fewB_any b w10 F14.out)
 rw [PB.out] at C18
 go_wp2_with (first | ((with_reducible refine wpList_load_by (o := ⟨some 15, .load 24 (.tmp 2), _, _, _, _⟩) ?e1 24 (.tmp 2) ?e2 ⟨w.heap.size, 0, none⟩ ?e3 _ M17.out ?_); (case e1 => rfl); (case e2 => rfl); (case e3 => rfl)))
 refine C18.out.mono ?_
 rintro e w19 ⟨rfl, hb20⟩
 have T21 := Lib.hid (T12.out.below hb20 T12.out.lt)
 have T22 := Lib.hid (T13.out.below hb20 T13.out.lt)
 have F23 := Lib.hid (F14.out.below hb20 (Nat.le_refl _))
 have F24 := Lib.hid (F15.out.below hb20 (Nat.le_refl _))
 have B25 := Lib.hid (B16.out.trans (hb20.mono B16.out.size))
 clear hb20
 have M26 := Lib.hid (T22.out.load)
 have C27 := Lib.hid (xfew_any x w19 F24.out)
 rw [PR.out] at C27
 go_wp2_with (first | ((with_reducible refine wpList_load_by (o := ⟨some 17, .load 36 (.tmp 3), _, _, _, _⟩) ?e1 36 (.tmp 3) ?e2 ⟨(w.heap.size + 1), 0, none⟩ ?e3 _ M26.out ?_); (case e1 => rfl); (case e2 => rfl); (case e3 => rfl)))
 refine C27.out.mono ?_
 rintro e w28 ⟨rfl, hb29⟩
 have T30 := Lib.hid (T21.out.below hb29 T21.out.lt)
 have T31 := Lib.hid (T22.out.below hb29 T22.out.lt)
 have F32 := Lib.hid (F23.out.below hb29 (Nat.le_refl _))
 have F33 := Lib.hid (F24.out.below hb29 (Nat.le_refl _))
 have B34 := Lib.hid (B25.out.trans (hb29.mono B25.out.size))
 clear hb29
 have M38 := Lib.hid (T30.out.load)
 have M39 := Lib.hid (T31.out.load)
 have C40 := Lib.hid (padd14_any b x w28 (HLA.out _ B34.out) F32.out F33.out)
 unfold BJoinPost at C40
 go_wp2_with (first | ((with_reducible refine wpList_load_by (o := ⟨some 20, .load 24 (.tmp 2), _, _, _, _⟩) ?e1 24 (.tmp 2) ?e2 ⟨w.heap.size, 0, none⟩ ?e3 _ M38.out ?_); (case e1 => rfl); (case e2 => rfl); (case e3 => rfl)) | ((with_reducible refine wpList_load_by (o := ⟨some 21, .load 36 (.tmp 3), _, _, _, _⟩) ?e1 36 (.tmp 3) ?e2 ⟨(w.heap.size + 1), 0, none⟩ ?e3 _ M39.out ?_); (case e1 => rfl); (case e2 => rfl); (case e3 => rfl)))
 refine C40.out.mono ?_
 rintro e w41 ⟨d35, rfl, hd36, hk37, hb42⟩
 have T43 := Lib.hid (T30.out.below hb42 T30.out.lt)
 have T44 := Lib.hid (T31.out.below hb42 T31.out.lt)
 have F45 := Lib.hid (F32.out.below hb42 (Nat.le_refl _))
 have F46 := Lib.hid (F33.out.below hb42 (Nat.le_refl _))
 have B47 := Lib.hid (B34.out.trans (hb42.mono B34.out.size))
 clear hb42
 have E48 := Lib.hid (hd36)
 have F49 := Lib.hid (hk37)
 clear hd36 hk37
 have hb50 := (Below.refl w41.heap.size w41).alloc (Nat.le_refl _) (.cells #[(.slice d35.A d35.xs.length d35.c)] 24)
 have T51 := Lib.hid (BoAt.new w41 (.slice d35.A d35.xs.length d35.c))
 have T52 := Lib.hid (T43.out.below hb50 T43.out.lt)
 have T53 := Lib.hid (T44.out.below hb50 T44.out.lt)
 have F54 := Lib.hid (F45.out.below hb50 (Nat.le_refl _))
 have F55 := Lib.hid (F46.out.below hb50 (Nat.le_refl _))
 have F56 := Lib.hid (F49.out.below hb50 (Nat.le_refl _))
 have B57 := Lib.hid (B47.out.trans (hb50.mono B47.out.size))
 clear hb50
 go_wp2
 go_ret
 exact ⟨rfl, B57.out⟩
set_option maxHeartbeats 16000000 in
theorem aba_e1 (b : Bk) (x : RcA) (w : World) (hlaid : Laid w) (wb : BkAt w b) (wx : RvAt w x) (p : fewB b.rs = true) (q : fewR x.R.fs = true) (ja : addE b.rs x.R = (1, [])) : Calls Tryz.prog 6 #[.agg #[.slice b.A b.xs.length b.c], .agg x.cells] w fun e w' => e = .returned (.bool true) ∧ Below w.heap.size w w' := by
 have HLA := Lib.hid (fun (X : World) (hX : Below w.heap.size w X) => hlaid.below hX (Nat.le_refl _))
 have Fb := Lib.hid wb
 have hzm := zeroMn
 rw [show mnA0.v = .agg mnA0.cs.toArray from rfl] at hzm
 have hzne : ¬ mnA0.cs.toArray = #[] := by decide
 have ZX := Lib.hid wx.1.1
 have HX := Lib.hid wx.1
 have Fx := Lib.hid wx
 have hzx := zeroX
 have PB := Lib.hid p
 have PR := Lib.hid q
 have JA := Lib.hid ja
 clear hlaid wb wx p q ja
 have B1 := Lib.hid (Below.refl w.heap.size w)
 have T2n := BoAt.new w (.slice b.A b.xs.length b.c)
 have T2 := Lib.hid T2n
 clear T2n
 have B3 := Lib.hid (B1.out.alloc B1.out.size (.cells #[(.slice b.A b.xs.length b.c)] 24))
 have T4 := Lib.hid (T2.out.old (.cells x.cells 36))
 have T5n := XAt.new (x := x) (w.alloc (.cells #[(.slice b.A b.xs.length b.c)] 24)) ZX.out
 simp only [World.size_alloc] at T5n
 have T5 := Lib.hid T5n
 clear T5n
 have B6 := Lib.hid (B3.out.alloc B3.out.size (.cells x.cells 36))
 have F7 := Lib.hid (Fb.out.below B6.out (Nat.le_refl _))
 have F8 := Lib.hid (Fx.out.below B6.out (Nat.le_refl _))
 go_enter Tryz.func6, Tryz.ntmps6
 have C9 := Lib.hid (abAwake ((w.alloc (.cells #[(.slice b.A b.xs.length b.c)] 24)).alloc (.cells x.cells 36)) (HLA.out _ B6.out))
 go_wp2_with fail
 refine C9.out.mono ?_
 rintro e w10 ⟨rfl, hb11⟩
 have T12 := Lib.hid (T4.out.below hb11 T4.out.lt)
 have T13 := Lib.hid (T5.out.below hb11 T5.out.lt)
 have F14 := Lib.hid (F7.out.below hb11 (Nat.le_refl _))
 have F15 := Lib.hid (F8.out.below hb11 (Nat.le_refl _))
 have B16 := Lib.hid (B6.out.trans (hb11.mono B6.out.size))
 clear hb11
 have M17 := Lib.hid (T12.out.load)
 have C18 := Lib.hid (fewB_any b w10 F14.out)
 rw [PB.out] at C18
 go_wp2_with (first | ((with_reducible refine wpList_load_by (o := ⟨some 15, .load 24 (.tmp 2), _, _, _, _⟩) ?e1 24 (.tmp 2) ?e2 ⟨w.heap.size, 0, none⟩ ?e3 _ M17.out ?_); (case e1 => rfl); (case e2 => rfl); (case e3 => rfl)))
 refine C18.out.mono ?_
 rintro e w19 ⟨rfl, hb20⟩
 have T21 := Lib.hid (T12.out.below hb20 T12.out.lt)
 have T22 := Lib.hid (T13.out.below hb20 T13.out.lt)
 have F23 := Lib.hid (F14.out.below hb20 (Nat.le_refl _))
 have F24 := Lib.hid (F15.out.below hb20 (Nat.le_refl _))
 have B25 := Lib.hid (B16.out.trans (hb20.mono B16.out.size))
 clear hb20
 have M26 := Lib.hid (T22.out.load)
 have C27 := Lib.hid (xfew_any x w19 F24.out)
 rw [PR.out] at C27
 go_wp2_with (first | ((with_reducible refine wpList_load_by (o := ⟨some 17, .load 36 (.tmp 3), _, _, _, _⟩) ?e1 36 (.tmp 3) ?e2 ⟨(w.heap.size + 1), 0, none⟩ ?e3 _ M26.out ?_); (case e1 => rfl); (case e2 => rfl); (case e3 => rfl)))
 refine C27.out.mono ?_
 rintro e w28 ⟨rfl, hb29⟩
 have T30 := Lib.hid (T21.out.below hb29 T21.out.lt)
 have T31 := Lib.hid (T22.out.below hb29 T22.out.lt)
 have F32 := Lib.hid (F23.out.below hb29 (Nat.le_refl _))
 have F33 := Lib.hid (F24.out.below hb29 (Nat.le_refl _))
 have B34 := Lib.hid (B25.out.trans (hb29.mono B25.out.size))
 clear hb29
 have M40 := Lib.hid (T30.out.load)
 have M41 := Lib.hid (T31.out.load)
 have C42 := Lib.hid (padd14_any b x w28 (HLA.out _ B34.out) F32.out F33.out)
 unfold BJoinPost at C42
 rw [JA.out] at C42
 dsimp only at C42
 go_wp2_with (first | ((with_reducible refine wpList_load_by (o := ⟨some 20, .load 24 (.tmp 2), _, _, _, _⟩) ?e1 24 (.tmp 2) ?e2 ⟨w.heap.size, 0, none⟩ ?e3 _ M40.out ?_); (case e1 => rfl); (case e2 => rfl); (case e3 => rfl)) | ((with_reducible refine wpList_load_by (o := ⟨some 21, .load 36 (.tmp 3), _, _, _, _⟩) ?e1 36 (.tmp 3) ?e2 ⟨(w.heap.size + 1), 0, none⟩ ?e3 _ M41.out ?_); (case e1 => rfl); (case e2 => rfl); (case e3 => rfl)))
 refine C42.out.mono ?_
 rintro e w43 ⟨d35, he36, hd37, hk38, hb44⟩
 have hl39 : d35.xs.length = 0 := len_rsA hd37
 rw [hl39] at he36
 subst he36
 have T45 := Lib.hid (T30.out.below hb44 T30.out.lt)
 have T46 := Lib.hid (T31.out.below hb44 T31.out.lt)
 have F47 := Lib.hid (F32.out.below hb44 (Nat.le_refl _))
 have F48 := Lib.hid (F33.out.below hb44 (Nat.le_refl _))
 have B49 := Lib.hid (B34.out.trans (hb44.mono B34.out.size))
 clear hb44
 have E50 := Lib.hid (hd37)
 have L51 := Lib.hid (hl39)
 have F52 := Lib.hid (hk38)
 clear hd37 hk38 hl39
 have hb53 := (Below.refl w43.heap.size w43).alloc (Nat.le_refl _) (.cells #[(.slice d35.A 0 d35.c)] 24)
 have T54 := Lib.hid (BoAt.new w43 (.slice d35.A 0 d35.c))
 have T55 := Lib.hid (T45.out.below hb53 T45.out.lt)
 have T56 := Lib.hid (T46.out.below hb53 T46.out.lt)
 have F57 := Lib.hid (F47.out.below hb53 (Nat.le_refl _))
 have F58 := Lib.hid (F48.out.below hb53 (Nat.le_refl _))
 have F59 := Lib.hid (F52.out.below hb53 (Nat.le_refl _))
 have B60 := Lib.hid (B49.out.trans (hb53.mono B49.out.size))
 clear hb53
 have c0 := T54.out.c0
 go_wp2
 go_ret
 exact ⟨rfl, B60.out⟩
set_option maxHeartbeats 16000000 in
theorem aba_e4 (b : Bk) (x : RcA) (w : World) (hlaid : Laid w) (wb : BkAt w b) (wx : RvAt w x) (p : fewB b.rs = true) (q : fewR x.R.fs = true) (ja : addE b.rs x.R = (4, [])) : Calls Tryz.prog 6 #[.agg #[.slice b.A b.xs.length b.c], .agg x.cells] w fun e w' => e = .returned (.bool true) ∧ Below w.heap.size w w' := by
 have HLA := Lib.hid (fun (X : World) (hX : Below w.heap.size w X) => hlaid.below hX (Nat.le_refl _))
 have Fb := Lib.hid wb
 have hzm := zeroMn
 rw [show mnA0.v = .agg mnA0.cs.toArray from rfl] at hzm
 have hzne : ¬ mnA0.cs.toArray = #[] := by decide
 have ZX := Lib.hid wx.1.1
 have HX := Lib.hid wx.1
 have Fx := Lib.hid wx
 have hzx := zeroX
 have PB := Lib.hid p
 have PR := Lib.hid q
 have JA := Lib.hid ja
 clear hlaid wb wx p q ja
 have B1 := Lib.hid (Below.refl w.heap.size w)
 have T2n := BoAt.new w (.slice b.A b.xs.length b.c)
 have T2 := Lib.hid T2n
 clear T2n
 have B3 := Lib.hid (B1.out.alloc B1.out.size (.cells #[(.slice b.A b.xs.length b.c)] 24))
 have T4 := Lib.hid (T2.out.old (.cells x.cells 36))
 have T5n := XAt.new (x := x) (w.alloc (.cells #[(.slice b.A b.xs.length b.c)] 24)) ZX.out
 simp only [World.size_alloc] at T5n
 have T5 := Lib.hid T5n
 clear T5n
 have B6 := Lib.hid (B3.out.alloc B3.out.size (.cells x.cells 36))
 have F7 := Lib.hid (Fb.out.below B6.out (Nat.le_refl _))
 have F8 := Lib.hid (Fx.out.below B6.out (Nat.le_refl _))
 go_enter Tryz.func6, Tryz.ntmps6
 have C9 := Lib.hid (abAwake ((w.alloc (.cells #[(.slice b.A b.xs.length b.c)] 24)).alloc (.cells x.cells 36)) (HLA.out _ B6.out))
 go_wp2_with fail
 refine C9.out.mono ?_
 rintro e w10 ⟨rfl, hb11⟩
 have T12 := Lib.hid (T4.out.below hb11 T4.out.lt)
 have T13 := Lib.hid (T5.out.below hb11 T5.out.lt)
 have F14 := Lib.hid (F7.out.below hb11 (Nat.le_refl _))
 have F15 := Lib.hid (F8.out.below hb11 (Nat.le_refl _))
 have B16 := Lib.hid (B6.out.trans (hb11.mono B6.out.size))
 clear hb11
 have M17 := Lib.hid (T12.out.load)
 have C18 := Lib.hid (fewB_any b w10 F14.out)
 rw [PB.out] at C18
 go_wp2_with (first | ((with_reducible refine wpList_load_by (o := ⟨some 15, .load 24 (.tmp 2), _, _, _, _⟩) ?e1 24 (.tmp 2) ?e2 ⟨w.heap.size, 0, none⟩ ?e3 _ M17.out ?_); (case e1 => rfl); (case e2 => rfl); (case e3 => rfl)))
 refine C18.out.mono ?_
 rintro e w19 ⟨rfl, hb20⟩
 have T21 := Lib.hid (T12.out.below hb20 T12.out.lt)
 have T22 := Lib.hid (T13.out.below hb20 T13.out.lt)
 have F23 := Lib.hid (F14.out.below hb20 (Nat.le_refl _))
 have F24 := Lib.hid (F15.out.below hb20 (Nat.le_refl _))
 have B25 := Lib.hid (B16.out.trans (hb20.mono B16.out.size))
 clear hb20
 have M26 := Lib.hid (T22.out.load)
 have C27 := Lib.hid (xfew_any x w19 F24.out)
 rw [PR.out] at C27
 go_wp2_with (first | ((with_reducible refine wpList_load_by (o := ⟨some 17, .load 36 (.tmp 3), _, _, _, _⟩) ?e1 36 (.tmp 3) ?e2 ⟨(w.heap.size + 1), 0, none⟩ ?e3 _ M26.out ?_); (case e1 => rfl); (case e2 => rfl); (case e3 => rfl)))
 refine C27.out.mono ?_
 rintro e w28 ⟨rfl, hb29⟩
 have T30 := Lib.hid (T21.out.below hb29 T21.out.lt)
 have T31 := Lib.hid (T22.out.below hb29 T22.out.lt)
 have F32 := Lib.hid (F23.out.below hb29 (Nat.le_refl _))
 have F33 := Lib.hid (F24.out.below hb29 (Nat.le_refl _))
 have B34 := Lib.hid (B25.out.trans (hb29.mono B25.out.size))
 clear hb29
 have M40 := Lib.hid (T30.out.load)
 have M41 := Lib.hid (T31.out.load)
 have C42 := Lib.hid (padd14_any b x w28 (HLA.out _ B34.out) F32.out F33.out)
 unfold BJoinPost at C42
 rw [JA.out] at C42
 dsimp only at C42
 go_wp2_with (first | ((with_reducible refine wpList_load_by (o := ⟨some 20, .load 24 (.tmp 2), _, _, _, _⟩) ?e1 24 (.tmp 2) ?e2 ⟨w.heap.size, 0, none⟩ ?e3 _ M40.out ?_); (case e1 => rfl); (case e2 => rfl); (case e3 => rfl)) | ((with_reducible refine wpList_load_by (o := ⟨some 21, .load 36 (.tmp 3), _, _, _, _⟩) ?e1 36 (.tmp 3) ?e2 ⟨(w.heap.size + 1), 0, none⟩ ?e3 _ M41.out ?_); (case e1 => rfl); (case e2 => rfl); (case e3 => rfl)))
 refine C42.out.mono ?_
 rintro e w43 ⟨d35, he36, hd37, hk38, hb44⟩
 have hl39 : d35.xs.length = 0 := len_rsA hd37
 rw [hl39] at he36
 subst he36
 have T45 := Lib.hid (T30.out.below hb44 T30.out.lt)
 have T46 := Lib.hid (T31.out.below hb44 T31.out.lt)
 have F47 := Lib.hid (F32.out.below hb44 (Nat.le_refl _))
 have F48 := Lib.hid (F33.out.below hb44 (Nat.le_refl _))
 have B49 := Lib.hid (B34.out.trans (hb44.mono B34.out.size))
 clear hb44
 have E50 := Lib.hid (hd37)
 have L51 := Lib.hid (hl39)
 have F52 := Lib.hid (hk38)
 clear hd37 hk38 hl39
 have hb53 := (Below.refl w43.heap.size w43).alloc (Nat.le_refl _) (.cells #[(.slice d35.A 0 d35.c)] 24)
 have T54 := Lib.hid (BoAt.new w43 (.slice d35.A 0 d35.c))
 have T55 := Lib.hid (T45.out.below hb53 T45.out.lt)
 have T56 := Lib.hid (T46.out.below hb53 T46.out.lt)
 have F57 := Lib.hid (F47.out.below hb53 (Nat.le_refl _))
 have F58 := Lib.hid (F48.out.below hb53 (Nat.le_refl _))
 have F59 := Lib.hid (F52.out.below hb53 (Nat.le_refl _))
 have B60 := Lib.hid (B49.out.trans (hb53.mono B49.out.size))
 clear hb53
 have c0 := T54.out.c0
 go_wp2
 go_ret
 exact ⟨rfl, B60.out⟩
set_option maxHeartbeats 16000000 in
theorem aba_ok (b : Bk) (x : RcA) (w : World) (hlaid : Laid w) (wb : BkAt w b) (wx : RvAt w x) (p : fewB b.rs = true) (q : fewR x.R.fs = true) (C : List Rc) (n : Nat) (r : Rc) (ja : addE b.rs x.R = (0, C)) (hn : C.length = n) (jb : addE C x.R = (0, C)) (mx : bmay C = true) (lx : bleq b.rs C = true) (ba : bat C x.R.z = some r) (hle : n ≤ b.xs.length + 1) (hbl : b.xs.length ≤ 1000) : Calls Tryz.prog 6 #[.agg #[.slice b.A b.xs.length b.c], .agg x.cells] w fun e w' => e = .returned (.bool true) ∧ Below w.heap.size w w' := by
 have HLA := Lib.hid (fun (X : World) (hX : Below w.heap.size w X) => hlaid.below hX (Nat.le_refl _))
 have Fb := Lib.hid wb
 have hzm := zeroMn
 rw [show mnA0.v = .agg mnA0.cs.toArray from rfl] at hzm
 have hzne : ¬ mnA0.cs.toArray = #[] := by decide
 have ZX := Lib.hid wx.1.1
 have HX := Lib.hid wx.1
 have Fx := Lib.hid wx
 have hzx := zeroX
 have PB := Lib.hid p
 have PR := Lib.hid q
 have JA := Lib.hid ja
 have JB := Lib.hid jb
 have HN := Lib.hid hn
 have MX := Lib.hid mx
 have SX := Lib.hid (bsame_self (a := C))
 have LX := Lib.hid lx
 have BA := Lib.hid ba
 have hq1 : (n : Int) ≤ (b.xs.length : Int) + 1 := by omega
 clear hlaid wb wx p q ja jb hn mx lx ba
 have B1 := Lib.hid (Below.refl w.heap.size w)
 have T2n := BoAt.new w (.slice b.A b.xs.length b.c)
 have T2 := Lib.hid T2n
 clear T2n
 have B3 := Lib.hid (B1.out.alloc B1.out.size (.cells #[(.slice b.A b.xs.length b.c)] 24))
 have T4 := Lib.hid (T2.out.old (.cells x.cells 36))
 have T5n := XAt.new (x := x) (w.alloc (.cells #[(.slice b.A b.xs.length b.c)] 24)) ZX.out
 simp only [World.size_alloc] at T5n
 have T5 := Lib.hid T5n
 clear T5n
 have B6 := Lib.hid (B3.out.alloc B3.out.size (.cells x.cells 36))
 have F7 := Lib.hid (Fb.out.below B6.out (Nat.le_refl _))
 have F8 := Lib.hid (Fx.out.below B6.out (Nat.le_refl _))
 go_enter Tryz.func6, Tryz.ntmps6
 have C9 := Lib.hid (abAwake ((w.alloc (.cells #[(.slice b.A b.xs.length b.c)] 24)).alloc (.cells x.cells 36)) (HLA.out _ B6.out))
 go_wp2_with fail
 refine C9.out.mono ?_
 rintro e w10 ⟨rfl, hb11⟩
 have T12 := Lib.hid (T4.out.below hb11 T4.out.lt)
 have T13 := Lib.hid (T5.out.below hb11 T5.out.lt)
 have F14 := Lib.hid (F7.out.below hb11 (Nat.le_refl _))
 have F15 := Lib.hid (F8.out.below hb11 (Nat.le_refl _))
 have B16 := Lib.hid (B6.out.trans (hb11.mono B6.out.size))
 clear hb11
 have M17 := Lib.hid (T12.out.load)
 have C18 := Lib.hid (fewB_any b w10 F14.out)
 rw [PB.out] at C18
 go_wp2_with (first | ((with_reducible refine wpList_load_by (o := ⟨some 15, .load 24 (.tmp 2), _, _, _, _⟩) ?e1 24 (.tmp 2) ?e2 ⟨w.heap.size, 0, none⟩ ?e3 _ M17.out ?_); (case e1 => rfl); (case e2 => rfl); (case e3 => rfl)))
 refine C18.out.mono ?_
 rintro e w19 ⟨rfl, hb20⟩
 have T21 := Lib.hid (T12.out.below hb20 T12.out.lt)
 have T22 := Lib.hid (T13.out.below hb20 T13.out.lt)
 have F23 := Lib.hid (F14.out.below hb20 (Nat.le_refl _))
 have F24 := Lib.hid (F15.out.below hb20 (Nat.le_refl _))
 have B25 := Lib.hid (B16.out.trans (hb20.mono B16.out.size))
 clear hb20
 have M26 := Lib.hid (T22.out.load)
 have C27 := Lib.hid (xfew_any x w19 F24.out)
 rw [PR.out] at C27
 go_wp2_with (first | ((with_reducible refine wpList_load_by (o := ⟨some 17, .load 36 (.tmp 3), _, _, _, _⟩) ?e1 36 (.tmp 3) ?e2 ⟨(w.heap.size + 1), 0, none⟩ ?e3 _ M26.out ?_); (case e1 => rfl); (case e2 => rfl); (case e3 => rfl)))
 refine C27.out.mono ?_
 rintro e w28 ⟨rfl, hb29⟩
 have T30 := Lib.hid (T21.out.below hb29 T21.out.lt)
 have T31 := Lib.hid (T22.out.below hb29 T22.out.lt)
 have F32 := Lib.hid (F23.out.below hb29 (Nat.le_refl _))
 have F33 := Lib.hid (F24.out.below hb29 (Nat.le_refl _))
 have B34 := Lib.hid (B25.out.trans (hb29.mono B25.out.size))
 clear hb29
 have M40 := Lib.hid (T30.out.load)
 have M41 := Lib.hid (T31.out.load)
 have C42 := Lib.hid (padd14_any b x w28 (HLA.out _ B34.out) F32.out F33.out)
 unfold BJoinPost at C42
 rw [JA.out] at C42
 dsimp only at C42
 go_wp2_with (first | ((with_reducible refine wpList_load_by (o := ⟨some 20, .load 24 (.tmp 2), _, _, _, _⟩) ?e1 24 (.tmp 2) ?e2 ⟨w.heap.size, 0, none⟩ ?e3 _ M40.out ?_); (case e1 => rfl); (case e2 => rfl); (case e3 => rfl)) | ((with_reducible refine wpList_load_by (o := ⟨some 21, .load 36 (.tmp 3), _, _, _, _⟩) ?e1 36 (.tmp 3) ?e2 ⟨(w.heap.size + 1), 0, none⟩ ?e3 _ M41.out ?_); (case e1 => rfl); (case e2 => rfl); (case e3 => rfl)))
 refine C42.out.mono ?_
 rintro e w43 ⟨d35, he36, hd37, hk38, hb44⟩
 have hl39 : d35.xs.length = n := (len_rsA hd37).trans HN.out
 rw [hl39] at he36
 subst he36
 have T45 := Lib.hid (T30.out.below hb44 T30.out.lt)
 have T46 := Lib.hid (T31.out.below hb44 T31.out.lt)
 have F47 := Lib.hid (F32.out.below hb44 (Nat.le_refl _))
 have F48 := Lib.hid (F33.out.below hb44 (Nat.le_refl _))
 have B49 := Lib.hid (B34.out.trans (hb44.mono B34.out.size))
 clear hb44
 have E50 := Lib.hid (hd37)
 have L51 := Lib.hid (hl39)
 have F52 := Lib.hid (hk38)
 clear hd37 hk38 hl39
 have hb53 := (Below.refl w43.heap.size w43).alloc (Nat.le_refl _) (.cells #[(.slice d35.A n d35.c)] 24)
 have T54 := Lib.hid (BoAt.new w43 (.slice d35.A n d35.c))
 have T55 := Lib.hid (T45.out.below hb53 T45.out.lt)
 have T56 := Lib.hid (T46.out.below hb53 T46.out.lt)
 have F57 := Lib.hid (F47.out.below hb53 (Nat.le_refl _))
 have F58 := Lib.hid (F48.out.below hb53 (Nat.le_refl _))
 have F59 := Lib.hid (F52.out.below hb53 (Nat.le_refl _))
 have B60 := Lib.hid (B49.out.trans (hb53.mono B49.out.size))
 clear hb53
 have Z61 := Lib.hid (may_fsA E50.out MX.out)
 have M65 := Lib.hid (T54.out.load)
 have M66 := Lib.hid (T56.out.load)
 have C67 := Lib.hid (padd14_any d35 x (w43.alloc (.cells #[(.slice d35.A n d35.c)] 24)) (HLA.out _ B60.out) F59.out F58.out)
 unfold BJoinPost at C67
 try rw [L51.out] at C67
 try rw [E50.out] at C67
 rw [JB.out] at C67
 dsimp only at C67
 go_wp2_with (first | ((with_reducible refine wpList_load_by (o := ⟨some 43, .load 24 (.tmp 8), _, _, _, _⟩) ?e1 24 (.tmp 8) ?e2 ⟨w43.heap.size, 0, none⟩ ?e3 _ M65.out ?_); (case e1 => rfl); (case e2 => rfl); (case e3 => rfl)) | ((with_reducible refine wpList_load_by (o := ⟨some 44, .load 36 (.tmp 3), _, _, _, _⟩) ?e1 36 (.tmp 3) ?e2 ⟨(w.heap.size + 1), 0, none⟩ ?e3 _ M66.out ?_); (case e1 => rfl); (case e2 => rfl); (case e3 => rfl)))
 refine C67.out.mono ?_
 rintro e w68 ⟨d62, rfl, hd63, hk64, hb69⟩
 have T70 := Lib.hid (T55.out.below hb69 T55.out.lt)
 have T71 := Lib.hid (T56.out.below hb69 T56.out.lt)
 have T72 := Lib.hid (T54.out.below hb69 T54.out.lt)
 have F73 := Lib.hid (F57.out.below hb69 (Nat.le_refl _))
 have F74 := Lib.hid (F58.out.below hb69 (Nat.le_refl _))
 have F75 := Lib.hid (F59.out.below hb69 (Nat.le_refl _))
 have B76 := Lib.hid (B60.out.trans (hb69.mono B60.out.size))
 clear hb69
 have E77 := Lib.hid (hd63)
 have F78 := Lib.hid (hk64)
 clear hd63 hk64
 have hb79 := (Below.refl w68.heap.size w68).alloc (Nat.le_refl _) (.cells #[(.slice d62.A d62.xs.length d62.c)] 24)
 have T80 := Lib.hid (BoAt.new w68 (.slice d62.A d62.xs.length d62.c))
 have T81 := Lib.hid (T70.out.below hb79 T70.out.lt)
 have T82 := Lib.hid (T71.out.below hb79 T71.out.lt)
 have T83 := Lib.hid (T72.out.below hb79 T72.out.lt)
 have F84 := Lib.hid (F73.out.below hb79 (Nat.le_refl _))
 have F85 := Lib.hid (F74.out.below hb79 (Nat.le_refl _))
 have F86 := Lib.hid (F75.out.below hb79 (Nat.le_refl _))
 have F87 := Lib.hid (F78.out.below hb79 (Nat.le_refl _))
 have B88 := Lib.hid (B76.out.trans (hb79.mono B76.out.size))
 clear hb79
 have M89 := Lib.hid (T83.out.load)
 have M90 := Lib.hid (T80.out.load)
 have C91 := Lib.hid (bsame_any d35 d62 (w68.alloc (.cells #[(.slice d62.A d62.xs.length d62.c)] 24)) F86.out F87.out)
 try rw [L51.out] at C91
 try rw [E50.out] at C91
 try rw [E77.out] at C91
 rw [SX.out] at C91
 go_wp2_with (first | ((with_reducible refine wpList_load_by (o := ⟨some 51, .load 24 (.tmp 8), _, _, _, _⟩) ?e1 24 (.tmp 8) ?e2 ⟨w43.heap.size, 0, none⟩ ?e3 _ M89.out ?_); (case e1 => rfl); (case e2 => rfl); (case e3 => rfl)) | ((with_reducible refine wpList_load_by (o := ⟨some 52, .load 24 (.tmp 10), _, _, _, _⟩) ?e1 24 (.tmp 10) ?e2 ⟨w68.heap.size, 0, none⟩ ?e3 _ M90.out ?_); (case e1 => rfl); (case e2 => rfl); (case e3 => rfl)))
 refine C91.out.mono ?_
 rintro e w92 ⟨rfl, hb93⟩
 have T94 := Lib.hid (T81.out.below hb93 T81.out.lt)
 have T95 := Lib.hid (T82.out.below hb93 T82.out.lt)
 have T96 := Lib.hid (T83.out.below hb93 T83.out.lt)
 have T97 := Lib.hid (T80.out.below hb93 T80.out.lt)
 have F98 := Lib.hid (F84.out.below hb93 (Nat.le_refl _))
 have F99 := Lib.hid (F85.out.below hb93 (Nat.le_refl _))
 have F100 := Lib.hid (F86.out.below hb93 (Nat.le_refl _))
 have F101 := Lib.hid (F87.out.below hb93 (Nat.le_refl _))
 have B102 := Lib.hid (B88.out.trans (hb93.mono B88.out.size))
 clear hb93
 have M103 := Lib.hid (T96.out.load)
 have C104 := Lib.hid (bmay_any d35 w92 F100.out)
 try rw [L51.out] at C104
 try rw [E50.out] at C104
 rw [MX.out] at C104
 go_wp2_with (first | ((with_reducible refine wpList_load_by (o := ⟨some 57, .load 24 (.tmp 8), _, _, _, _⟩) ?e1 24 (.tmp 8) ?e2 ⟨w43.heap.size, 0, none⟩ ?e3 _ M103.out ?_); (case e1 => rfl); (case e2 => rfl); (case e3 => rfl)))
 refine C104.out.mono ?_
 rintro e w105 ⟨rfl, hb106⟩
 have T107 := Lib.hid (T94.out.below hb106 T94.out.lt)
 have T108 := Lib.hid (T95.out.below hb106 T95.out.lt)
 have T109 := Lib.hid (T96.out.below hb106 T96.out.lt)
 have T110 := Lib.hid (T97.out.below hb106 T97.out.lt)
 have F111 := Lib.hid (F98.out.below hb106 (Nat.le_refl _))
 have F112 := Lib.hid (F99.out.below hb106 (Nat.le_refl _))
 have F113 := Lib.hid (F100.out.below hb106 (Nat.le_refl _))
 have F114 := Lib.hid (F101.out.below hb106 (Nat.le_refl _))
 have B115 := Lib.hid (B102.out.trans (hb106.mono B102.out.size))
 clear hb106
 have M116 := Lib.hid (T107.out.load)
 have M117 := Lib.hid (T109.out.load)
 have C118 := Lib.hid (bleq_any b d35 w105 (HLA.out _ B115.out) F111.out F113.out)
 try rw [L51.out] at C118
 try rw [E50.out] at C118
 rw [LX.out] at C118
 go_wp2_with (first | ((with_reducible refine wpList_load_by (o := ⟨some 62, .load 24 (.tmp 2), _, _, _, _⟩) ?e1 24 (.tmp 2) ?e2 ⟨w.heap.size, 0, none⟩ ?e3 _ M116.out ?_); (case e1 => rfl); (case e2 => rfl); (case e3 => rfl)) | ((with_reducible refine wpList_load_by (o := ⟨some 63, .load 24 (.tmp 8), _, _, _, _⟩) ?e1 24 (.tmp 8) ?e2 ⟨w43.heap.size, 0, none⟩ ?e3 _ M117.out ?_); (case e1 => rfl); (case e2 => rfl); (case e3 => rfl)))
 refine C118.out.mono ?_
 rintro e w119 ⟨rfl, hb120⟩
 have T121 := Lib.hid (T107.out.below hb120 T107.out.lt)
 have T122 := Lib.hid (T108.out.below hb120 T108.out.lt)
 have T123 := Lib.hid (T109.out.below hb120 T109.out.lt)
 have T124 := Lib.hid (T110.out.below hb120 T110.out.lt)
 have F125 := Lib.hid (F111.out.below hb120 (Nat.le_refl _))
 have F126 := Lib.hid (F112.out.below hb120 (Nat.le_refl _))
 have F127 := Lib.hid (F113.out.below hb120 (Nat.le_refl _))
 have F128 := Lib.hid (F114.out.below hb120 (Nat.le_refl _))
 have B129 := Lib.hid (B115.out.trans (hb120.mono B115.out.size))
 clear hb120
 have MI := Lib.hid (T122.out.load_id)
 have M133 := Lib.hid (T123.out.load)
 have C134 := Lib.hid (bfind_any d35 x.R.z w119 F127.out HX.out.1 HX.out.2 Z61.out)
 unfold BFindPost at C134
 try rw [L51.out] at C134
 try rw [E50.out] at C134
 rw [BA.out] at C134
 try dsimp only [Option.isSome_some, Option.isSome_none, Option.getD_some, Option.getD_none] at C134
 go_wp2_with (first | ((with_reducible refine wpList_load_by (o := ⟨some 68, .load 24 (.tmp 8), _, _, _, _⟩) ?e1 24 (.tmp 8) ?e2 ⟨w43.heap.size, 0, none⟩ ?e3 _ M133.out ?_); (case e1 => rfl); (case e2 => rfl); (case e3 => rfl)) | ((with_reducible refine wpList_load_by (o := ⟨some 70, .load 31 (.tmp 69), _, _, _, _⟩) ?e1 31 (.tmp 69) ?e2 ⟨(w.heap.size + 1), 0, none⟩ ?e3 _ MI.out ?_); (case e1 => rfl); (case e2 => rfl); (case e3 => rfl)))
 refine C134.out.mono ?_
 rintro e w135 ⟨y130, rfl, hd131, hk132, hb136⟩
 have T137 := Lib.hid (T121.out.below hb136 T121.out.lt)
 have T138 := Lib.hid (T122.out.below hb136 T122.out.lt)
 have T139 := Lib.hid (T123.out.below hb136 T123.out.lt)
 have T140 := Lib.hid (T124.out.below hb136 T124.out.lt)
 have F141 := Lib.hid (F125.out.below hb136 (Nat.le_refl _))
 have F142 := Lib.hid (F126.out.below hb136 (Nat.le_refl _))
 have F143 := Lib.hid (F127.out.below hb136 (Nat.le_refl _))
 have F144 := Lib.hid (F128.out.below hb136 (Nat.le_refl _))
 have B145 := Lib.hid (B129.out.trans (hb136.mono B129.out.size))
 clear hb136
 have E146 := Lib.hid (hd131)
 have F147 := Lib.hid (hk132)
 have Z148 := Lib.hid (hk132.len)
 clear hd131 hk132
 go_wp2_with (first | ((with_reducible refine wpList_store_newx (o := ⟨none, .store 36 (.tmp 12) (.tmp 72), _, _, _, _⟩) (w := w135) ?e1 (.tmp 12) (.tmp 72) ?e2 w135.heap.size ?e0 ?e3 y130 ?e4 Z148.out ?_); (case e1 => rfl); (case e2 => rfl); (case e0 => rfl); (case e3 => rfl); (case e4 => rfl); intro w149 hb150 hx151 hs152; have T153 := Lib.hid hx151; clear hx151 hs152; have T154 := Lib.hid (T137.out.below hb150 T137.out.lt); have T155 := Lib.hid (T138.out.below hb150 T138.out.lt); have T156 := Lib.hid (T139.out.below hb150 T139.out.lt); have T157 := Lib.hid (T140.out.below hb150 T140.out.lt); have F158 := Lib.hid (F141.out.below hb150 (Nat.le_refl _)); have F159 := Lib.hid (F142.out.below hb150 (Nat.le_refl _)); have F160 := Lib.hid (F143.out.below hb150 (Nat.le_refl _)); have F161 := Lib.hid (F144.out.below hb150 (Nat.le_refl _)); have F162 := Lib.hid (F147.out.below hb150 (Nat.le_refl _)); have B163 := Lib.hid (B145.out.trans (hb150.mono B145.out.size)); clear hb150; have c0 := T156.out.c0; have c2 := T154.out.c0))
 go_wp2
 go_ret
 exact ⟨rfl, B163.out⟩
theorem aba_any (b : Bk) (x : RcA) (w : World) (hlaid : Laid w) (wb : BkAt w b) (wx : RvAt w x) : Calls Tryz.prog 6 #[.agg #[.slice b.A b.xs.length b.c], .agg x.cells] w fun e w' => e = .returned (.bool true) ∧ Below w.heap.size w w' := by
 cases p : fewB b.rs with
 | false => exact aba_few1 b x w hlaid wb wx p _ rfl
 | true =>
  cases q : fewR x.R.fs with
  | false => exact aba_few2 b x w hlaid wb wx p q
  | true =>
   rcases adds_err b.rs x.R with e | e | e
   ·exact aba_e1 b x w hlaid wb wx p q e
   ·exact aba_e4 b x w hlaid wb wx p q e
   ·obtain ⟨_, c1, c2, _, _⟩ := addE_ok e
    obtain ⟨r, hr⟩ := adds_has e
    exact aba_ok b x w hlaid wb wx p q _ _ r (Prod.ext e rfl) rfl (addE_twice e) c1 c2 hr (by have := adds_len e; unfold Bk.rs at this; rwa [List.length_map] at this) (by have := (fewB_fs p).1; omega)
theorem walk_aboveAdds (b : Bk) (R : Rc) (A : Option Addr) (c : Nat) (w : World) (hlaid : Laid w) (wb : BkAt w b) (wr : IsRec w R A c) : Calls Tryz.prog 6 #[.agg #[.slice b.A b.xs.length b.c], R.v A c] w fun e w' => e = .returned (.bool true) ∧ Below w.heap.size w w' := aba_any b ⟨R, A, c⟩ w hlaid wb ⟨wr.1, wr.2.1⟩
end
end Go.Proofs.YtnlhkpmgbpfjmaaGreatDoor
