import Derived.Test.YtkjimhlpbgeagaaDoorC0
import Derived.Test.YtkjimhlpbgeagaaDoorC27
/-
  What the functions that a law of this layer reaches answer, part 28. Nothing that was there is written.
-/
namespace Go.Proofs.YtkjimhlpbgeagaaDoor
set_option linter.unusedVariables false
set_option linter.unusedSimpArgs false
section
open Go.RowKit Go.Shelf WM
set_option maxRecDepth 100000
set_option maxHeartbeats 16000000 in
theorem mca_tttt1 (m n : MnA) (w : World) (hlaid : Laid w) (wm : m.Ok w) (wn : n.Ok w) (p : mfew m.m = true) (q : mfew n.m = true) (a : mmay m.m = true) (b : mmay n.m = true) (hmn : (m.m = n.m) = True) :
  Calls Tryd.prog 5 #[.agg m.cs.toArray, .agg n.cs.toArray] w fun e w' => e = .returned (.bool true) ∧ Below w.heap.size w w' := by
 have HLA := Lib.hid (fun (X : World) (hX : Below w.heap.size w X) => hlaid.below hX (Nat.le_refl _))
 have Fm := Lib.hid wm
 have LM := Lib.hid (MnA.len wm)
 have Fn := Lib.hid wn
 have LN := Lib.hid (MnA.len wn)
 have PM := Lib.hid p
 have PN := Lib.hid q
 have MM := Lib.hid a
 have MN := Lib.hid b
 have GM := Lib.hid (mn_good wm)
 have GN := Lib.hid (mn_good wn)
 have hw1 := mmay_wf a (mn_good wm)
 have hw2 := mmay_wf b (mn_good wn)
 have hd : decide (m.m = n.m) = true := decide_eq_true (by rw [hmn]; trivial)
 have HMN := Lib.hid hd
 have HBD := Lib.hid (wf_bound hw1)
 have HSE := Lib.hid (str_eq' (pack_bytes (k := 1) (by decide) (by decide) (mnB_ok hw1).1) (pack_bytes (k := 1) (by decide) (by decide) (mnB_ok hw2).1) (b := true) (by
  refine decide_eq_true ?_; have h : m.m = n.m := by rw [hmn]; trivial
  rw [h]))
 clear hw1 hw2 hd hmn
 clear hlaid wm wn p q a b
 have B1 := Lib.hid (Below.refl w.heap.size w)
 have T2n := RowAt.new w m.cs.toArray 26
 have T2 := Lib.hid T2n
 clear T2n
 have B3 := Lib.hid (B1.out.alloc B1.out.size (.cells m.cs.toArray 26))
 have T4 := Lib.hid (T2.out.old (.cells n.cs.toArray 26))
 have T5n := RowAt.new (w.alloc (.cells m.cs.toArray 26)) n.cs.toArray 26
 simp only [World.size_alloc] at T5n
 have T5 := Lib.hid T5n
 clear T5n
 have B6 := Lib.hid (B3.out.alloc B3.out.size (.cells n.cs.toArray 26))
 have F7 := Lib.hid (Fm.out.below B6.out (Nat.le_refl _))
 have F8 := Lib.hid (Fn.out.below B6.out (Nat.le_refl _))
 go_enter Tryd.func5, Tryd.ntmps5
 have C9 := Lib.hid (mcAwake ((w.alloc (.cells m.cs.toArray 26)).alloc (.cells n.cs.toArray 26)) (HLA.out _ B6.out))
 go_wp2_with fail
 refine C9.out.mono ?_
 rintro e w10 ⟨rfl, hb11⟩
 have T12 := Lib.hid (T4.out.below hb11 T4.out.lt)
 have T13 := Lib.hid (T5.out.below hb11 T5.out.lt)
 have F14 := Lib.hid (F7.out.below hb11 (Nat.le_refl _))
 have F15 := Lib.hid (F8.out.below hb11 (Nat.le_refl _))
 have B16 := Lib.hid (B6.out.trans (hb11.mono B6.out.size))
 clear hb11
 have M17 := Lib.hid (T12.out.mn LM.out)
 have C18 := Lib.hid (rfew12_any m w10 F14.out)
 rw [PM.out] at C18
 go_wp2_with (first | ((with_reducible refine wpList_load_at (o := ⟨some 13, .load 26 (.tmp 2), _, _, _, _⟩) ?e1 26 (.tmp 2) ?e2 ⟨w.heap.size, 0, none⟩ ?e3 _ M17.out ?_); (case e1 => rfl); (case e2 => rfl); (case e3 => rfl)))
 refine C18.out.mono ?_
 rintro e w19 ⟨rfl, hb20⟩
 have T21 := Lib.hid (T12.out.below hb20 T12.out.lt)
 have T22 := Lib.hid (T13.out.below hb20 T13.out.lt)
 have F23 := Lib.hid (F14.out.below hb20 (Nat.le_refl _))
 have F24 := Lib.hid (F15.out.below hb20 (Nat.le_refl _))
 have B25 := Lib.hid (B16.out.trans (hb20.mono B16.out.size))
 clear hb20
 have M26 := Lib.hid (T22.out.mn LN.out)
 have C27 := Lib.hid (rfew12_any n w19 F24.out)
 rw [PN.out] at C27
 go_wp2_with (first | ((with_reducible refine wpList_load_at (o := ⟨some 15, .load 26 (.tmp 3), _, _, _, _⟩) ?e1 26 (.tmp 3) ?e2 ⟨(w.heap.size + 1), 0, none⟩ ?e3 _ M26.out ?_); (case e1 => rfl); (case e2 => rfl); (case e3 => rfl)))
 refine C27.out.mono ?_
 rintro e w28 ⟨rfl, hb29⟩
 have T30 := Lib.hid (T21.out.below hb29 T21.out.lt)
 have T31 := Lib.hid (T22.out.below hb29 T22.out.lt)
 have F32 := Lib.hid (F23.out.below hb29 (Nat.le_refl _))
 have F33 := Lib.hid (F24.out.below hb29 (Nat.le_refl _))
 have B34 := Lib.hid (B25.out.trans (hb29.mono B25.out.size))
 clear hb29
 have M39 := Lib.hid (T30.out.mn LM.out)
 have C40 := Lib.hid (put13_any m w28 F32.out GM.out)
 unfold MPutPost at C40
 simp only [MM.out, if_true] at C40
 unfold GivesT at C40
 go_wp2_with (first | ((with_reducible refine wpList_load_at (o := ⟨some 18, .load 26 (.tmp 2), _, _, _, _⟩) ?e1 26 (.tmp 2) ?e2 ⟨w.heap.size, 0, none⟩ ?e3 _ M39.out ?_); (case e1 => rfl); (case e2 => rfl); (case e3 => rfl)))
 refine C40.out.mono ?_
 rintro e w41 ⟨A1, n1, c1, rfl, hn35, h36, h37, ho38, hb42⟩
 have T43 := Lib.hid (T30.out.below hb42 T30.out.lt)
 have T44 := Lib.hid (T31.out.below hb42 T31.out.lt)
 have F45 := Lib.hid (F32.out.below hb42 (Nat.le_refl _))
 have F46 := Lib.hid (F33.out.below hb42 (Nat.le_refl _))
 have B47 := Lib.hid (B34.out.trans (hb42.mono B34.out.size))
 clear hb42
 have Y48 := Lib.hid (BsAt.own ho38)
 have N49 := Lib.hid (hn35)
 have N50 := Lib.hid (And.intro h36 h37)
 clear hn35 h36 h37 ho38
 have M55 := Lib.hid (T44.out.mn LN.out)
 have C56 := Lib.hid (put13_any n w41 F46.out GN.out)
 unfold MPutPost at C56
 simp only [MN.out, if_true] at C56
 unfold GivesT at C56
 go_wp2_with (first | ((with_reducible refine wpList_load_at (o := ⟨some 23, .load 26 (.tmp 3), _, _, _, _⟩) ?e1 26 (.tmp 3) ?e2 ⟨(w.heap.size + 1), 0, none⟩ ?e3 _ M55.out ?_); (case e1 => rfl); (case e2 => rfl); (case e3 => rfl)))
 refine C56.out.mono ?_
 rintro e w57 ⟨A2, n2, c2, rfl, hn51, h52, h53, ho54, hb58⟩
 have T59 := Lib.hid (T43.out.below hb58 T43.out.lt)
 have T60 := Lib.hid (T44.out.below hb58 T44.out.lt)
 have F61 := Lib.hid (F45.out.below hb58 (Nat.le_refl _))
 have F62 := Lib.hid (F46.out.below hb58 (Nat.le_refl _))
 have F63 := Lib.hid (Y48.out.below hb58 (Nat.le_refl _))
 have B64 := Lib.hid (B47.out.trans (hb58.mono B47.out.size))
 clear hb58
 have Y65 := Lib.hid (BsAt.own ho54)
 have N66 := Lib.hid (hn51)
 have N67 := Lib.hid (And.intro h52 h53)
 clear hn51 h52 h53 ho54
 have Y1 := F63
 have Y2 := Y65
 have L51 := Lib.hid (fun w9 (hS : Below w57.heap.size w57 w9) => (T59.out.below hS T59.out.lt).mn LM.out)
 have L52 := Lib.hid (fun w9 (hS : Below w57.heap.size w57 w9) => (T60.out.below hS T60.out.lt).mn LN.out)
 have HT1 := Lib.hid (fun w9 (hS : Below w57.heap.size w57 w9) => (Y1.out.below hS (Nat.le_refl _)).1.text (P := Tryd.prog) (cap := c1) Y1.out.2.1 27 5 9 Tryd.underlying27 Tryd.underlying5 Tryd.underlying9)
 have HT2 := Lib.hid (fun w9 (hS : Below w57.heap.size w57 w9) => (Y2.out.below hS (Nat.le_refl _)).1.text (P := Tryd.prog) (cap := c2) Y2.out.2.1 27 5 9 Tryd.underlying27 Tryd.underlying5 Tryd.underlying9)
 have HSM := Lib.hid (fun w9 (hS : Below w57.heap.size w57 w9) => show Calls Tryd.prog 11 #[.agg m.cs.toArray, .agg n.cs.toArray] w9 fun e w' => e = .returned (.bool true) ∧ Below w9.heap.size w9 w' from by have h := psame12_any m n w9 (F61.out.below hS (Nat.le_refl _)) (F62.out.below hS (Nat.le_refl _)) HBD.out; rw [HMN.out] at h; exact h)
 have BW := B64
 go_wp2_with fail
 refine wp_region_G _ (by kernel_rfl) ?_
 refine wpGv (i := 0) (oi := ⟨some 46, _, _, _, _, _⟩) (v := ?_) rfl ?_ ?_; rotate_left; (focus (intro w9 hSw; go_simp; try with_reducible rfl)); simp only [Act.put, Z2, Z3, Z4]
 refine wpGv (i := 1) (oi := ⟨some 47, _, _, _, _, _⟩) (v := ?_) rfl ?_ ?_; rotate_left; (focus (intro w9 hSw; have q0 := HT1.out w9 hSw; go_simp; try with_reducible rfl)); simp only [Act.put, Z2, Z3, Z4]
 refine wpGv (i := 2) (oi := ⟨some 48, _, _, _, _, _⟩) (v := ?_) rfl ?_ ?_; rotate_left; (focus (intro w9 hSw; go_simp; try with_reducible rfl)); simp only [Act.put, Z2, Z3, Z4]
 refine wpGv (i := 3) (oi := ⟨some 49, _, _, _, _, _⟩) (v := ?_) rfl ?_ ?_; rotate_left; (focus (intro w9 hSw; have q0 := HT2.out w9 hSw; go_simp; try with_reducible rfl)); simp only [Act.put, Z2, Z3, Z4]
 refine wpGv (i := 4) (oi := ⟨some 50, _, _, _, _, _⟩) (v := ?_) rfl ?_ ?_; rotate_left; (focus (intro w9 hSw; have q0 := HSE.out; go_simp; try with_reducible rfl)); simp only [Act.put, Z2, Z3, Z4]
 refine wpGv (i := 5) (oi := ⟨some 51, _, _, _, _, _⟩) (v := (.agg m.cs.toArray)) rfl ?_ ?_; (focus (intro w9 hSw; exact exec_load_at 26 _ rfl _ rfl (L51.out w9 hSw))); simp only [Act.put, Z2, Z3, Z4]
 refine wpGv (i := 6) (oi := ⟨some 52, _, _, _, _, _⟩) (v := (.agg n.cs.toArray)) rfl ?_ ?_; (focus (intro w9 hSw; exact exec_load_at 26 _ rfl _ rfl (L52.out w9 hSw))); simp only [Act.put, Z2, Z3, Z4]
 refine wpG_take (i := 7) (oi := ⟨some 53, _, _, _, _, _⟩) rfl (by kernel_rfl) (by kernel_rfl) (by kernel_rfl) (Or.inl ⟨by rfl, unib_call_if ?_ HSM.out⟩) ?_; (focus (intro w9 hSw; go_simp; try with_reducible rfl)); simp only [Act.put, Z2, Z3, Z4]
 refine wpGv (i := 8) (oi := ⟨some 54, _, _, _, _, _⟩) (v := ?_) rfl ?_ ?_; rotate_left; (focus (intro w9 hSw; go_simp; try with_reducible rfl)); simp only [Act.put, Z2, Z3, Z4]
 refine wpGv (i := 9) (oi := ⟨some 4, _, _, _, _, _⟩) (v := ?_) rfl ?_ ?_; rotate_left; (focus (intro w9 hSw; go_simp; try with_reducible rfl)); simp only [Act.put, Z2, Z3, Z4]
 refine wpG_done (by kernel_rfl) ?_ _
 intro w9 hSw _
 have BB := Lib.hid (BW.out.trans (hSw.mono BW.out.size))
 clear hSw
 go_wp2
 go_ret
 exact ⟨rfl, BB.out⟩
set_option maxHeartbeats 16000000 in
theorem mca_tttt0 (m n : MnA) (w : World) (hlaid : Laid w) (wm : m.Ok w) (wn : n.Ok w) (p : mfew m.m = true) (q : mfew n.m = true) (a : mmay m.m = true) (b : mmay n.m = true) (hmn : (m.m = n.m) = False) :
  Calls Tryd.prog 5 #[.agg m.cs.toArray, .agg n.cs.toArray] w fun e w' => e = .returned (.bool true) ∧ Below w.heap.size w w' := by
 have HLA := Lib.hid (fun (X : World) (hX : Below w.heap.size w X) => hlaid.below hX (Nat.le_refl _))
 have Fm := Lib.hid wm
 have LM := Lib.hid (MnA.len wm)
 have Fn := Lib.hid wn
 have LN := Lib.hid (MnA.len wn)
 have PM := Lib.hid p
 have PN := Lib.hid q
 have MM := Lib.hid a
 have MN := Lib.hid b
 have GM := Lib.hid (mn_good wm)
 have GN := Lib.hid (mn_good wn)
 have hw1 := mmay_wf a (mn_good wm)
 have hw2 := mmay_wf b (mn_good wn)
 have hd : decide (m.m = n.m) = false := decide_eq_false (by rw [hmn]; exact id)
 have HMN := Lib.hid hd
 have HBD := Lib.hid (wf_bound hw1)
 have HSE := Lib.hid (str_eq' (pack_bytes (k := 1) (by decide) (by decide) (mnB_ok hw1).1) (pack_bytes (k := 1) (by decide) (by decide) (mnB_ok hw2).1) (b := false) (by
  refine decide_eq_false (fun hz => ?_); have h := mput_inj a b hw1 hw2 hz
  rw [hmn] at h; exact h))
 clear hw1 hw2 hd hmn
 clear hlaid wm wn p q a b
 have B1 := Lib.hid (Below.refl w.heap.size w)
 have T2n := RowAt.new w m.cs.toArray 26
 have T2 := Lib.hid T2n
 clear T2n
 have B3 := Lib.hid (B1.out.alloc B1.out.size (.cells m.cs.toArray 26))
 have T4 := Lib.hid (T2.out.old (.cells n.cs.toArray 26))
 have T5n := RowAt.new (w.alloc (.cells m.cs.toArray 26)) n.cs.toArray 26
 simp only [World.size_alloc] at T5n
 have T5 := Lib.hid T5n
 clear T5n
 have B6 := Lib.hid (B3.out.alloc B3.out.size (.cells n.cs.toArray 26))
 have F7 := Lib.hid (Fm.out.below B6.out (Nat.le_refl _))
 have F8 := Lib.hid (Fn.out.below B6.out (Nat.le_refl _))
 go_enter Tryd.func5, Tryd.ntmps5
 have C9 := Lib.hid (mcAwake ((w.alloc (.cells m.cs.toArray 26)).alloc (.cells n.cs.toArray 26)) (HLA.out _ B6.out))
 go_wp2_with fail
 refine C9.out.mono ?_
 rintro e w10 ⟨rfl, hb11⟩
 have T12 := Lib.hid (T4.out.below hb11 T4.out.lt)
 have T13 := Lib.hid (T5.out.below hb11 T5.out.lt)
 have F14 := Lib.hid (F7.out.below hb11 (Nat.le_refl _))
 have F15 := Lib.hid (F8.out.below hb11 (Nat.le_refl _))
 have B16 := Lib.hid (B6.out.trans (hb11.mono B6.out.size))
 clear hb11
 have M17 := Lib.hid (T12.out.mn LM.out)
 have C18 := Lib.hid (rfew12_any m w10 F14.out)
 rw [PM.out] at C18
 go_wp2_with (first | ((with_reducible refine wpList_load_at (o := ⟨some 13, .load 26 (.tmp 2), _, _, _, _⟩) ?e1 26 (.tmp 2) ?e2 ⟨w.heap.size, 0, none⟩ ?e3 _ M17.out ?_); (case e1 => rfl); (case e2 => rfl); (case e3 => rfl)))
 refine C18.out.mono ?_
 rintro e w19 ⟨rfl, hb20⟩
 have T21 := Lib.hid (T12.out.below hb20 T12.out.lt)
 have T22 := Lib.hid (T13.out.below hb20 T13.out.lt)
 have F23 := Lib.hid (F14.out.below hb20 (Nat.le_refl _))
 have F24 := Lib.hid (F15.out.below hb20 (Nat.le_refl _))
 have B25 := Lib.hid (B16.out.trans (hb20.mono B16.out.size))
 clear hb20
 have M26 := Lib.hid (T22.out.mn LN.out)
 have C27 := Lib.hid (rfew12_any n w19 F24.out)
 rw [PN.out] at C27
 go_wp2_with (first | ((with_reducible refine wpList_load_at (o := ⟨some 15, .load 26 (.tmp 3), _, _, _, _⟩) ?e1 26 (.tmp 3) ?e2 ⟨(w.heap.size + 1), 0, none⟩ ?e3 _ M26.out ?_); (case e1 => rfl); (case e2 => rfl); (case e3 => rfl)))
 refine C27.out.mono ?_
 rintro e w28 ⟨rfl, hb29⟩
 have T30 := Lib.hid (T21.out.below hb29 T21.out.lt)
 have T31 := Lib.hid (T22.out.below hb29 T22.out.lt)
 have F32 := Lib.hid (F23.out.below hb29 (Nat.le_refl _))
 have F33 := Lib.hid (F24.out.below hb29 (Nat.le_refl _))
 have B34 := Lib.hid (B25.out.trans (hb29.mono B25.out.size))
 clear hb29
 have M39 := Lib.hid (T30.out.mn LM.out)
 have C40 := Lib.hid (put13_any m w28 F32.out GM.out)
 unfold MPutPost at C40
 simp only [MM.out, if_true] at C40
 unfold GivesT at C40
 go_wp2_with (first | ((with_reducible refine wpList_load_at (o := ⟨some 18, .load 26 (.tmp 2), _, _, _, _⟩) ?e1 26 (.tmp 2) ?e2 ⟨w.heap.size, 0, none⟩ ?e3 _ M39.out ?_); (case e1 => rfl); (case e2 => rfl); (case e3 => rfl)))
 refine C40.out.mono ?_
 rintro e w41 ⟨A1, n1, c1, rfl, hn35, h36, h37, ho38, hb42⟩
 have T43 := Lib.hid (T30.out.below hb42 T30.out.lt)
 have T44 := Lib.hid (T31.out.below hb42 T31.out.lt)
 have F45 := Lib.hid (F32.out.below hb42 (Nat.le_refl _))
 have F46 := Lib.hid (F33.out.below hb42 (Nat.le_refl _))
 have B47 := Lib.hid (B34.out.trans (hb42.mono B34.out.size))
 clear hb42
 have Y48 := Lib.hid (BsAt.own ho38)
 have N49 := Lib.hid (hn35)
 have N50 := Lib.hid (And.intro h36 h37)
 clear hn35 h36 h37 ho38
 have M55 := Lib.hid (T44.out.mn LN.out)
 have C56 := Lib.hid (put13_any n w41 F46.out GN.out)
 unfold MPutPost at C56
 simp only [MN.out, if_true] at C56
 unfold GivesT at C56
 go_wp2_with (first | ((with_reducible refine wpList_load_at (o := ⟨some 23, .load 26 (.tmp 3), _, _, _, _⟩) ?e1 26 (.tmp 3) ?e2 ⟨(w.heap.size + 1), 0, none⟩ ?e3 _ M55.out ?_); (case e1 => rfl); (case e2 => rfl); (case e3 => rfl)))
 refine C56.out.mono ?_
 rintro e w57 ⟨A2, n2, c2, rfl, hn51, h52, h53, ho54, hb58⟩
 have T59 := Lib.hid (T43.out.below hb58 T43.out.lt)
 have T60 := Lib.hid (T44.out.below hb58 T44.out.lt)
 have F61 := Lib.hid (F45.out.below hb58 (Nat.le_refl _))
 have F62 := Lib.hid (F46.out.below hb58 (Nat.le_refl _))
 have F63 := Lib.hid (Y48.out.below hb58 (Nat.le_refl _))
 have B64 := Lib.hid (B47.out.trans (hb58.mono B47.out.size))
 clear hb58
 have Y65 := Lib.hid (BsAt.own ho54)
 have N66 := Lib.hid (hn51)
 have N67 := Lib.hid (And.intro h52 h53)
 clear hn51 h52 h53 ho54
 have Y1 := F63
 have Y2 := Y65
 have L51 := Lib.hid (fun w9 (hS : Below w57.heap.size w57 w9) => (T59.out.below hS T59.out.lt).mn LM.out)
 have L52 := Lib.hid (fun w9 (hS : Below w57.heap.size w57 w9) => (T60.out.below hS T60.out.lt).mn LN.out)
 have HT1 := Lib.hid (fun w9 (hS : Below w57.heap.size w57 w9) => (Y1.out.below hS (Nat.le_refl _)).1.text (P := Tryd.prog) (cap := c1) Y1.out.2.1 27 5 9 Tryd.underlying27 Tryd.underlying5 Tryd.underlying9)
 have HT2 := Lib.hid (fun w9 (hS : Below w57.heap.size w57 w9) => (Y2.out.below hS (Nat.le_refl _)).1.text (P := Tryd.prog) (cap := c2) Y2.out.2.1 27 5 9 Tryd.underlying27 Tryd.underlying5 Tryd.underlying9)
 have HSM := Lib.hid (fun w9 (hS : Below w57.heap.size w57 w9) => show Calls Tryd.prog 11 #[.agg m.cs.toArray, .agg n.cs.toArray] w9 fun e w' => e = .returned (.bool false) ∧ Below w9.heap.size w9 w' from by have h := psame12_any m n w9 (F61.out.below hS (Nat.le_refl _)) (F62.out.below hS (Nat.le_refl _)) HBD.out; rw [HMN.out] at h; exact h)
 have BW := B64
 go_wp2_with fail
 refine wp_region_G _ (by kernel_rfl) ?_
 refine wpGv (i := 0) (oi := ⟨some 46, _, _, _, _, _⟩) (v := ?_) rfl ?_ ?_; rotate_left; (focus (intro w9 hSw; go_simp; try with_reducible rfl)); simp only [Act.put, Z2, Z3, Z4]
 refine wpGv (i := 1) (oi := ⟨some 47, _, _, _, _, _⟩) (v := ?_) rfl ?_ ?_; rotate_left; (focus (intro w9 hSw; have q0 := HT1.out w9 hSw; go_simp; try with_reducible rfl)); simp only [Act.put, Z2, Z3, Z4]
 refine wpGv (i := 2) (oi := ⟨some 48, _, _, _, _, _⟩) (v := ?_) rfl ?_ ?_; rotate_left; (focus (intro w9 hSw; go_simp; try with_reducible rfl)); simp only [Act.put, Z2, Z3, Z4]
 refine wpGv (i := 3) (oi := ⟨some 49, _, _, _, _, _⟩) (v := ?_) rfl ?_ ?_; rotate_left; (focus (intro w9 hSw; have q0 := HT2.out w9 hSw; go_simp; try with_reducible rfl)); simp only [Act.put, Z2, Z3, Z4]
 refine wpGv (i := 4) (oi := ⟨some 50, _, _, _, _, _⟩) (v := ?_) rfl ?_ ?_; rotate_left; (focus (intro w9 hSw; have q0 := HSE.out; go_simp; try with_reducible rfl)); simp only [Act.put, Z2, Z3, Z4]
 refine wpGv (i := 5) (oi := ⟨some 51, _, _, _, _, _⟩) (v := (.agg m.cs.toArray)) rfl ?_ ?_; (focus (intro w9 hSw; exact exec_load_at 26 _ rfl _ rfl (L51.out w9 hSw))); simp only [Act.put, Z2, Z3, Z4]
 refine wpGv (i := 6) (oi := ⟨some 52, _, _, _, _, _⟩) (v := (.agg n.cs.toArray)) rfl ?_ ?_; (focus (intro w9 hSw; exact exec_load_at 26 _ rfl _ rfl (L52.out w9 hSw))); simp only [Act.put, Z2, Z3, Z4]
 refine wpG_take (i := 7) (oi := ⟨some 53, _, _, _, _, _⟩) rfl (by kernel_rfl) (by kernel_rfl) (by kernel_rfl) (Or.inl ⟨by rfl, unib_call_if ?_ HSM.out⟩) ?_; (focus (intro w9 hSw; go_simp; try with_reducible rfl)); simp only [Act.put, Z2, Z3, Z4]
 refine wpGv (i := 8) (oi := ⟨some 54, _, _, _, _, _⟩) (v := ?_) rfl ?_ ?_; rotate_left; (focus (intro w9 hSw; go_simp; try with_reducible rfl)); simp only [Act.put, Z2, Z3, Z4]
 refine wpGv (i := 9) (oi := ⟨some 4, _, _, _, _, _⟩) (v := ?_) rfl ?_ ?_; rotate_left; (focus (intro w9 hSw; go_simp; try with_reducible rfl)); simp only [Act.put, Z2, Z3, Z4]
 refine wpG_done (by kernel_rfl) ?_ _
 intro w9 hSw _
 have BB := Lib.hid (BW.out.trans (hSw.mono BW.out.size))
 clear hSw
 go_wp2
 go_ret
 exact ⟨rfl, BB.out⟩
set_option maxHeartbeats 16000000 in
theorem mca_tttf (m n : MnA) (w : World) (hlaid : Laid w) (wm : m.Ok w) (wn : n.Ok w) (p : mfew m.m = true) (q : mfew n.m = false) (a : mmay m.m = true) (b : mmay n.m = true) :
  Calls Tryd.prog 5 #[.agg m.cs.toArray, .agg n.cs.toArray] w fun e w' => e = .returned (.bool true) ∧ Below w.heap.size w w' := by
 have HLA := Lib.hid (fun (X : World) (hX : Below w.heap.size w X) => hlaid.below hX (Nat.le_refl _))
 have Fm := Lib.hid wm
 have LM := Lib.hid (MnA.len wm)
 have Fn := Lib.hid wn
 have LN := Lib.hid (MnA.len wn)
 have PM := Lib.hid p
 have PN := Lib.hid q
 have MM := Lib.hid a
 have MN := Lib.hid b
 have GM := Lib.hid (mn_good wm)
 have GN := Lib.hid (mn_good wn)
 clear hlaid wm wn p q a b
 have B1 := Lib.hid (Below.refl w.heap.size w)
 have T2n := RowAt.new w m.cs.toArray 26
 have T2 := Lib.hid T2n
 clear T2n
 have B3 := Lib.hid (B1.out.alloc B1.out.size (.cells m.cs.toArray 26))
 have T4 := Lib.hid (T2.out.old (.cells n.cs.toArray 26))
 have T5n := RowAt.new (w.alloc (.cells m.cs.toArray 26)) n.cs.toArray 26
 simp only [World.size_alloc] at T5n
 have T5 := Lib.hid T5n
 clear T5n
 have B6 := Lib.hid (B3.out.alloc B3.out.size (.cells n.cs.toArray 26))
 have F7 := Lib.hid (Fm.out.below B6.out (Nat.le_refl _))
 have F8 := Lib.hid (Fn.out.below B6.out (Nat.le_refl _))
 go_enter Tryd.func5, Tryd.ntmps5
 have C9 := Lib.hid (mcAwake ((w.alloc (.cells m.cs.toArray 26)).alloc (.cells n.cs.toArray 26)) (HLA.out _ B6.out))
 go_wp2_with fail
 refine C9.out.mono ?_
 rintro e w10 ⟨rfl, hb11⟩
 have T12 := Lib.hid (T4.out.below hb11 T4.out.lt)
 have T13 := Lib.hid (T5.out.below hb11 T5.out.lt)
 have F14 := Lib.hid (F7.out.below hb11 (Nat.le_refl _))
 have F15 := Lib.hid (F8.out.below hb11 (Nat.le_refl _))
 have B16 := Lib.hid (B6.out.trans (hb11.mono B6.out.size))
 clear hb11
 have M17 := Lib.hid (T12.out.mn LM.out)
 have C18 := Lib.hid (rfew12_any m w10 F14.out)
 rw [PM.out] at C18
 go_wp2_with (first | ((with_reducible refine wpList_load_at (o := ⟨some 13, .load 26 (.tmp 2), _, _, _, _⟩) ?e1 26 (.tmp 2) ?e2 ⟨w.heap.size, 0, none⟩ ?e3 _ M17.out ?_); (case e1 => rfl); (case e2 => rfl); (case e3 => rfl)))
 refine C18.out.mono ?_
 rintro e w19 ⟨rfl, hb20⟩
 have T21 := Lib.hid (T12.out.below hb20 T12.out.lt)
 have T22 := Lib.hid (T13.out.below hb20 T13.out.lt)
 have F23 := Lib.hid (F14.out.below hb20 (Nat.le_refl _))
 have F24 := Lib.hid (F15.out.below hb20 (Nat.le_refl _))
 have B25 := Lib.hid (B16.out.trans (hb20.mono B16.out.size))
 clear hb20
 have M26 := Lib.hid (T22.out.mn LN.out)
 have C27 := Lib.hid (rfew12_any n w19 F24.out)
 rw [PN.out] at C27
 go_wp2_with (first | ((with_reducible refine wpList_load_at (o := ⟨some 15, .load 26 (.tmp 3), _, _, _, _⟩) ?e1 26 (.tmp 3) ?e2 ⟨(w.heap.size + 1), 0, none⟩ ?e3 _ M26.out ?_); (case e1 => rfl); (case e2 => rfl); (case e3 => rfl)))
 refine C27.out.mono ?_
 rintro e w28 ⟨rfl, hb29⟩
 have T30 := Lib.hid (T21.out.below hb29 T21.out.lt)
 have T31 := Lib.hid (T22.out.below hb29 T22.out.lt)
 have F32 := Lib.hid (F23.out.below hb29 (Nat.le_refl _))
 have F33 := Lib.hid (F24.out.below hb29 (Nat.le_refl _))
 have B34 := Lib.hid (B25.out.trans (hb29.mono B25.out.size))
 clear hb29
 have M39 := Lib.hid (T30.out.mn LM.out)
 have C40 := Lib.hid (put13_any m w28 F32.out GM.out)
 unfold MPutPost at C40
 simp only [MM.out, if_true] at C40
 unfold GivesT at C40
 go_wp2_with (first | ((with_reducible refine wpList_load_at (o := ⟨some 18, .load 26 (.tmp 2), _, _, _, _⟩) ?e1 26 (.tmp 2) ?e2 ⟨w.heap.size, 0, none⟩ ?e3 _ M39.out ?_); (case e1 => rfl); (case e2 => rfl); (case e3 => rfl)))
 refine C40.out.mono ?_
 rintro e w41 ⟨A1, n1, c1, rfl, hn35, h36, h37, ho38, hb42⟩
 have T43 := Lib.hid (T30.out.below hb42 T30.out.lt)
 have T44 := Lib.hid (T31.out.below hb42 T31.out.lt)
 have F45 := Lib.hid (F32.out.below hb42 (Nat.le_refl _))
 have F46 := Lib.hid (F33.out.below hb42 (Nat.le_refl _))
 have B47 := Lib.hid (B34.out.trans (hb42.mono B34.out.size))
 clear hb42
 have Y48 := Lib.hid (BsAt.own ho38)
 have N49 := Lib.hid (hn35)
 have N50 := Lib.hid (And.intro h36 h37)
 clear hn35 h36 h37 ho38
 have M55 := Lib.hid (T44.out.mn LN.out)
 have C56 := Lib.hid (put13_any n w41 F46.out GN.out)
 unfold MPutPost at C56
 simp only [MN.out, if_true] at C56
 unfold GivesT at C56
 go_wp2_with (first | ((with_reducible refine wpList_load_at (o := ⟨some 23, .load 26 (.tmp 3), _, _, _, _⟩) ?e1 26 (.tmp 3) ?e2 ⟨(w.heap.size + 1), 0, none⟩ ?e3 _ M55.out ?_); (case e1 => rfl); (case e2 => rfl); (case e3 => rfl)))
 refine C56.out.mono ?_
 rintro e w57 ⟨A2, n2, c2, rfl, hn51, h52, h53, ho54, hb58⟩
 have T59 := Lib.hid (T43.out.below hb58 T43.out.lt)
 have T60 := Lib.hid (T44.out.below hb58 T44.out.lt)
 have F61 := Lib.hid (F45.out.below hb58 (Nat.le_refl _))
 have F62 := Lib.hid (F46.out.below hb58 (Nat.le_refl _))
 have F63 := Lib.hid (Y48.out.below hb58 (Nat.le_refl _))
 have B64 := Lib.hid (B47.out.trans (hb58.mono B47.out.size))
 clear hb58
 have Y65 := Lib.hid (BsAt.own ho54)
 have N66 := Lib.hid (hn51)
 have N67 := Lib.hid (And.intro h52 h53)
 clear hn51 h52 h53 ho54
 go_wp2
 go_ret
 exact ⟨rfl, B64.out⟩
set_option maxHeartbeats 16000000 in
theorem mca_ttft (m n : MnA) (w : World) (hlaid : Laid w) (wm : m.Ok w) (wn : n.Ok w) (p : mfew m.m = false) (q : mfew n.m = true) (a : mmay m.m = true) (b : mmay n.m = true) :
  Calls Tryd.prog 5 #[.agg m.cs.toArray, .agg n.cs.toArray] w fun e w' => e = .returned (.bool true) ∧ Below w.heap.size w w' := by
 have HLA := Lib.hid (fun (X : World) (hX : Below w.heap.size w X) => hlaid.below hX (Nat.le_refl _))
 have Fm := Lib.hid wm
 have LM := Lib.hid (MnA.len wm)
 have Fn := Lib.hid wn
 have LN := Lib.hid (MnA.len wn)
 have PM := Lib.hid p
 have PN := Lib.hid q
 have MM := Lib.hid a
 have MN := Lib.hid b
 have GM := Lib.hid (mn_good wm)
 have GN := Lib.hid (mn_good wn)
 clear hlaid wm wn p q a b
 have B1 := Lib.hid (Below.refl w.heap.size w)
 have T2n := RowAt.new w m.cs.toArray 26
 have T2 := Lib.hid T2n
 clear T2n
 have B3 := Lib.hid (B1.out.alloc B1.out.size (.cells m.cs.toArray 26))
 have T4 := Lib.hid (T2.out.old (.cells n.cs.toArray 26))
 have T5n := RowAt.new (w.alloc (.cells m.cs.toArray 26)) n.cs.toArray 26
 simp only [World.size_alloc] at T5n
 have T5 := Lib.hid T5n
 clear T5n
 have B6 := Lib.hid (B3.out.alloc B3.out.size (.cells n.cs.toArray 26))
 have F7 := Lib.hid (Fm.out.below B6.out (Nat.le_refl _))
 have F8 := Lib.hid (Fn.out.below B6.out (Nat.le_refl _))
 go_enter Tryd.func5, Tryd.ntmps5
 have C9 := Lib.hid (mcAwake ((w.alloc (.cells m.cs.toArray 26)).alloc (.cells n.cs.toArray 26)) (HLA.out _ B6.out))
 go_wp2_with fail
 refine C9.out.mono ?_
 rintro e w10 ⟨rfl, hb11⟩
 have T12 := Lib.hid (T4.out.below hb11 T4.out.lt)
 have T13 := Lib.hid (T5.out.below hb11 T5.out.lt)
 have F14 := Lib.hid (F7.out.below hb11 (Nat.le_refl _))
 have F15 := Lib.hid (F8.out.below hb11 (Nat.le_refl _))
 have B16 := Lib.hid (B6.out.trans (hb11.mono B6.out.size))
 clear hb11
 have M17 := Lib.hid (T12.out.mn LM.out)
 have C18 := Lib.hid (rfew12_any m w10 F14.out)
 rw [PM.out] at C18
 go_wp2_with (first | ((with_reducible refine wpList_load_at (o := ⟨some 13, .load 26 (.tmp 2), _, _, _, _⟩) ?e1 26 (.tmp 2) ?e2 ⟨w.heap.size, 0, none⟩ ?e3 _ M17.out ?_); (case e1 => rfl); (case e2 => rfl); (case e3 => rfl)))
 refine C18.out.mono ?_
 rintro e w19 ⟨rfl, hb20⟩
 have T21 := Lib.hid (T12.out.below hb20 T12.out.lt)
 have T22 := Lib.hid (T13.out.below hb20 T13.out.lt)
 have F23 := Lib.hid (F14.out.below hb20 (Nat.le_refl _))
 have F24 := Lib.hid (F15.out.below hb20 (Nat.le_refl _))
 have B25 := Lib.hid (B16.out.trans (hb20.mono B16.out.size))
 clear hb20
 have M26 := Lib.hid (T22.out.mn LN.out)
 have C27 := Lib.hid (rfew12_any n w19 F24.out)
 rw [PN.out] at C27
 go_wp2_with (first | ((with_reducible refine wpList_load_at (o := ⟨some 15, .load 26 (.tmp 3), _, _, _, _⟩) ?e1 26 (.tmp 3) ?e2 ⟨(w.heap.size + 1), 0, none⟩ ?e3 _ M26.out ?_); (case e1 => rfl); (case e2 => rfl); (case e3 => rfl)))
 refine C27.out.mono ?_
 rintro e w28 ⟨rfl, hb29⟩
 have T30 := Lib.hid (T21.out.below hb29 T21.out.lt)
 have T31 := Lib.hid (T22.out.below hb29 T22.out.lt)
 have F32 := Lib.hid (F23.out.below hb29 (Nat.le_refl _))
 have F33 := Lib.hid (F24.out.below hb29 (Nat.le_refl _))
 have B34 := Lib.hid (B25.out.trans (hb29.mono B25.out.size))
 clear hb29
 have M39 := Lib.hid (T30.out.mn LM.out)
 have C40 := Lib.hid (put13_any m w28 F32.out GM.out)
 unfold MPutPost at C40
 simp only [MM.out, if_true] at C40
 unfold GivesT at C40
 go_wp2_with (first | ((with_reducible refine wpList_load_at (o := ⟨some 18, .load 26 (.tmp 2), _, _, _, _⟩) ?e1 26 (.tmp 2) ?e2 ⟨w.heap.size, 0, none⟩ ?e3 _ M39.out ?_); (case e1 => rfl); (case e2 => rfl); (case e3 => rfl)))
 refine C40.out.mono ?_
 rintro e w41 ⟨A1, n1, c1, rfl, hn35, h36, h37, ho38, hb42⟩
 have T43 := Lib.hid (T30.out.below hb42 T30.out.lt)
 have T44 := Lib.hid (T31.out.below hb42 T31.out.lt)
 have F45 := Lib.hid (F32.out.below hb42 (Nat.le_refl _))
 have F46 := Lib.hid (F33.out.below hb42 (Nat.le_refl _))
 have B47 := Lib.hid (B34.out.trans (hb42.mono B34.out.size))
 clear hb42
 have Y48 := Lib.hid (BsAt.own ho38)
 have N49 := Lib.hid (hn35)
 have N50 := Lib.hid (And.intro h36 h37)
 clear hn35 h36 h37 ho38
 have M55 := Lib.hid (T44.out.mn LN.out)
 have C56 := Lib.hid (put13_any n w41 F46.out GN.out)
 unfold MPutPost at C56
 simp only [MN.out, if_true] at C56
 unfold GivesT at C56
 go_wp2_with (first | ((with_reducible refine wpList_load_at (o := ⟨some 23, .load 26 (.tmp 3), _, _, _, _⟩) ?e1 26 (.tmp 3) ?e2 ⟨(w.heap.size + 1), 0, none⟩ ?e3 _ M55.out ?_); (case e1 => rfl); (case e2 => rfl); (case e3 => rfl)))
 refine C56.out.mono ?_
 rintro e w57 ⟨A2, n2, c2, rfl, hn51, h52, h53, ho54, hb58⟩
 have T59 := Lib.hid (T43.out.below hb58 T43.out.lt)
 have T60 := Lib.hid (T44.out.below hb58 T44.out.lt)
 have F61 := Lib.hid (F45.out.below hb58 (Nat.le_refl _))
 have F62 := Lib.hid (F46.out.below hb58 (Nat.le_refl _))
 have F63 := Lib.hid (Y48.out.below hb58 (Nat.le_refl _))
 have B64 := Lib.hid (B47.out.trans (hb58.mono B47.out.size))
 clear hb58
 have Y65 := Lib.hid (BsAt.own ho54)
 have N66 := Lib.hid (hn51)
 have N67 := Lib.hid (And.intro h52 h53)
 clear hn51 h52 h53 ho54
 go_wp2
 go_ret
 exact ⟨rfl, B64.out⟩
set_option maxHeartbeats 16000000 in
theorem mca_ttff (m n : MnA) (w : World) (hlaid : Laid w) (wm : m.Ok w) (wn : n.Ok w) (p : mfew m.m = false) (q : mfew n.m = false) (a : mmay m.m = true) (b : mmay n.m = true) :
  Calls Tryd.prog 5 #[.agg m.cs.toArray, .agg n.cs.toArray] w fun e w' => e = .returned (.bool true) ∧ Below w.heap.size w w' := by
 have HLA := Lib.hid (fun (X : World) (hX : Below w.heap.size w X) => hlaid.below hX (Nat.le_refl _))
 have Fm := Lib.hid wm
 have LM := Lib.hid (MnA.len wm)
 have Fn := Lib.hid wn
 have LN := Lib.hid (MnA.len wn)
 have PM := Lib.hid p
 have PN := Lib.hid q
 have MM := Lib.hid a
 have MN := Lib.hid b
 have GM := Lib.hid (mn_good wm)
 have GN := Lib.hid (mn_good wn)
 clear hlaid wm wn p q a b
 have B1 := Lib.hid (Below.refl w.heap.size w)
 have T2n := RowAt.new w m.cs.toArray 26
 have T2 := Lib.hid T2n
 clear T2n
 have B3 := Lib.hid (B1.out.alloc B1.out.size (.cells m.cs.toArray 26))
 have T4 := Lib.hid (T2.out.old (.cells n.cs.toArray 26))
 have T5n := RowAt.new (w.alloc (.cells m.cs.toArray 26)) n.cs.toArray 26
 simp only [World.size_alloc] at T5n
 have T5 := Lib.hid T5n
 clear T5n
 have B6 := Lib.hid (B3.out.alloc B3.out.size (.cells n.cs.toArray 26))
 have F7 := Lib.hid (Fm.out.below B6.out (Nat.le_refl _))
 have F8 := Lib.hid (Fn.out.below B6.out (Nat.le_refl _))
 go_enter Tryd.func5, Tryd.ntmps5
 have C9 := Lib.hid (mcAwake ((w.alloc (.cells m.cs.toArray 26)).alloc (.cells n.cs.toArray 26)) (HLA.out _ B6.out))
 go_wp2_with fail
 refine C9.out.mono ?_
 rintro e w10 ⟨rfl, hb11⟩
 have T12 := Lib.hid (T4.out.below hb11 T4.out.lt)
 have T13 := Lib.hid (T5.out.below hb11 T5.out.lt)
 have F14 := Lib.hid (F7.out.below hb11 (Nat.le_refl _))
 have F15 := Lib.hid (F8.out.below hb11 (Nat.le_refl _))
 have B16 := Lib.hid (B6.out.trans (hb11.mono B6.out.size))
 clear hb11
 have M17 := Lib.hid (T12.out.mn LM.out)
 have C18 := Lib.hid (rfew12_any m w10 F14.out)
 rw [PM.out] at C18
 go_wp2_with (first | ((with_reducible refine wpList_load_at (o := ⟨some 13, .load 26 (.tmp 2), _, _, _, _⟩) ?e1 26 (.tmp 2) ?e2 ⟨w.heap.size, 0, none⟩ ?e3 _ M17.out ?_); (case e1 => rfl); (case e2 => rfl); (case e3 => rfl)))
 refine C18.out.mono ?_
 rintro e w19 ⟨rfl, hb20⟩
 have T21 := Lib.hid (T12.out.below hb20 T12.out.lt)
 have T22 := Lib.hid (T13.out.below hb20 T13.out.lt)
 have F23 := Lib.hid (F14.out.below hb20 (Nat.le_refl _))
 have F24 := Lib.hid (F15.out.below hb20 (Nat.le_refl _))
 have B25 := Lib.hid (B16.out.trans (hb20.mono B16.out.size))
 clear hb20
 have M26 := Lib.hid (T22.out.mn LN.out)
 have C27 := Lib.hid (rfew12_any n w19 F24.out)
 rw [PN.out] at C27
 go_wp2_with (first | ((with_reducible refine wpList_load_at (o := ⟨some 15, .load 26 (.tmp 3), _, _, _, _⟩) ?e1 26 (.tmp 3) ?e2 ⟨(w.heap.size + 1), 0, none⟩ ?e3 _ M26.out ?_); (case e1 => rfl); (case e2 => rfl); (case e3 => rfl)))
 refine C27.out.mono ?_
 rintro e w28 ⟨rfl, hb29⟩
 have T30 := Lib.hid (T21.out.below hb29 T21.out.lt)
 have T31 := Lib.hid (T22.out.below hb29 T22.out.lt)
 have F32 := Lib.hid (F23.out.below hb29 (Nat.le_refl _))
 have F33 := Lib.hid (F24.out.below hb29 (Nat.le_refl _))
 have B34 := Lib.hid (B25.out.trans (hb29.mono B25.out.size))
 clear hb29
 have M39 := Lib.hid (T30.out.mn LM.out)
 have C40 := Lib.hid (put13_any m w28 F32.out GM.out)
 unfold MPutPost at C40
 simp only [MM.out, if_true] at C40
 unfold GivesT at C40
 go_wp2_with (first | ((with_reducible refine wpList_load_at (o := ⟨some 18, .load 26 (.tmp 2), _, _, _, _⟩) ?e1 26 (.tmp 2) ?e2 ⟨w.heap.size, 0, none⟩ ?e3 _ M39.out ?_); (case e1 => rfl); (case e2 => rfl); (case e3 => rfl)))
 refine C40.out.mono ?_
 rintro e w41 ⟨A1, n1, c1, rfl, hn35, h36, h37, ho38, hb42⟩
 have T43 := Lib.hid (T30.out.below hb42 T30.out.lt)
 have T44 := Lib.hid (T31.out.below hb42 T31.out.lt)
 have F45 := Lib.hid (F32.out.below hb42 (Nat.le_refl _))
 have F46 := Lib.hid (F33.out.below hb42 (Nat.le_refl _))
 have B47 := Lib.hid (B34.out.trans (hb42.mono B34.out.size))
 clear hb42
 have Y48 := Lib.hid (BsAt.own ho38)
 have N49 := Lib.hid (hn35)
 have N50 := Lib.hid (And.intro h36 h37)
 clear hn35 h36 h37 ho38
 have M55 := Lib.hid (T44.out.mn LN.out)
 have C56 := Lib.hid (put13_any n w41 F46.out GN.out)
 unfold MPutPost at C56
 simp only [MN.out, if_true] at C56
 unfold GivesT at C56
 go_wp2_with (first | ((with_reducible refine wpList_load_at (o := ⟨some 23, .load 26 (.tmp 3), _, _, _, _⟩) ?e1 26 (.tmp 3) ?e2 ⟨(w.heap.size + 1), 0, none⟩ ?e3 _ M55.out ?_); (case e1 => rfl); (case e2 => rfl); (case e3 => rfl)))
 refine C56.out.mono ?_
 rintro e w57 ⟨A2, n2, c2, rfl, hn51, h52, h53, ho54, hb58⟩
 have T59 := Lib.hid (T43.out.below hb58 T43.out.lt)
 have T60 := Lib.hid (T44.out.below hb58 T44.out.lt)
 have F61 := Lib.hid (F45.out.below hb58 (Nat.le_refl _))
 have F62 := Lib.hid (F46.out.below hb58 (Nat.le_refl _))
 have F63 := Lib.hid (Y48.out.below hb58 (Nat.le_refl _))
 have B64 := Lib.hid (B47.out.trans (hb58.mono B47.out.size))
 clear hb58
 have Y65 := Lib.hid (BsAt.own ho54)
 have N66 := Lib.hid (hn51)
 have N67 := Lib.hid (And.intro h52 h53)
 clear hn51 h52 h53 ho54
 go_wp2
 go_ret
 exact ⟨rfl, B64.out⟩
set_option maxHeartbeats 16000000 in
theorem mca_tftt (m n : MnA) (w : World) (hlaid : Laid w) (wm : m.Ok w) (wn : n.Ok w) (p : mfew m.m = true) (q : mfew n.m = true) (a : mmay m.m = true) (b : mmay n.m = false) :
  Calls Tryd.prog 5 #[.agg m.cs.toArray, .agg n.cs.toArray] w fun e w' => e = .returned (.bool true) ∧ Below w.heap.size w w' := by
 have HLA := Lib.hid (fun (X : World) (hX : Below w.heap.size w X) => hlaid.below hX (Nat.le_refl _))
 have Fm := Lib.hid wm
 have LM := Lib.hid (MnA.len wm)
 have Fn := Lib.hid wn
 have LN := Lib.hid (MnA.len wn)
 have PM := Lib.hid p
 have PN := Lib.hid q
 have MM := Lib.hid a
 have MN := Lib.hid b
 have GM := Lib.hid (mn_good wm)
 have GN := Lib.hid (mn_good wn)
 clear hlaid wm wn p q a b
 have B1 := Lib.hid (Below.refl w.heap.size w)
 have T2n := RowAt.new w m.cs.toArray 26
 have T2 := Lib.hid T2n
 clear T2n
 have B3 := Lib.hid (B1.out.alloc B1.out.size (.cells m.cs.toArray 26))
 have T4 := Lib.hid (T2.out.old (.cells n.cs.toArray 26))
 have T5n := RowAt.new (w.alloc (.cells m.cs.toArray 26)) n.cs.toArray 26
 simp only [World.size_alloc] at T5n
 have T5 := Lib.hid T5n
 clear T5n
 have B6 := Lib.hid (B3.out.alloc B3.out.size (.cells n.cs.toArray 26))
 have F7 := Lib.hid (Fm.out.below B6.out (Nat.le_refl _))
 have F8 := Lib.hid (Fn.out.below B6.out (Nat.le_refl _))
 go_enter Tryd.func5, Tryd.ntmps5
 have C9 := Lib.hid (mcAwake ((w.alloc (.cells m.cs.toArray 26)).alloc (.cells n.cs.toArray 26)) (HLA.out _ B6.out))
 go_wp2_with fail
 refine C9.out.mono ?_
 rintro e w10 ⟨rfl, hb11⟩
 have T12 := Lib.hid (T4.out.below hb11 T4.out.lt)
 have T13 := Lib.hid (T5.out.below hb11 T5.out.lt)
 have F14 := Lib.hid (F7.out.below hb11 (Nat.le_refl _))
 have F15 := Lib.hid (F8.out.below hb11 (Nat.le_refl _))
 have B16 := Lib.hid (B6.out.trans (hb11.mono B6.out.size))
 clear hb11
 have M17 := Lib.hid (T12.out.mn LM.out)
 have C18 := Lib.hid (rfew12_any m w10 F14.out)
 rw [PM.out] at C18
 go_wp2_with (first | ((with_reducible refine wpList_load_at (o := ⟨some 13, .load 26 (.tmp 2), _, _, _, _⟩) ?e1 26 (.tmp 2) ?e2 ⟨w.heap.size, 0, none⟩ ?e3 _ M17.out ?_); (case e1 => rfl); (case e2 => rfl); (case e3 => rfl)))
 refine C18.out.mono ?_
 rintro e w19 ⟨rfl, hb20⟩
 have T21 := Lib.hid (T12.out.below hb20 T12.out.lt)
 have T22 := Lib.hid (T13.out.below hb20 T13.out.lt)
 have F23 := Lib.hid (F14.out.below hb20 (Nat.le_refl _))
 have F24 := Lib.hid (F15.out.below hb20 (Nat.le_refl _))
 have B25 := Lib.hid (B16.out.trans (hb20.mono B16.out.size))
 clear hb20
 have M26 := Lib.hid (T22.out.mn LN.out)
 have C27 := Lib.hid (rfew12_any n w19 F24.out)
 rw [PN.out] at C27
 go_wp2_with (first | ((with_reducible refine wpList_load_at (o := ⟨some 15, .load 26 (.tmp 3), _, _, _, _⟩) ?e1 26 (.tmp 3) ?e2 ⟨(w.heap.size + 1), 0, none⟩ ?e3 _ M26.out ?_); (case e1 => rfl); (case e2 => rfl); (case e3 => rfl)))
 refine C27.out.mono ?_
 rintro e w28 ⟨rfl, hb29⟩
 have T30 := Lib.hid (T21.out.below hb29 T21.out.lt)
 have T31 := Lib.hid (T22.out.below hb29 T22.out.lt)
 have F32 := Lib.hid (F23.out.below hb29 (Nat.le_refl _))
 have F33 := Lib.hid (F24.out.below hb29 (Nat.le_refl _))
 have B34 := Lib.hid (B25.out.trans (hb29.mono B25.out.size))
 clear hb29
 have M39 := Lib.hid (T30.out.mn LM.out)
 have C40 := Lib.hid (put13_any m w28 F32.out GM.out)
 unfold MPutPost at C40
 simp only [MM.out, if_true] at C40
 unfold GivesT at C40
 go_wp2_with (first | ((with_reducible refine wpList_load_at (o := ⟨some 18, .load 26 (.tmp 2), _, _, _, _⟩) ?e1 26 (.tmp 2) ?e2 ⟨w.heap.size, 0, none⟩ ?e3 _ M39.out ?_); (case e1 => rfl); (case e2 => rfl); (case e3 => rfl)))
 refine C40.out.mono ?_
 rintro e w41 ⟨A1, n1, c1, rfl, hn35, h36, h37, ho38, hb42⟩
 have T43 := Lib.hid (T30.out.below hb42 T30.out.lt)
 have T44 := Lib.hid (T31.out.below hb42 T31.out.lt)
 have F45 := Lib.hid (F32.out.below hb42 (Nat.le_refl _))
 have F46 := Lib.hid (F33.out.below hb42 (Nat.le_refl _))
 have B47 := Lib.hid (B34.out.trans (hb42.mono B34.out.size))
 clear hb42
 have Y48 := Lib.hid (BsAt.own ho38)
 have N49 := Lib.hid (hn35)
 have N50 := Lib.hid (And.intro h36 h37)
 clear hn35 h36 h37 ho38
 have M51 := Lib.hid (T44.out.mn LN.out)
 have C52 := Lib.hid (put13_any n w41 F46.out GN.out)
 unfold MPutPost at C52
 simp only [MN.out, Bool.false_eq_true, if_false] at C52
 go_wp2_with (first | ((with_reducible refine wpList_load_at (o := ⟨some 23, .load 26 (.tmp 3), _, _, _, _⟩) ?e1 26 (.tmp 3) ?e2 ⟨(w.heap.size + 1), 0, none⟩ ?e3 _ M51.out ?_); (case e1 => rfl); (case e2 => rfl); (case e3 => rfl)))
 refine C52.out.mono ?_
 rintro e w53 ⟨rfl, hb54⟩
 have T55 := Lib.hid (T43.out.below hb54 T43.out.lt)
 have T56 := Lib.hid (T44.out.below hb54 T44.out.lt)
 have F57 := Lib.hid (F45.out.below hb54 (Nat.le_refl _))
 have F58 := Lib.hid (F46.out.below hb54 (Nat.le_refl _))
 have F59 := Lib.hid (Y48.out.below hb54 (Nat.le_refl _))
 have B60 := Lib.hid (B47.out.trans (hb54.mono B47.out.size))
 clear hb54
 go_wp2
 go_ret
 exact ⟨rfl, B60.out⟩
set_option maxHeartbeats 16000000 in
theorem mca_tftf (m n : MnA) (w : World) (hlaid : Laid w) (wm : m.Ok w) (wn : n.Ok w) (p : mfew m.m = true) (q : mfew n.m = false) (a : mmay m.m = true) (b : mmay n.m = false) :
  Calls Tryd.prog 5 #[.agg m.cs.toArray, .agg n.cs.toArray] w fun e w' => e = .returned (.bool true) ∧ Below w.heap.size w w' := by
 have HLA := Lib.hid (fun (X : World) (hX : Below w.heap.size w X) => hlaid.below hX (Nat.le_refl _))
 have Fm := Lib.hid wm
 have LM := Lib.hid (MnA.len wm)
 have Fn := Lib.hid wn
 have LN := Lib.hid (MnA.len wn)
 have PM := Lib.hid p
 have PN := Lib.hid q
 have MM := Lib.hid a
 have MN := Lib.hid b
 have GM := Lib.hid (mn_good wm)
 have GN := Lib.hid (mn_good wn)
 clear hlaid wm wn p q a b
 have B1 := Lib.hid (Below.refl w.heap.size w)
 have T2n := RowAt.new w m.cs.toArray 26
 have T2 := Lib.hid T2n
 clear T2n
 have B3 := Lib.hid (B1.out.alloc B1.out.size (.cells m.cs.toArray 26))
 have T4 := Lib.hid (T2.out.old (.cells n.cs.toArray 26))
 have T5n := RowAt.new (w.alloc (.cells m.cs.toArray 26)) n.cs.toArray 26
 simp only [World.size_alloc] at T5n
 have T5 := Lib.hid T5n
 clear T5n
 have B6 := Lib.hid (B3.out.alloc B3.out.size (.cells n.cs.toArray 26))
 have F7 := Lib.hid (Fm.out.below B6.out (Nat.le_refl _))
 have F8 := Lib.hid (Fn.out.below B6.out (Nat.le_refl _))
 go_enter Tryd.func5, Tryd.ntmps5
 have C9 := Lib.hid (mcAwake ((w.alloc (.cells m.cs.toArray 26)).alloc (.cells n.cs.toArray 26)) (HLA.out _ B6.out))
 go_wp2_with fail
 refine C9.out.mono ?_
 rintro e w10 ⟨rfl, hb11⟩
 have T12 := Lib.hid (T4.out.below hb11 T4.out.lt)
 have T13 := Lib.hid (T5.out.below hb11 T5.out.lt)
 have F14 := Lib.hid (F7.out.below hb11 (Nat.le_refl _))
 have F15 := Lib.hid (F8.out.below hb11 (Nat.le_refl _))
 have B16 := Lib.hid (B6.out.trans (hb11.mono B6.out.size))
 clear hb11
 have M17 := Lib.hid (T12.out.mn LM.out)
 have C18 := Lib.hid (rfew12_any m w10 F14.out)
 rw [PM.out] at C18
 go_wp2_with (first | ((with_reducible refine wpList_load_at (o := ⟨some 13, .load 26 (.tmp 2), _, _, _, _⟩) ?e1 26 (.tmp 2) ?e2 ⟨w.heap.size, 0, none⟩ ?e3 _ M17.out ?_); (case e1 => rfl); (case e2 => rfl); (case e3 => rfl)))
 refine C18.out.mono ?_
 rintro e w19 ⟨rfl, hb20⟩
 have T21 := Lib.hid (T12.out.below hb20 T12.out.lt)
 have T22 := Lib.hid (T13.out.below hb20 T13.out.lt)
 have F23 := Lib.hid (F14.out.below hb20 (Nat.le_refl _))
 have F24 := Lib.hid (F15.out.below hb20 (Nat.le_refl _))
 have B25 := Lib.hid (B16.out.trans (hb20.mono B16.out.size))
 clear hb20
 have M26 := Lib.hid (T22.out.mn LN.out)
 have C27 := Lib.hid (rfew12_any n w19 F24.out)
 rw [PN.out] at C27
 go_wp2_with (first | ((with_reducible refine wpList_load_at (o := ⟨some 15, .load 26 (.tmp 3), _, _, _, _⟩) ?e1 26 (.tmp 3) ?e2 ⟨(w.heap.size + 1), 0, none⟩ ?e3 _ M26.out ?_); (case e1 => rfl); (case e2 => rfl); (case e3 => rfl)))
 refine C27.out.mono ?_
 rintro e w28 ⟨rfl, hb29⟩
 have T30 := Lib.hid (T21.out.below hb29 T21.out.lt)
 have T31 := Lib.hid (T22.out.below hb29 T22.out.lt)
 have F32 := Lib.hid (F23.out.below hb29 (Nat.le_refl _))
 have F33 := Lib.hid (F24.out.below hb29 (Nat.le_refl _))
 have B34 := Lib.hid (B25.out.trans (hb29.mono B25.out.size))
 clear hb29
 have M39 := Lib.hid (T30.out.mn LM.out)
 have C40 := Lib.hid (put13_any m w28 F32.out GM.out)
 unfold MPutPost at C40
 simp only [MM.out, if_true] at C40
 unfold GivesT at C40
 go_wp2_with (first | ((with_reducible refine wpList_load_at (o := ⟨some 18, .load 26 (.tmp 2), _, _, _, _⟩) ?e1 26 (.tmp 2) ?e2 ⟨w.heap.size, 0, none⟩ ?e3 _ M39.out ?_); (case e1 => rfl); (case e2 => rfl); (case e3 => rfl)))
 refine C40.out.mono ?_
 rintro e w41 ⟨A1, n1, c1, rfl, hn35, h36, h37, ho38, hb42⟩
 have T43 := Lib.hid (T30.out.below hb42 T30.out.lt)
 have T44 := Lib.hid (T31.out.below hb42 T31.out.lt)
 have F45 := Lib.hid (F32.out.below hb42 (Nat.le_refl _))
 have F46 := Lib.hid (F33.out.below hb42 (Nat.le_refl _))
 have B47 := Lib.hid (B34.out.trans (hb42.mono B34.out.size))
 clear hb42
 have Y48 := Lib.hid (BsAt.own ho38)
 have N49 := Lib.hid (hn35)
 have N50 := Lib.hid (And.intro h36 h37)
 clear hn35 h36 h37 ho38
 have M51 := Lib.hid (T44.out.mn LN.out)
 have C52 := Lib.hid (put13_any n w41 F46.out GN.out)
 unfold MPutPost at C52
 simp only [MN.out, Bool.false_eq_true, if_false] at C52
 go_wp2_with (first | ((with_reducible refine wpList_load_at (o := ⟨some 23, .load 26 (.tmp 3), _, _, _, _⟩) ?e1 26 (.tmp 3) ?e2 ⟨(w.heap.size + 1), 0, none⟩ ?e3 _ M51.out ?_); (case e1 => rfl); (case e2 => rfl); (case e3 => rfl)))
 refine C52.out.mono ?_
 rintro e w53 ⟨rfl, hb54⟩
 have T55 := Lib.hid (T43.out.below hb54 T43.out.lt)
 have T56 := Lib.hid (T44.out.below hb54 T44.out.lt)
 have F57 := Lib.hid (F45.out.below hb54 (Nat.le_refl _))
 have F58 := Lib.hid (F46.out.below hb54 (Nat.le_refl _))
 have F59 := Lib.hid (Y48.out.below hb54 (Nat.le_refl _))
 have B60 := Lib.hid (B47.out.trans (hb54.mono B47.out.size))
 clear hb54
 go_wp2
 go_ret
 exact ⟨rfl, B60.out⟩
set_option maxHeartbeats 16000000 in
theorem mca_tfft (m n : MnA) (w : World) (hlaid : Laid w) (wm : m.Ok w) (wn : n.Ok w) (p : mfew m.m = false) (q : mfew n.m = true) (a : mmay m.m = true) (b : mmay n.m = false) :
  Calls Tryd.prog 5 #[.agg m.cs.toArray, .agg n.cs.toArray] w fun e w' => e = .returned (.bool true) ∧ Below w.heap.size w w' := by
 have HLA := Lib.hid (fun (X : World) (hX : Below w.heap.size w X) => hlaid.below hX (Nat.le_refl _))
 have Fm := Lib.hid wm
 have LM := Lib.hid (MnA.len wm)
 have Fn := Lib.hid wn
 have LN := Lib.hid (MnA.len wn)
 have PM := Lib.hid p
 have PN := Lib.hid q
 have MM := Lib.hid a
 have MN := Lib.hid b
 have GM := Lib.hid (mn_good wm)
 have GN := Lib.hid (mn_good wn)
 clear hlaid wm wn p q a b
 have B1 := Lib.hid (Below.refl w.heap.size w)
 have T2n := RowAt.new w m.cs.toArray 26
 have T2 := Lib.hid T2n
 clear T2n
 have B3 := Lib.hid (B1.out.alloc B1.out.size (.cells m.cs.toArray 26))
 have T4 := Lib.hid (T2.out.old (.cells n.cs.toArray 26))
 have T5n := RowAt.new (w.alloc (.cells m.cs.toArray 26)) n.cs.toArray 26
 simp only [World.size_alloc] at T5n
 have T5 := Lib.hid T5n
 clear T5n
 have B6 := Lib.hid (B3.out.alloc B3.out.size (.cells n.cs.toArray 26))
 have F7 := Lib.hid (Fm.out.below B6.out (Nat.le_refl _))
 have F8 := Lib.hid (Fn.out.below B6.out (Nat.le_refl _))
 go_enter Tryd.func5, Tryd.ntmps5
 have C9 := Lib.hid (mcAwake ((w.alloc (.cells m.cs.toArray 26)).alloc (.cells n.cs.toArray 26)) (HLA.out _ B6.out))
 go_wp2_with fail
 refine C9.out.mono ?_
 rintro e w10 ⟨rfl, hb11⟩
 have T12 := Lib.hid (T4.out.below hb11 T4.out.lt)
 have T13 := Lib.hid (T5.out.below hb11 T5.out.lt)
 have F14 := Lib.hid (F7.out.below hb11 (Nat.le_refl _))
 have F15 := Lib.hid (F8.out.below hb11 (Nat.le_refl _))
 have B16 := Lib.hid (B6.out.trans (hb11.mono B6.out.size))
 clear hb11
 have M17 := Lib.hid (T12.out.mn LM.out)
 have C18 := Lib.hid (rfew12_any m w10 F14.out)
 rw [PM.out] at C18
 go_wp2_with (first | ((with_reducible refine wpList_load_at (o := ⟨some 13, .load 26 (.tmp 2), _, _, _, _⟩) ?e1 26 (.tmp 2) ?e2 ⟨w.heap.size, 0, none⟩ ?e3 _ M17.out ?_); (case e1 => rfl); (case e2 => rfl); (case e3 => rfl)))
 refine C18.out.mono ?_
 rintro e w19 ⟨rfl, hb20⟩
 have T21 := Lib.hid (T12.out.below hb20 T12.out.lt)
 have T22 := Lib.hid (T13.out.below hb20 T13.out.lt)
 have F23 := Lib.hid (F14.out.below hb20 (Nat.le_refl _))
 have F24 := Lib.hid (F15.out.below hb20 (Nat.le_refl _))
 have B25 := Lib.hid (B16.out.trans (hb20.mono B16.out.size))
 clear hb20
 have M26 := Lib.hid (T22.out.mn LN.out)
 have C27 := Lib.hid (rfew12_any n w19 F24.out)
 rw [PN.out] at C27
 go_wp2_with (first | ((with_reducible refine wpList_load_at (o := ⟨some 15, .load 26 (.tmp 3), _, _, _, _⟩) ?e1 26 (.tmp 3) ?e2 ⟨(w.heap.size + 1), 0, none⟩ ?e3 _ M26.out ?_); (case e1 => rfl); (case e2 => rfl); (case e3 => rfl)))
 refine C27.out.mono ?_
 rintro e w28 ⟨rfl, hb29⟩
 have T30 := Lib.hid (T21.out.below hb29 T21.out.lt)
 have T31 := Lib.hid (T22.out.below hb29 T22.out.lt)
 have F32 := Lib.hid (F23.out.below hb29 (Nat.le_refl _))
 have F33 := Lib.hid (F24.out.below hb29 (Nat.le_refl _))
 have B34 := Lib.hid (B25.out.trans (hb29.mono B25.out.size))
 clear hb29
 have M39 := Lib.hid (T30.out.mn LM.out)
 have C40 := Lib.hid (put13_any m w28 F32.out GM.out)
 unfold MPutPost at C40
 simp only [MM.out, if_true] at C40
 unfold GivesT at C40
 go_wp2_with (first | ((with_reducible refine wpList_load_at (o := ⟨some 18, .load 26 (.tmp 2), _, _, _, _⟩) ?e1 26 (.tmp 2) ?e2 ⟨w.heap.size, 0, none⟩ ?e3 _ M39.out ?_); (case e1 => rfl); (case e2 => rfl); (case e3 => rfl)))
 refine C40.out.mono ?_
 rintro e w41 ⟨A1, n1, c1, rfl, hn35, h36, h37, ho38, hb42⟩
 have T43 := Lib.hid (T30.out.below hb42 T30.out.lt)
 have T44 := Lib.hid (T31.out.below hb42 T31.out.lt)
 have F45 := Lib.hid (F32.out.below hb42 (Nat.le_refl _))
 have F46 := Lib.hid (F33.out.below hb42 (Nat.le_refl _))
 have B47 := Lib.hid (B34.out.trans (hb42.mono B34.out.size))
 clear hb42
 have Y48 := Lib.hid (BsAt.own ho38)
 have N49 := Lib.hid (hn35)
 have N50 := Lib.hid (And.intro h36 h37)
 clear hn35 h36 h37 ho38
 have M51 := Lib.hid (T44.out.mn LN.out)
 have C52 := Lib.hid (put13_any n w41 F46.out GN.out)
 unfold MPutPost at C52
 simp only [MN.out, Bool.false_eq_true, if_false] at C52
 go_wp2_with (first | ((with_reducible refine wpList_load_at (o := ⟨some 23, .load 26 (.tmp 3), _, _, _, _⟩) ?e1 26 (.tmp 3) ?e2 ⟨(w.heap.size + 1), 0, none⟩ ?e3 _ M51.out ?_); (case e1 => rfl); (case e2 => rfl); (case e3 => rfl)))
 refine C52.out.mono ?_
 rintro e w53 ⟨rfl, hb54⟩
 have T55 := Lib.hid (T43.out.below hb54 T43.out.lt)
 have T56 := Lib.hid (T44.out.below hb54 T44.out.lt)
 have F57 := Lib.hid (F45.out.below hb54 (Nat.le_refl _))
 have F58 := Lib.hid (F46.out.below hb54 (Nat.le_refl _))
 have F59 := Lib.hid (Y48.out.below hb54 (Nat.le_refl _))
 have B60 := Lib.hid (B47.out.trans (hb54.mono B47.out.size))
 clear hb54
 go_wp2
 go_ret
 exact ⟨rfl, B60.out⟩
set_option maxHeartbeats 16000000 in
theorem mca_tfff (m n : MnA) (w : World) (hlaid : Laid w) (wm : m.Ok w) (wn : n.Ok w) (p : mfew m.m = false) (q : mfew n.m = false) (a : mmay m.m = true) (b : mmay n.m = false) :
  Calls Tryd.prog 5 #[.agg m.cs.toArray, .agg n.cs.toArray] w fun e w' => e = .returned (.bool true) ∧ Below w.heap.size w w' := by
 have HLA := Lib.hid (fun (X : World) (hX : Below w.heap.size w X) => hlaid.below hX (Nat.le_refl _))
 have Fm := Lib.hid wm
 have LM := Lib.hid (MnA.len wm)
 have Fn := Lib.hid wn
 have LN := Lib.hid (MnA.len wn)
 have PM := Lib.hid p
 have PN := Lib.hid q
 have MM := Lib.hid a
 have MN := Lib.hid b
 have GM := Lib.hid (mn_good wm)
 have GN := Lib.hid (mn_good wn)
 clear hlaid wm wn p q a b
 have B1 := Lib.hid (Below.refl w.heap.size w)
 have T2n := RowAt.new w m.cs.toArray 26
 have T2 := Lib.hid T2n
 clear T2n
 have B3 := Lib.hid (B1.out.alloc B1.out.size (.cells m.cs.toArray 26))
 have T4 := Lib.hid (T2.out.old (.cells n.cs.toArray 26))
 have T5n := RowAt.new (w.alloc (.cells m.cs.toArray 26)) n.cs.toArray 26
 simp only [World.size_alloc] at T5n
 have T5 := Lib.hid T5n
 clear T5n
 have B6 := Lib.hid (B3.out.alloc B3.out.size (.cells n.cs.toArray 26))
 have F7 := Lib.hid (Fm.out.below B6.out (Nat.le_refl _))
 have F8 := Lib.hid (Fn.out.below B6.out (Nat.le_refl _))
 go_enter Tryd.func5, Tryd.ntmps5
 have C9 := Lib.hid (mcAwake ((w.alloc (.cells m.cs.toArray 26)).alloc (.cells n.cs.toArray 26)) (HLA.out _ B6.out))
 go_wp2_with fail
 refine C9.out.mono ?_
 rintro e w10 ⟨rfl, hb11⟩
 have T12 := Lib.hid (T4.out.below hb11 T4.out.lt)
 have T13 := Lib.hid (T5.out.below hb11 T5.out.lt)
 have F14 := Lib.hid (F7.out.below hb11 (Nat.le_refl _))
 have F15 := Lib.hid (F8.out.below hb11 (Nat.le_refl _))
 have B16 := Lib.hid (B6.out.trans (hb11.mono B6.out.size))
 clear hb11
 have M17 := Lib.hid (T12.out.mn LM.out)
 have C18 := Lib.hid (rfew12_any m w10 F14.out)
 rw [PM.out] at C18
 go_wp2_with (first | ((with_reducible refine wpList_load_at (o := ⟨some 13, .load 26 (.tmp 2), _, _, _, _⟩) ?e1 26 (.tmp 2) ?e2 ⟨w.heap.size, 0, none⟩ ?e3 _ M17.out ?_); (case e1 => rfl); (case e2 => rfl); (case e3 => rfl)))
 refine C18.out.mono ?_
 rintro e w19 ⟨rfl, hb20⟩
 have T21 := Lib.hid (T12.out.below hb20 T12.out.lt)
 have T22 := Lib.hid (T13.out.below hb20 T13.out.lt)
 have F23 := Lib.hid (F14.out.below hb20 (Nat.le_refl _))
 have F24 := Lib.hid (F15.out.below hb20 (Nat.le_refl _))
 have B25 := Lib.hid (B16.out.trans (hb20.mono B16.out.size))
 clear hb20
 have M26 := Lib.hid (T22.out.mn LN.out)
 have C27 := Lib.hid (rfew12_any n w19 F24.out)
 rw [PN.out] at C27
 go_wp2_with (first | ((with_reducible refine wpList_load_at (o := ⟨some 15, .load 26 (.tmp 3), _, _, _, _⟩) ?e1 26 (.tmp 3) ?e2 ⟨(w.heap.size + 1), 0, none⟩ ?e3 _ M26.out ?_); (case e1 => rfl); (case e2 => rfl); (case e3 => rfl)))
 refine C27.out.mono ?_
 rintro e w28 ⟨rfl, hb29⟩
 have T30 := Lib.hid (T21.out.below hb29 T21.out.lt)
 have T31 := Lib.hid (T22.out.below hb29 T22.out.lt)
 have F32 := Lib.hid (F23.out.below hb29 (Nat.le_refl _))
 have F33 := Lib.hid (F24.out.below hb29 (Nat.le_refl _))
 have B34 := Lib.hid (B25.out.trans (hb29.mono B25.out.size))
 clear hb29
 have M39 := Lib.hid (T30.out.mn LM.out)
 have C40 := Lib.hid (put13_any m w28 F32.out GM.out)
 unfold MPutPost at C40
 simp only [MM.out, if_true] at C40
 unfold GivesT at C40
 go_wp2_with (first | ((with_reducible refine wpList_load_at (o := ⟨some 18, .load 26 (.tmp 2), _, _, _, _⟩) ?e1 26 (.tmp 2) ?e2 ⟨w.heap.size, 0, none⟩ ?e3 _ M39.out ?_); (case e1 => rfl); (case e2 => rfl); (case e3 => rfl)))
 refine C40.out.mono ?_
 rintro e w41 ⟨A1, n1, c1, rfl, hn35, h36, h37, ho38, hb42⟩
 have T43 := Lib.hid (T30.out.below hb42 T30.out.lt)
 have T44 := Lib.hid (T31.out.below hb42 T31.out.lt)
 have F45 := Lib.hid (F32.out.below hb42 (Nat.le_refl _))
 have F46 := Lib.hid (F33.out.below hb42 (Nat.le_refl _))
 have B47 := Lib.hid (B34.out.trans (hb42.mono B34.out.size))
 clear hb42
 have Y48 := Lib.hid (BsAt.own ho38)
 have N49 := Lib.hid (hn35)
 have N50 := Lib.hid (And.intro h36 h37)
 clear hn35 h36 h37 ho38
 have M51 := Lib.hid (T44.out.mn LN.out)
 have C52 := Lib.hid (put13_any n w41 F46.out GN.out)
 unfold MPutPost at C52
 simp only [MN.out, Bool.false_eq_true, if_false] at C52
 go_wp2_with (first | ((with_reducible refine wpList_load_at (o := ⟨some 23, .load 26 (.tmp 3), _, _, _, _⟩) ?e1 26 (.tmp 3) ?e2 ⟨(w.heap.size + 1), 0, none⟩ ?e3 _ M51.out ?_); (case e1 => rfl); (case e2 => rfl); (case e3 => rfl)))
 refine C52.out.mono ?_
 rintro e w53 ⟨rfl, hb54⟩
 have T55 := Lib.hid (T43.out.below hb54 T43.out.lt)
 have T56 := Lib.hid (T44.out.below hb54 T44.out.lt)
 have F57 := Lib.hid (F45.out.below hb54 (Nat.le_refl _))
 have F58 := Lib.hid (F46.out.below hb54 (Nat.le_refl _))
 have F59 := Lib.hid (Y48.out.below hb54 (Nat.le_refl _))
 have B60 := Lib.hid (B47.out.trans (hb54.mono B47.out.size))
 clear hb54
 go_wp2
 go_ret
 exact ⟨rfl, B60.out⟩
set_option maxHeartbeats 16000000 in
theorem mca_fttt (m n : MnA) (w : World) (hlaid : Laid w) (wm : m.Ok w) (wn : n.Ok w) (p : mfew m.m = true) (q : mfew n.m = true) (a : mmay m.m = false) (b : mmay n.m = true) :
  Calls Tryd.prog 5 #[.agg m.cs.toArray, .agg n.cs.toArray] w fun e w' => e = .returned (.bool true) ∧ Below w.heap.size w w' := by
 have HLA := Lib.hid (fun (X : World) (hX : Below w.heap.size w X) => hlaid.below hX (Nat.le_refl _))
 have Fm := Lib.hid wm
 have LM := Lib.hid (MnA.len wm)
 have Fn := Lib.hid wn
 have LN := Lib.hid (MnA.len wn)
 have PM := Lib.hid p
 have PN := Lib.hid q
 have MM := Lib.hid a
 have MN := Lib.hid b
 have GM := Lib.hid (mn_good wm)
 have GN := Lib.hid (mn_good wn)
 clear hlaid wm wn p q a b
 have B1 := Lib.hid (Below.refl w.heap.size w)
 have T2n := RowAt.new w m.cs.toArray 26
 have T2 := Lib.hid T2n
 clear T2n
 have B3 := Lib.hid (B1.out.alloc B1.out.size (.cells m.cs.toArray 26))
 have T4 := Lib.hid (T2.out.old (.cells n.cs.toArray 26))
 have T5n := RowAt.new (w.alloc (.cells m.cs.toArray 26)) n.cs.toArray 26
 simp only [World.size_alloc] at T5n
 have T5 := Lib.hid T5n
 clear T5n
 have B6 := Lib.hid (B3.out.alloc B3.out.size (.cells n.cs.toArray 26))
 have F7 := Lib.hid (Fm.out.below B6.out (Nat.le_refl _))
 have F8 := Lib.hid (Fn.out.below B6.out (Nat.le_refl _))
 go_enter Tryd.func5, Tryd.ntmps5
 have C9 := Lib.hid (mcAwake ((w.alloc (.cells m.cs.toArray 26)).alloc (.cells n.cs.toArray 26)) (HLA.out _ B6.out))
 go_wp2_with fail
 refine C9.out.mono ?_
 rintro e w10 ⟨rfl, hb11⟩
 have T12 := Lib.hid (T4.out.below hb11 T4.out.lt)
 have T13 := Lib.hid (T5.out.below hb11 T5.out.lt)
 have F14 := Lib.hid (F7.out.below hb11 (Nat.le_refl _))
 have F15 := Lib.hid (F8.out.below hb11 (Nat.le_refl _))
 have B16 := Lib.hid (B6.out.trans (hb11.mono B6.out.size))
 clear hb11
 have M17 := Lib.hid (T12.out.mn LM.out)
 have C18 := Lib.hid (rfew12_any m w10 F14.out)
 rw [PM.out] at C18
 go_wp2_with (first | ((with_reducible refine wpList_load_at (o := ⟨some 13, .load 26 (.tmp 2), _, _, _, _⟩) ?e1 26 (.tmp 2) ?e2 ⟨w.heap.size, 0, none⟩ ?e3 _ M17.out ?_); (case e1 => rfl); (case e2 => rfl); (case e3 => rfl)))
 refine C18.out.mono ?_
 rintro e w19 ⟨rfl, hb20⟩
 have T21 := Lib.hid (T12.out.below hb20 T12.out.lt)
 have T22 := Lib.hid (T13.out.below hb20 T13.out.lt)
 have F23 := Lib.hid (F14.out.below hb20 (Nat.le_refl _))
 have F24 := Lib.hid (F15.out.below hb20 (Nat.le_refl _))
 have B25 := Lib.hid (B16.out.trans (hb20.mono B16.out.size))
 clear hb20
 have M26 := Lib.hid (T22.out.mn LN.out)
 have C27 := Lib.hid (rfew12_any n w19 F24.out)
 rw [PN.out] at C27
 go_wp2_with (first | ((with_reducible refine wpList_load_at (o := ⟨some 15, .load 26 (.tmp 3), _, _, _, _⟩) ?e1 26 (.tmp 3) ?e2 ⟨(w.heap.size + 1), 0, none⟩ ?e3 _ M26.out ?_); (case e1 => rfl); (case e2 => rfl); (case e3 => rfl)))
 refine C27.out.mono ?_
 rintro e w28 ⟨rfl, hb29⟩
 have T30 := Lib.hid (T21.out.below hb29 T21.out.lt)
 have T31 := Lib.hid (T22.out.below hb29 T22.out.lt)
 have F32 := Lib.hid (F23.out.below hb29 (Nat.le_refl _))
 have F33 := Lib.hid (F24.out.below hb29 (Nat.le_refl _))
 have B34 := Lib.hid (B25.out.trans (hb29.mono B25.out.size))
 clear hb29
 have M35 := Lib.hid (T30.out.mn LM.out)
 have C36 := Lib.hid (put13_any m w28 F32.out GM.out)
 unfold MPutPost at C36
 simp only [MM.out, Bool.false_eq_true, if_false] at C36
 go_wp2_with (first | ((with_reducible refine wpList_load_at (o := ⟨some 18, .load 26 (.tmp 2), _, _, _, _⟩) ?e1 26 (.tmp 2) ?e2 ⟨w.heap.size, 0, none⟩ ?e3 _ M35.out ?_); (case e1 => rfl); (case e2 => rfl); (case e3 => rfl)))
 refine C36.out.mono ?_
 rintro e w37 ⟨rfl, hb38⟩
 have T39 := Lib.hid (T30.out.below hb38 T30.out.lt)
 have T40 := Lib.hid (T31.out.below hb38 T31.out.lt)
 have F41 := Lib.hid (F32.out.below hb38 (Nat.le_refl _))
 have F42 := Lib.hid (F33.out.below hb38 (Nat.le_refl _))
 have B43 := Lib.hid (B34.out.trans (hb38.mono B34.out.size))
 clear hb38
 have M48 := Lib.hid (T40.out.mn LN.out)
 have C49 := Lib.hid (put13_any n w37 F42.out GN.out)
 unfold MPutPost at C49
 simp only [MN.out, if_true] at C49
 unfold GivesT at C49
 go_wp2_with (first | ((with_reducible refine wpList_load_at (o := ⟨some 23, .load 26 (.tmp 3), _, _, _, _⟩) ?e1 26 (.tmp 3) ?e2 ⟨(w.heap.size + 1), 0, none⟩ ?e3 _ M48.out ?_); (case e1 => rfl); (case e2 => rfl); (case e3 => rfl)))
 refine C49.out.mono ?_
 rintro e w50 ⟨A2, n2, c2, rfl, hn44, h45, h46, ho47, hb51⟩
 have T52 := Lib.hid (T39.out.below hb51 T39.out.lt)
 have T53 := Lib.hid (T40.out.below hb51 T40.out.lt)
 have F54 := Lib.hid (F41.out.below hb51 (Nat.le_refl _))
 have F55 := Lib.hid (F42.out.below hb51 (Nat.le_refl _))
 have B56 := Lib.hid (B43.out.trans (hb51.mono B43.out.size))
 clear hb51
 have Y57 := Lib.hid (BsAt.own ho47)
 have N58 := Lib.hid (hn44)
 have N59 := Lib.hid (And.intro h45 h46)
 clear hn44 h45 h46 ho47
 go_wp2
 go_ret
 exact ⟨rfl, B56.out⟩
set_option maxHeartbeats 16000000 in
theorem mca_fttf (m n : MnA) (w : World) (hlaid : Laid w) (wm : m.Ok w) (wn : n.Ok w) (p : mfew m.m = true) (q : mfew n.m = false) (a : mmay m.m = false) (b : mmay n.m = true) :
  Calls Tryd.prog 5 #[.agg m.cs.toArray, .agg n.cs.toArray] w fun e w' => e = .returned (.bool true) ∧ Below w.heap.size w w' := by
 have HLA := Lib.hid (fun (X : World) (hX : Below w.heap.size w X) => hlaid.below hX (Nat.le_refl _))
 have Fm := Lib.hid wm
 have LM := Lib.hid (MnA.len wm)
 have Fn := Lib.hid wn
 have LN := Lib.hid (MnA.len wn)
 have PM := Lib.hid p
 have PN := Lib.hid q
 have MM := Lib.hid a
 have MN := Lib.hid b
 have GM := Lib.hid (mn_good wm)
 have GN := Lib.hid (mn_good wn)
 clear hlaid wm wn p q a b
 have B1 := Lib.hid (Below.refl w.heap.size w)
 have T2n := RowAt.new w m.cs.toArray 26
 have T2 := Lib.hid T2n
 clear T2n
 have B3 := Lib.hid (B1.out.alloc B1.out.size (.cells m.cs.toArray 26))
 have T4 := Lib.hid (T2.out.old (.cells n.cs.toArray 26))
 have T5n := RowAt.new (w.alloc (.cells m.cs.toArray 26)) n.cs.toArray 26
 simp only [World.size_alloc] at T5n
 have T5 := Lib.hid T5n
 clear T5n
 have B6 := Lib.hid (B3.out.alloc B3.out.size (.cells n.cs.toArray 26))
 have F7 := Lib.hid (Fm.out.below B6.out (Nat.le_refl _))
 have F8 := Lib.hid (Fn.out.below B6.out (Nat.le_refl _))
 go_enter Tryd.func5, Tryd.ntmps5
 have C9 := Lib.hid (mcAwake ((w.alloc (.cells m.cs.toArray 26)).alloc (.cells n.cs.toArray 26)) (HLA.out _ B6.out))
 go_wp2_with fail
 refine C9.out.mono ?_
 rintro e w10 ⟨rfl, hb11⟩
 have T12 := Lib.hid (T4.out.below hb11 T4.out.lt)
 have T13 := Lib.hid (T5.out.below hb11 T5.out.lt)
 have F14 := Lib.hid (F7.out.below hb11 (Nat.le_refl _))
 have F15 := Lib.hid (F8.out.below hb11 (Nat.le_refl _))
 have B16 := Lib.hid (B6.out.trans (hb11.mono B6.out.size))
 clear hb11
 have M17 := Lib.hid (T12.out.mn LM.out)
 have C18 := Lib.hid (rfew12_any m w10 F14.out)
 rw [PM.out] at C18
 go_wp2_with (first | ((with_reducible refine wpList_load_at (o := ⟨some 13, .load 26 (.tmp 2), _, _, _, _⟩) ?e1 26 (.tmp 2) ?e2 ⟨w.heap.size, 0, none⟩ ?e3 _ M17.out ?_); (case e1 => rfl); (case e2 => rfl); (case e3 => rfl)))
 refine C18.out.mono ?_
 rintro e w19 ⟨rfl, hb20⟩
 have T21 := Lib.hid (T12.out.below hb20 T12.out.lt)
 have T22 := Lib.hid (T13.out.below hb20 T13.out.lt)
 have F23 := Lib.hid (F14.out.below hb20 (Nat.le_refl _))
 have F24 := Lib.hid (F15.out.below hb20 (Nat.le_refl _))
 have B25 := Lib.hid (B16.out.trans (hb20.mono B16.out.size))
 clear hb20
 have M26 := Lib.hid (T22.out.mn LN.out)
 have C27 := Lib.hid (rfew12_any n w19 F24.out)
 rw [PN.out] at C27
 go_wp2_with (first | ((with_reducible refine wpList_load_at (o := ⟨some 15, .load 26 (.tmp 3), _, _, _, _⟩) ?e1 26 (.tmp 3) ?e2 ⟨(w.heap.size + 1), 0, none⟩ ?e3 _ M26.out ?_); (case e1 => rfl); (case e2 => rfl); (case e3 => rfl)))
 refine C27.out.mono ?_
 rintro e w28 ⟨rfl, hb29⟩
 have T30 := Lib.hid (T21.out.below hb29 T21.out.lt)
 have T31 := Lib.hid (T22.out.below hb29 T22.out.lt)
 have F32 := Lib.hid (F23.out.below hb29 (Nat.le_refl _))
 have F33 := Lib.hid (F24.out.below hb29 (Nat.le_refl _))
 have B34 := Lib.hid (B25.out.trans (hb29.mono B25.out.size))
 clear hb29
 have M35 := Lib.hid (T30.out.mn LM.out)
 have C36 := Lib.hid (put13_any m w28 F32.out GM.out)
 unfold MPutPost at C36
 simp only [MM.out, Bool.false_eq_true, if_false] at C36
 go_wp2_with (first | ((with_reducible refine wpList_load_at (o := ⟨some 18, .load 26 (.tmp 2), _, _, _, _⟩) ?e1 26 (.tmp 2) ?e2 ⟨w.heap.size, 0, none⟩ ?e3 _ M35.out ?_); (case e1 => rfl); (case e2 => rfl); (case e3 => rfl)))
 refine C36.out.mono ?_
 rintro e w37 ⟨rfl, hb38⟩
 have T39 := Lib.hid (T30.out.below hb38 T30.out.lt)
 have T40 := Lib.hid (T31.out.below hb38 T31.out.lt)
 have F41 := Lib.hid (F32.out.below hb38 (Nat.le_refl _))
 have F42 := Lib.hid (F33.out.below hb38 (Nat.le_refl _))
 have B43 := Lib.hid (B34.out.trans (hb38.mono B34.out.size))
 clear hb38
 have M48 := Lib.hid (T40.out.mn LN.out)
 have C49 := Lib.hid (put13_any n w37 F42.out GN.out)
 unfold MPutPost at C49
 simp only [MN.out, if_true] at C49
 unfold GivesT at C49
 go_wp2_with (first | ((with_reducible refine wpList_load_at (o := ⟨some 23, .load 26 (.tmp 3), _, _, _, _⟩) ?e1 26 (.tmp 3) ?e2 ⟨(w.heap.size + 1), 0, none⟩ ?e3 _ M48.out ?_); (case e1 => rfl); (case e2 => rfl); (case e3 => rfl)))
 refine C49.out.mono ?_
 rintro e w50 ⟨A2, n2, c2, rfl, hn44, h45, h46, ho47, hb51⟩
 have T52 := Lib.hid (T39.out.below hb51 T39.out.lt)
 have T53 := Lib.hid (T40.out.below hb51 T40.out.lt)
 have F54 := Lib.hid (F41.out.below hb51 (Nat.le_refl _))
 have F55 := Lib.hid (F42.out.below hb51 (Nat.le_refl _))
 have B56 := Lib.hid (B43.out.trans (hb51.mono B43.out.size))
 clear hb51
 have Y57 := Lib.hid (BsAt.own ho47)
 have N58 := Lib.hid (hn44)
 have N59 := Lib.hid (And.intro h45 h46)
 clear hn44 h45 h46 ho47
 go_wp2
 go_ret
 exact ⟨rfl, B56.out⟩
set_option maxHeartbeats 16000000 in
theorem mca_ftft (m n : MnA) (w : World) (hlaid : Laid w) (wm : m.Ok w) (wn : n.Ok w) (p : mfew m.m = false) (q : mfew n.m = true) (a : mmay m.m = false) (b : mmay n.m = true) :
  Calls Tryd.prog 5 #[.agg m.cs.toArray, .agg n.cs.toArray] w fun e w' => e = .returned (.bool true) ∧ Below w.heap.size w w' := by
 have HLA := Lib.hid (fun (X : World) (hX : Below w.heap.size w X) => hlaid.below hX (Nat.le_refl _))
 have Fm := Lib.hid wm
 have LM := Lib.hid (MnA.len wm)
 have Fn := Lib.hid wn
 have LN := Lib.hid (MnA.len wn)
 have PM := Lib.hid p
 have PN := Lib.hid q
 have MM := Lib.hid a
 have MN := Lib.hid b
 have GM := Lib.hid (mn_good wm)
 have GN := Lib.hid (mn_good wn)
 clear hlaid wm wn p q a b
 have B1 := Lib.hid (Below.refl w.heap.size w)
 have T2n := RowAt.new w m.cs.toArray 26
 have T2 := Lib.hid T2n
 clear T2n
 have B3 := Lib.hid (B1.out.alloc B1.out.size (.cells m.cs.toArray 26))
 have T4 := Lib.hid (T2.out.old (.cells n.cs.toArray 26))
 have T5n := RowAt.new (w.alloc (.cells m.cs.toArray 26)) n.cs.toArray 26
 simp only [World.size_alloc] at T5n
 have T5 := Lib.hid T5n
 clear T5n
 have B6 := Lib.hid (B3.out.alloc B3.out.size (.cells n.cs.toArray 26))
 have F7 := Lib.hid (Fm.out.below B6.out (Nat.le_refl _))
 have F8 := Lib.hid (Fn.out.below B6.out (Nat.le_refl _))
 go_enter Tryd.func5, Tryd.ntmps5
 have C9 := Lib.hid (mcAwake ((w.alloc (.cells m.cs.toArray 26)).alloc (.cells n.cs.toArray 26)) (HLA.out _ B6.out))
 go_wp2_with fail
 refine C9.out.mono ?_
 rintro e w10 ⟨rfl, hb11⟩
 have T12 := Lib.hid (T4.out.below hb11 T4.out.lt)
 have T13 := Lib.hid (T5.out.below hb11 T5.out.lt)
 have F14 := Lib.hid (F7.out.below hb11 (Nat.le_refl _))
 have F15 := Lib.hid (F8.out.below hb11 (Nat.le_refl _))
 have B16 := Lib.hid (B6.out.trans (hb11.mono B6.out.size))
 clear hb11
 have M17 := Lib.hid (T12.out.mn LM.out)
 have C18 := Lib.hid (rfew12_any m w10 F14.out)
 rw [PM.out] at C18
 go_wp2_with (first | ((with_reducible refine wpList_load_at (o := ⟨some 13, .load 26 (.tmp 2), _, _, _, _⟩) ?e1 26 (.tmp 2) ?e2 ⟨w.heap.size, 0, none⟩ ?e3 _ M17.out ?_); (case e1 => rfl); (case e2 => rfl); (case e3 => rfl)))
 refine C18.out.mono ?_
 rintro e w19 ⟨rfl, hb20⟩
 have T21 := Lib.hid (T12.out.below hb20 T12.out.lt)
 have T22 := Lib.hid (T13.out.below hb20 T13.out.lt)
 have F23 := Lib.hid (F14.out.below hb20 (Nat.le_refl _))
 have F24 := Lib.hid (F15.out.below hb20 (Nat.le_refl _))
 have B25 := Lib.hid (B16.out.trans (hb20.mono B16.out.size))
 clear hb20
 have M26 := Lib.hid (T22.out.mn LN.out)
 have C27 := Lib.hid (rfew12_any n w19 F24.out)
 rw [PN.out] at C27
 go_wp2_with (first | ((with_reducible refine wpList_load_at (o := ⟨some 15, .load 26 (.tmp 3), _, _, _, _⟩) ?e1 26 (.tmp 3) ?e2 ⟨(w.heap.size + 1), 0, none⟩ ?e3 _ M26.out ?_); (case e1 => rfl); (case e2 => rfl); (case e3 => rfl)))
 refine C27.out.mono ?_
 rintro e w28 ⟨rfl, hb29⟩
 have T30 := Lib.hid (T21.out.below hb29 T21.out.lt)
 have T31 := Lib.hid (T22.out.below hb29 T22.out.lt)
 have F32 := Lib.hid (F23.out.below hb29 (Nat.le_refl _))
 have F33 := Lib.hid (F24.out.below hb29 (Nat.le_refl _))
 have B34 := Lib.hid (B25.out.trans (hb29.mono B25.out.size))
 clear hb29
 have M35 := Lib.hid (T30.out.mn LM.out)
 have C36 := Lib.hid (put13_any m w28 F32.out GM.out)
 unfold MPutPost at C36
 simp only [MM.out, Bool.false_eq_true, if_false] at C36
 go_wp2_with (first | ((with_reducible refine wpList_load_at (o := ⟨some 18, .load 26 (.tmp 2), _, _, _, _⟩) ?e1 26 (.tmp 2) ?e2 ⟨w.heap.size, 0, none⟩ ?e3 _ M35.out ?_); (case e1 => rfl); (case e2 => rfl); (case e3 => rfl)))
 refine C36.out.mono ?_
 rintro e w37 ⟨rfl, hb38⟩
 have T39 := Lib.hid (T30.out.below hb38 T30.out.lt)
 have T40 := Lib.hid (T31.out.below hb38 T31.out.lt)
 have F41 := Lib.hid (F32.out.below hb38 (Nat.le_refl _))
 have F42 := Lib.hid (F33.out.below hb38 (Nat.le_refl _))
 have B43 := Lib.hid (B34.out.trans (hb38.mono B34.out.size))
 clear hb38
 have M48 := Lib.hid (T40.out.mn LN.out)
 have C49 := Lib.hid (put13_any n w37 F42.out GN.out)
 unfold MPutPost at C49
 simp only [MN.out, if_true] at C49
 unfold GivesT at C49
 go_wp2_with (first | ((with_reducible refine wpList_load_at (o := ⟨some 23, .load 26 (.tmp 3), _, _, _, _⟩) ?e1 26 (.tmp 3) ?e2 ⟨(w.heap.size + 1), 0, none⟩ ?e3 _ M48.out ?_); (case e1 => rfl); (case e2 => rfl); (case e3 => rfl)))
 refine C49.out.mono ?_
 rintro e w50 ⟨A2, n2, c2, rfl, hn44, h45, h46, ho47, hb51⟩
 have T52 := Lib.hid (T39.out.below hb51 T39.out.lt)
 have T53 := Lib.hid (T40.out.below hb51 T40.out.lt)
 have F54 := Lib.hid (F41.out.below hb51 (Nat.le_refl _))
 have F55 := Lib.hid (F42.out.below hb51 (Nat.le_refl _))
 have B56 := Lib.hid (B43.out.trans (hb51.mono B43.out.size))
 clear hb51
 have Y57 := Lib.hid (BsAt.own ho47)
 have N58 := Lib.hid (hn44)
 have N59 := Lib.hid (And.intro h45 h46)
 clear hn44 h45 h46 ho47
 go_wp2
 go_ret
 exact ⟨rfl, B56.out⟩
set_option maxHeartbeats 16000000 in
theorem mca_ftff (m n : MnA) (w : World) (hlaid : Laid w) (wm : m.Ok w) (wn : n.Ok w) (p : mfew m.m = false) (q : mfew n.m = false) (a : mmay m.m = false) (b : mmay n.m = true) :
  Calls Tryd.prog 5 #[.agg m.cs.toArray, .agg n.cs.toArray] w fun e w' => e = .returned (.bool true) ∧ Below w.heap.size w w' := by
 have HLA := Lib.hid (fun (X : World) (hX : Below w.heap.size w X) => hlaid.below hX (Nat.le_refl _))
 have Fm := Lib.hid wm
 have LM := Lib.hid (MnA.len wm)
 have Fn := Lib.hid wn
 have LN := Lib.hid (MnA.len wn)
 have PM := Lib.hid p
 have PN := Lib.hid q
 have MM := Lib.hid a
 have MN := Lib.hid b
 have GM := Lib.hid (mn_good wm)
 have GN := Lib.hid (mn_good wn)
 clear hlaid wm wn p q a b
 have B1 := Lib.hid (Below.refl w.heap.size w)
 have T2n := RowAt.new w m.cs.toArray 26
 have T2 := Lib.hid T2n
 clear T2n
 have B3 := Lib.hid (B1.out.alloc B1.out.size (.cells m.cs.toArray 26))
 have T4 := Lib.hid (T2.out.old (.cells n.cs.toArray 26))
 have T5n := RowAt.new (w.alloc (.cells m.cs.toArray 26)) n.cs.toArray 26
 simp only [World.size_alloc] at T5n
 have T5 := Lib.hid T5n
 clear T5n
 have B6 := Lib.hid (B3.out.alloc B3.out.size (.cells n.cs.toArray 26))
 have F7 := Lib.hid (Fm.out.below B6.out (Nat.le_refl _))
 have F8 := Lib.hid (Fn.out.below B6.out (Nat.le_refl _))
 go_enter Tryd.func5, Tryd.ntmps5
 have C9 := Lib.hid (mcAwake ((w.alloc (.cells m.cs.toArray 26)).alloc (.cells n.cs.toArray 26)) (HLA.out _ B6.out))
 go_wp2_with fail
 refine C9.out.mono ?_
 rintro e w10 ⟨rfl, hb11⟩
 have T12 := Lib.hid (T4.out.below hb11 T4.out.lt)
 have T13 := Lib.hid (T5.out.below hb11 T5.out.lt)
 have F14 := Lib.hid (F7.out.below hb11 (Nat.le_refl _))
 have F15 := Lib.hid (F8.out.below hb11 (Nat.le_refl _))
 have B16 := Lib.hid (B6.out.trans (hb11.mono B6.out.size))
 clear hb11
 have M17 := Lib.hid (T12.out.mn LM.out)
 have C18 := Lib.hid (rfew12_any m w10 F14.out)
 rw [PM.out] at C18
 go_wp2_with (first | ((with_reducible refine wpList_load_at (o := ⟨some 13, .load 26 (.tmp 2), _, _, _, _⟩) ?e1 26 (.tmp 2) ?e2 ⟨w.heap.size, 0, none⟩ ?e3 _ M17.out ?_); (case e1 => rfl); (case e2 => rfl); (case e3 => rfl)))
 refine C18.out.mono ?_
 rintro e w19 ⟨rfl, hb20⟩
 have T21 := Lib.hid (T12.out.below hb20 T12.out.lt)
 have T22 := Lib.hid (T13.out.below hb20 T13.out.lt)
 have F23 := Lib.hid (F14.out.below hb20 (Nat.le_refl _))
 have F24 := Lib.hid (F15.out.below hb20 (Nat.le_refl _))
 have B25 := Lib.hid (B16.out.trans (hb20.mono B16.out.size))
 clear hb20
 have M26 := Lib.hid (T22.out.mn LN.out)
 have C27 := Lib.hid (rfew12_any n w19 F24.out)
 rw [PN.out] at C27
 go_wp2_with (first | ((with_reducible refine wpList_load_at (o := ⟨some 15, .load 26 (.tmp 3), _, _, _, _⟩) ?e1 26 (.tmp 3) ?e2 ⟨(w.heap.size + 1), 0, none⟩ ?e3 _ M26.out ?_); (case e1 => rfl); (case e2 => rfl); (case e3 => rfl)))
 refine C27.out.mono ?_
 rintro e w28 ⟨rfl, hb29⟩
 have T30 := Lib.hid (T21.out.below hb29 T21.out.lt)
 have T31 := Lib.hid (T22.out.below hb29 T22.out.lt)
 have F32 := Lib.hid (F23.out.below hb29 (Nat.le_refl _))
 have F33 := Lib.hid (F24.out.below hb29 (Nat.le_refl _))
 have B34 := Lib.hid (B25.out.trans (hb29.mono B25.out.size))
 clear hb29
 have M35 := Lib.hid (T30.out.mn LM.out)
 have C36 := Lib.hid (put13_any m w28 F32.out GM.out)
 unfold MPutPost at C36
 simp only [MM.out, Bool.false_eq_true, if_false] at C36
 go_wp2_with (first | ((with_reducible refine wpList_load_at (o := ⟨some 18, .load 26 (.tmp 2), _, _, _, _⟩) ?e1 26 (.tmp 2) ?e2 ⟨w.heap.size, 0, none⟩ ?e3 _ M35.out ?_); (case e1 => rfl); (case e2 => rfl); (case e3 => rfl)))
 refine C36.out.mono ?_
 rintro e w37 ⟨rfl, hb38⟩
 have T39 := Lib.hid (T30.out.below hb38 T30.out.lt)
 have T40 := Lib.hid (T31.out.below hb38 T31.out.lt)
 have F41 := Lib.hid (F32.out.below hb38 (Nat.le_refl _))
 have F42 := Lib.hid (F33.out.below hb38 (Nat.le_refl _))
 have B43 := Lib.hid (B34.out.trans (hb38.mono B34.out.size))
 clear hb38
 have M48 := Lib.hid (T40.out.mn LN.out)
 have C49 := Lib.hid (put13_any n w37 F42.out GN.out)
 unfold MPutPost at C49
 simp only [MN.out, if_true] at C49
 unfold GivesT at C49
 go_wp2_with (first | ((with_reducible refine wpList_load_at (o := ⟨some 23, .load 26 (.tmp 3), _, _, _, _⟩) ?e1 26 (.tmp 3) ?e2 ⟨(w.heap.size + 1), 0, none⟩ ?e3 _ M48.out ?_); (case e1 => rfl); (case e2 => rfl); (case e3 => rfl)))
 refine C49.out.mono ?_
 rintro e w50 ⟨A2, n2, c2, rfl, hn44, h45, h46, ho47, hb51⟩
 have T52 := Lib.hid (T39.out.below hb51 T39.out.lt)
 have T53 := Lib.hid (T40.out.below hb51 T40.out.lt)
 have F54 := Lib.hid (F41.out.below hb51 (Nat.le_refl _))
 have F55 := Lib.hid (F42.out.below hb51 (Nat.le_refl _))
 have B56 := Lib.hid (B43.out.trans (hb51.mono B43.out.size))
 clear hb51
 have Y57 := Lib.hid (BsAt.own ho47)
 have N58 := Lib.hid (hn44)
 have N59 := Lib.hid (And.intro h45 h46)
 clear hn44 h45 h46 ho47
 go_wp2
 go_ret
 exact ⟨rfl, B56.out⟩
set_option maxHeartbeats 16000000 in
theorem mca_fftt (m n : MnA) (w : World) (hlaid : Laid w) (wm : m.Ok w) (wn : n.Ok w) (p : mfew m.m = true) (q : mfew n.m = true) (a : mmay m.m = false) (b : mmay n.m = false) :
  Calls Tryd.prog 5 #[.agg m.cs.toArray, .agg n.cs.toArray] w fun e w' => e = .returned (.bool true) ∧ Below w.heap.size w w' := by
 have HLA := Lib.hid (fun (X : World) (hX : Below w.heap.size w X) => hlaid.below hX (Nat.le_refl _))
 have Fm := Lib.hid wm
 have LM := Lib.hid (MnA.len wm)
 have Fn := Lib.hid wn
 have LN := Lib.hid (MnA.len wn)
 have PM := Lib.hid p
 have PN := Lib.hid q
 have MM := Lib.hid a
 have MN := Lib.hid b
 have GM := Lib.hid (mn_good wm)
 have GN := Lib.hid (mn_good wn)
 clear hlaid wm wn p q a b
 have B1 := Lib.hid (Below.refl w.heap.size w)
 have T2n := RowAt.new w m.cs.toArray 26
 have T2 := Lib.hid T2n
 clear T2n
 have B3 := Lib.hid (B1.out.alloc B1.out.size (.cells m.cs.toArray 26))
 have T4 := Lib.hid (T2.out.old (.cells n.cs.toArray 26))
 have T5n := RowAt.new (w.alloc (.cells m.cs.toArray 26)) n.cs.toArray 26
 simp only [World.size_alloc] at T5n
 have T5 := Lib.hid T5n
 clear T5n
 have B6 := Lib.hid (B3.out.alloc B3.out.size (.cells n.cs.toArray 26))
 have F7 := Lib.hid (Fm.out.below B6.out (Nat.le_refl _))
 have F8 := Lib.hid (Fn.out.below B6.out (Nat.le_refl _))
 go_enter Tryd.func5, Tryd.ntmps5
 have C9 := Lib.hid (mcAwake ((w.alloc (.cells m.cs.toArray 26)).alloc (.cells n.cs.toArray 26)) (HLA.out _ B6.out))
 go_wp2_with fail
 refine C9.out.mono ?_
 rintro e w10 ⟨rfl, hb11⟩
 have T12 := Lib.hid (T4.out.below hb11 T4.out.lt)
 have T13 := Lib.hid (T5.out.below hb11 T5.out.lt)
 have F14 := Lib.hid (F7.out.below hb11 (Nat.le_refl _))
 have F15 := Lib.hid (F8.out.below hb11 (Nat.le_refl _))
 have B16 := Lib.hid (B6.out.trans (hb11.mono B6.out.size))
 clear hb11
 have M17 := Lib.hid (T12.out.mn LM.out)
 have C18 := Lib.hid (rfew12_any m w10 F14.out)
 rw [PM.out] at C18
 go_wp2_with (first | ((with_reducible refine wpList_load_at (o := ⟨some 13, .load 26 (.tmp 2), _, _, _, _⟩) ?e1 26 (.tmp 2) ?e2 ⟨w.heap.size, 0, none⟩ ?e3 _ M17.out ?_); (case e1 => rfl); (case e2 => rfl); (case e3 => rfl)))
 refine C18.out.mono ?_
 rintro e w19 ⟨rfl, hb20⟩
 have T21 := Lib.hid (T12.out.below hb20 T12.out.lt)
 have T22 := Lib.hid (T13.out.below hb20 T13.out.lt)
 have F23 := Lib.hid (F14.out.below hb20 (Nat.le_refl _))
 have F24 := Lib.hid (F15.out.below hb20 (Nat.le_refl _))
 have B25 := Lib.hid (B16.out.trans (hb20.mono B16.out.size))
 clear hb20
 have M26 := Lib.hid (T22.out.mn LN.out)
 have C27 := Lib.hid (rfew12_any n w19 F24.out)
 rw [PN.out] at C27
 go_wp2_with (first | ((with_reducible refine wpList_load_at (o := ⟨some 15, .load 26 (.tmp 3), _, _, _, _⟩) ?e1 26 (.tmp 3) ?e2 ⟨(w.heap.size + 1), 0, none⟩ ?e3 _ M26.out ?_); (case e1 => rfl); (case e2 => rfl); (case e3 => rfl)))
 refine C27.out.mono ?_
 rintro e w28 ⟨rfl, hb29⟩
 have T30 := Lib.hid (T21.out.below hb29 T21.out.lt)
 have T31 := Lib.hid (T22.out.below hb29 T22.out.lt)
 have F32 := Lib.hid (F23.out.below hb29 (Nat.le_refl _))
 have F33 := Lib.hid (F24.out.below hb29 (Nat.le_refl _))
 have B34 := Lib.hid (B25.out.trans (hb29.mono B25.out.size))
 clear hb29
 have M35 := Lib.hid (T30.out.mn LM.out)
 have C36 := Lib.hid (put13_any m w28 F32.out GM.out)
 unfold MPutPost at C36
 simp only [MM.out, Bool.false_eq_true, if_false] at C36
 go_wp2_with (first | ((with_reducible refine wpList_load_at (o := ⟨some 18, .load 26 (.tmp 2), _, _, _, _⟩) ?e1 26 (.tmp 2) ?e2 ⟨w.heap.size, 0, none⟩ ?e3 _ M35.out ?_); (case e1 => rfl); (case e2 => rfl); (case e3 => rfl)))
 refine C36.out.mono ?_
 rintro e w37 ⟨rfl, hb38⟩
 have T39 := Lib.hid (T30.out.below hb38 T30.out.lt)
 have T40 := Lib.hid (T31.out.below hb38 T31.out.lt)
 have F41 := Lib.hid (F32.out.below hb38 (Nat.le_refl _))
 have F42 := Lib.hid (F33.out.below hb38 (Nat.le_refl _))
 have B43 := Lib.hid (B34.out.trans (hb38.mono B34.out.size))
 clear hb38
 have M44 := Lib.hid (T40.out.mn LN.out)
 have C45 := Lib.hid (put13_any n w37 F42.out GN.out)
 unfold MPutPost at C45
 simp only [MN.out, Bool.false_eq_true, if_false] at C45
 go_wp2_with (first | ((with_reducible refine wpList_load_at (o := ⟨some 23, .load 26 (.tmp 3), _, _, _, _⟩) ?e1 26 (.tmp 3) ?e2 ⟨(w.heap.size + 1), 0, none⟩ ?e3 _ M44.out ?_); (case e1 => rfl); (case e2 => rfl); (case e3 => rfl)))
 refine C45.out.mono ?_
 rintro e w46 ⟨rfl, hb47⟩
 have T48 := Lib.hid (T39.out.below hb47 T39.out.lt)
 have T49 := Lib.hid (T40.out.below hb47 T40.out.lt)
 have F50 := Lib.hid (F41.out.below hb47 (Nat.le_refl _))
 have F51 := Lib.hid (F42.out.below hb47 (Nat.le_refl _))
 have B52 := Lib.hid (B43.out.trans (hb47.mono B43.out.size))
 clear hb47
 go_wp2
 go_ret
 exact ⟨rfl, B52.out⟩
set_option maxHeartbeats 16000000 in
theorem mca_fftf (m n : MnA) (w : World) (hlaid : Laid w) (wm : m.Ok w) (wn : n.Ok w) (p : mfew m.m = true) (q : mfew n.m = false) (a : mmay m.m = false) (b : mmay n.m = false) :
  Calls Tryd.prog 5 #[.agg m.cs.toArray, .agg n.cs.toArray] w fun e w' => e = .returned (.bool true) ∧ Below w.heap.size w w' := by
 have HLA := Lib.hid (fun (X : World) (hX : Below w.heap.size w X) => hlaid.below hX (Nat.le_refl _))
 have Fm := Lib.hid wm
 have LM := Lib.hid (MnA.len wm)
 have Fn := Lib.hid wn
 have LN := Lib.hid (MnA.len wn)
 have PM := Lib.hid p
 have PN := Lib.hid q
 have MM := Lib.hid a
 have MN := Lib.hid b
 have GM := Lib.hid (mn_good wm)
 have GN := Lib.hid (mn_good wn)
 clear hlaid wm wn p q a b
 have B1 := Lib.hid (Below.refl w.heap.size w)
 have T2n := RowAt.new w m.cs.toArray 26
 have T2 := Lib.hid T2n
 clear T2n
 have B3 := Lib.hid (B1.out.alloc B1.out.size (.cells m.cs.toArray 26))
 have T4 := Lib.hid (T2.out.old (.cells n.cs.toArray 26))
 have T5n := RowAt.new (w.alloc (.cells m.cs.toArray 26)) n.cs.toArray 26
 simp only [World.size_alloc] at T5n
 have T5 := Lib.hid T5n
 clear T5n
 have B6 := Lib.hid (B3.out.alloc B3.out.size (.cells n.cs.toArray 26))
 have F7 := Lib.hid (Fm.out.below B6.out (Nat.le_refl _))
 have F8 := Lib.hid (Fn.out.below B6.out (Nat.le_refl _))
 go_enter Tryd.func5, Tryd.ntmps5
 have C9 := Lib.hid (mcAwake ((w.alloc (.cells m.cs.toArray 26)).alloc (.cells n.cs.toArray 26)) (HLA.out _ B6.out))
 go_wp2_with fail
 refine C9.out.mono ?_
 rintro e w10 ⟨rfl, hb11⟩
 have T12 := Lib.hid (T4.out.below hb11 T4.out.lt)
 have T13 := Lib.hid (T5.out.below hb11 T5.out.lt)
 have F14 := Lib.hid (F7.out.below hb11 (Nat.le_refl _))
 have F15 := Lib.hid (F8.out.below hb11 (Nat.le_refl _))
 have B16 := Lib.hid (B6.out.trans (hb11.mono B6.out.size))
 clear hb11
 have M17 := Lib.hid (T12.out.mn LM.out)
 have C18 := Lib.hid (rfew12_any m w10 F14.out)
 rw [PM.out] at C18
 go_wp2_with (first | ((with_reducible refine wpList_load_at (o := ⟨some 13, .load 26 (.tmp 2), _, _, _, _⟩) ?e1 26 (.tmp 2) ?e2 ⟨w.heap.size, 0, none⟩ ?e3 _ M17.out ?_); (case e1 => rfl); (case e2 => rfl); (case e3 => rfl)))
 refine C18.out.mono ?_
 rintro e w19 ⟨rfl, hb20⟩
 have T21 := Lib.hid (T12.out.below hb20 T12.out.lt)
 have T22 := Lib.hid (T13.out.below hb20 T13.out.lt)
 have F23 := Lib.hid (F14.out.below hb20 (Nat.le_refl _))
 have F24 := Lib.hid (F15.out.below hb20 (Nat.le_refl _))
 have B25 := Lib.hid (B16.out.trans (hb20.mono B16.out.size))
 clear hb20
 have M26 := Lib.hid (T22.out.mn LN.out)
 have C27 := Lib.hid (rfew12_any n w19 F24.out)
 rw [PN.out] at C27
 go_wp2_with (first | ((with_reducible refine wpList_load_at (o := ⟨some 15, .load 26 (.tmp 3), _, _, _, _⟩) ?e1 26 (.tmp 3) ?e2 ⟨(w.heap.size + 1), 0, none⟩ ?e3 _ M26.out ?_); (case e1 => rfl); (case e2 => rfl); (case e3 => rfl)))
 refine C27.out.mono ?_
 rintro e w28 ⟨rfl, hb29⟩
 have T30 := Lib.hid (T21.out.below hb29 T21.out.lt)
 have T31 := Lib.hid (T22.out.below hb29 T22.out.lt)
 have F32 := Lib.hid (F23.out.below hb29 (Nat.le_refl _))
 have F33 := Lib.hid (F24.out.below hb29 (Nat.le_refl _))
 have B34 := Lib.hid (B25.out.trans (hb29.mono B25.out.size))
 clear hb29
 have M35 := Lib.hid (T30.out.mn LM.out)
 have C36 := Lib.hid (put13_any m w28 F32.out GM.out)
 unfold MPutPost at C36
 simp only [MM.out, Bool.false_eq_true, if_false] at C36
 go_wp2_with (first | ((with_reducible refine wpList_load_at (o := ⟨some 18, .load 26 (.tmp 2), _, _, _, _⟩) ?e1 26 (.tmp 2) ?e2 ⟨w.heap.size, 0, none⟩ ?e3 _ M35.out ?_); (case e1 => rfl); (case e2 => rfl); (case e3 => rfl)))
 refine C36.out.mono ?_
 rintro e w37 ⟨rfl, hb38⟩
 have T39 := Lib.hid (T30.out.below hb38 T30.out.lt)
 have T40 := Lib.hid (T31.out.below hb38 T31.out.lt)
 have F41 := Lib.hid (F32.out.below hb38 (Nat.le_refl _))
 have F42 := Lib.hid (F33.out.below hb38 (Nat.le_refl _))
 have B43 := Lib.hid (B34.out.trans (hb38.mono B34.out.size))
 clear hb38
 have M44 := Lib.hid (T40.out.mn LN.out)
 have C45 := Lib.hid (put13_any n w37 F42.out GN.out)
 unfold MPutPost at C45
 simp only [MN.out, Bool.false_eq_true, if_false] at C45
 go_wp2_with (first | ((with_reducible refine wpList_load_at (o := ⟨some 23, .load 26 (.tmp 3), _, _, _, _⟩) ?e1 26 (.tmp 3) ?e2 ⟨(w.heap.size + 1), 0, none⟩ ?e3 _ M44.out ?_); (case e1 => rfl); (case e2 => rfl); (case e3 => rfl)))
 refine C45.out.mono ?_
 rintro e w46 ⟨rfl, hb47⟩
 have T48 := Lib.hid (T39.out.below hb47 T39.out.lt)
 have T49 := Lib.hid (T40.out.below hb47 T40.out.lt)
 have F50 := Lib.hid (F41.out.below hb47 (Nat.le_refl _))
 have F51 := Lib.hid (F42.out.below hb47 (Nat.le_refl _))
 have B52 := Lib.hid (B43.out.trans (hb47.mono B43.out.size))
 clear hb47
 go_wp2
 go_ret
 exact ⟨rfl, B52.out⟩
set_option maxHeartbeats 16000000 in
theorem mca_ffft (m n : MnA) (w : World) (hlaid : Laid w) (wm : m.Ok w) (wn : n.Ok w) (p : mfew m.m = false) (q : mfew n.m = true) (a : mmay m.m = false) (b : mmay n.m = false) :
  Calls Tryd.prog 5 #[.agg m.cs.toArray, .agg n.cs.toArray] w fun e w' => e = .returned (.bool true) ∧ Below w.heap.size w w' := by
 have HLA := Lib.hid (fun (X : World) (hX : Below w.heap.size w X) => hlaid.below hX (Nat.le_refl _))
 have Fm := Lib.hid wm
 have LM := Lib.hid (MnA.len wm)
 have Fn := Lib.hid wn
 have LN := Lib.hid (MnA.len wn)
 have PM := Lib.hid p
 have PN := Lib.hid q
 have MM := Lib.hid a
 have MN := Lib.hid b
 have GM := Lib.hid (mn_good wm)
 have GN := Lib.hid (mn_good wn)
 clear hlaid wm wn p q a b
 have B1 := Lib.hid (Below.refl w.heap.size w)
 have T2n := RowAt.new w m.cs.toArray 26
 have T2 := Lib.hid T2n
 clear T2n
 have B3 := Lib.hid (B1.out.alloc B1.out.size (.cells m.cs.toArray 26))
 have T4 := Lib.hid (T2.out.old (.cells n.cs.toArray 26))
 have T5n := RowAt.new (w.alloc (.cells m.cs.toArray 26)) n.cs.toArray 26
 simp only [World.size_alloc] at T5n
 have T5 := Lib.hid T5n
 clear T5n
 have B6 := Lib.hid (B3.out.alloc B3.out.size (.cells n.cs.toArray 26))
 have F7 := Lib.hid (Fm.out.below B6.out (Nat.le_refl _))
 have F8 := Lib.hid (Fn.out.below B6.out (Nat.le_refl _))
 go_enter Tryd.func5, Tryd.ntmps5
 have C9 := Lib.hid (mcAwake ((w.alloc (.cells m.cs.toArray 26)).alloc (.cells n.cs.toArray 26)) (HLA.out _ B6.out))
 go_wp2_with fail
 refine C9.out.mono ?_
 rintro e w10 ⟨rfl, hb11⟩
 have T12 := Lib.hid (T4.out.below hb11 T4.out.lt)
 have T13 := Lib.hid (T5.out.below hb11 T5.out.lt)
 have F14 := Lib.hid (F7.out.below hb11 (Nat.le_refl _))
 have F15 := Lib.hid (F8.out.below hb11 (Nat.le_refl _))
 have B16 := Lib.hid (B6.out.trans (hb11.mono B6.out.size))
 clear hb11
 have M17 := Lib.hid (T12.out.mn LM.out)
 have C18 := Lib.hid (rfew12_any m w10 F14.out)
 rw [PM.out] at C18
 go_wp2_with (first | ((with_reducible refine wpList_load_at (o := ⟨some 13, .load 26 (.tmp 2), _, _, _, _⟩) ?e1 26 (.tmp 2) ?e2 ⟨w.heap.size, 0, none⟩ ?e3 _ M17.out ?_); (case e1 => rfl); (case e2 => rfl); (case e3 => rfl)))
 refine C18.out.mono ?_
 rintro e w19 ⟨rfl, hb20⟩
 have T21 := Lib.hid (T12.out.below hb20 T12.out.lt)
 have T22 := Lib.hid (T13.out.below hb20 T13.out.lt)
 have F23 := Lib.hid (F14.out.below hb20 (Nat.le_refl _))
 have F24 := Lib.hid (F15.out.below hb20 (Nat.le_refl _))
 have B25 := Lib.hid (B16.out.trans (hb20.mono B16.out.size))
 clear hb20
 have M26 := Lib.hid (T22.out.mn LN.out)
 have C27 := Lib.hid (rfew12_any n w19 F24.out)
 rw [PN.out] at C27
 go_wp2_with (first | ((with_reducible refine wpList_load_at (o := ⟨some 15, .load 26 (.tmp 3), _, _, _, _⟩) ?e1 26 (.tmp 3) ?e2 ⟨(w.heap.size + 1), 0, none⟩ ?e3 _ M26.out ?_); (case e1 => rfl); (case e2 => rfl); (case e3 => rfl)))
 refine C27.out.mono ?_
 rintro e w28 ⟨rfl, hb29⟩
 have T30 := Lib.hid (T21.out.below hb29 T21.out.lt)
 have T31 := Lib.hid (T22.out.below hb29 T22.out.lt)
 have F32 := Lib.hid (F23.out.below hb29 (Nat.le_refl _))
 have F33 := Lib.hid (F24.out.below hb29 (Nat.le_refl _))
 have B34 := Lib.hid (B25.out.trans (hb29.mono B25.out.size))
 clear hb29
 have M35 := Lib.hid (T30.out.mn LM.out)
 have C36 := Lib.hid (put13_any m w28 F32.out GM.out)
 unfold MPutPost at C36
 simp only [MM.out, Bool.false_eq_true, if_false] at C36
 go_wp2_with (first | ((with_reducible refine wpList_load_at (o := ⟨some 18, .load 26 (.tmp 2), _, _, _, _⟩) ?e1 26 (.tmp 2) ?e2 ⟨w.heap.size, 0, none⟩ ?e3 _ M35.out ?_); (case e1 => rfl); (case e2 => rfl); (case e3 => rfl)))
 refine C36.out.mono ?_
 rintro e w37 ⟨rfl, hb38⟩
 have T39 := Lib.hid (T30.out.below hb38 T30.out.lt)
 have T40 := Lib.hid (T31.out.below hb38 T31.out.lt)
 have F41 := Lib.hid (F32.out.below hb38 (Nat.le_refl _))
 have F42 := Lib.hid (F33.out.below hb38 (Nat.le_refl _))
 have B43 := Lib.hid (B34.out.trans (hb38.mono B34.out.size))
 clear hb38
 have M44 := Lib.hid (T40.out.mn LN.out)
 have C45 := Lib.hid (put13_any n w37 F42.out GN.out)
 unfold MPutPost at C45
 simp only [MN.out, Bool.false_eq_true, if_false] at C45
 go_wp2_with (first | ((with_reducible refine wpList_load_at (o := ⟨some 23, .load 26 (.tmp 3), _, _, _, _⟩) ?e1 26 (.tmp 3) ?e2 ⟨(w.heap.size + 1), 0, none⟩ ?e3 _ M44.out ?_); (case e1 => rfl); (case e2 => rfl); (case e3 => rfl)))
 refine C45.out.mono ?_
 rintro e w46 ⟨rfl, hb47⟩
 have T48 := Lib.hid (T39.out.below hb47 T39.out.lt)
 have T49 := Lib.hid (T40.out.below hb47 T40.out.lt)
 have F50 := Lib.hid (F41.out.below hb47 (Nat.le_refl _))
 have F51 := Lib.hid (F42.out.below hb47 (Nat.le_refl _))
 have B52 := Lib.hid (B43.out.trans (hb47.mono B43.out.size))
 clear hb47
 go_wp2
 go_ret
 exact ⟨rfl, B52.out⟩
set_option maxHeartbeats 16000000 in
theorem mca_ffff (m n : MnA) (w : World) (hlaid : Laid w) (wm : m.Ok w) (wn : n.Ok w) (p : mfew m.m = false) (q : mfew n.m = false) (a : mmay m.m = false) (b : mmay n.m = false) :
  Calls Tryd.prog 5 #[.agg m.cs.toArray, .agg n.cs.toArray] w fun e w' => e = .returned (.bool true) ∧ Below w.heap.size w w' := by
 have HLA := Lib.hid (fun (X : World) (hX : Below w.heap.size w X) => hlaid.below hX (Nat.le_refl _))
 have Fm := Lib.hid wm
 have LM := Lib.hid (MnA.len wm)
 have Fn := Lib.hid wn
 have LN := Lib.hid (MnA.len wn)
 have PM := Lib.hid p
 have PN := Lib.hid q
 have MM := Lib.hid a
 have MN := Lib.hid b
 have GM := Lib.hid (mn_good wm)
 have GN := Lib.hid (mn_good wn)
 clear hlaid wm wn p q a b
 have B1 := Lib.hid (Below.refl w.heap.size w)
 have T2n := RowAt.new w m.cs.toArray 26
 have T2 := Lib.hid T2n
 clear T2n
 have B3 := Lib.hid (B1.out.alloc B1.out.size (.cells m.cs.toArray 26))
 have T4 := Lib.hid (T2.out.old (.cells n.cs.toArray 26))
 have T5n := RowAt.new (w.alloc (.cells m.cs.toArray 26)) n.cs.toArray 26
 simp only [World.size_alloc] at T5n
 have T5 := Lib.hid T5n
 clear T5n
 have B6 := Lib.hid (B3.out.alloc B3.out.size (.cells n.cs.toArray 26))
 have F7 := Lib.hid (Fm.out.below B6.out (Nat.le_refl _))
 have F8 := Lib.hid (Fn.out.below B6.out (Nat.le_refl _))
 go_enter Tryd.func5, Tryd.ntmps5
 have C9 := Lib.hid (mcAwake ((w.alloc (.cells m.cs.toArray 26)).alloc (.cells n.cs.toArray 26)) (HLA.out _ B6.out))
 go_wp2_with fail
 refine C9.out.mono ?_
 rintro e w10 ⟨rfl, hb11⟩
 have T12 := Lib.hid (T4.out.below hb11 T4.out.lt)
 have T13 := Lib.hid (T5.out.below hb11 T5.out.lt)
 have F14 := Lib.hid (F7.out.below hb11 (Nat.le_refl _))
 have F15 := Lib.hid (F8.out.below hb11 (Nat.le_refl _))
 have B16 := Lib.hid (B6.out.trans (hb11.mono B6.out.size))
 clear hb11
 have M17 := Lib.hid (T12.out.mn LM.out)
 have C18 := Lib.hid (rfew12_any m w10 F14.out)
 rw [PM.out] at C18
 go_wp2_with (first | ((with_reducible refine wpList_load_at (o := ⟨some 13, .load 26 (.tmp 2), _, _, _, _⟩) ?e1 26 (.tmp 2) ?e2 ⟨w.heap.size, 0, none⟩ ?e3 _ M17.out ?_); (case e1 => rfl); (case e2 => rfl); (case e3 => rfl)))
 refine C18.out.mono ?_
 rintro e w19 ⟨rfl, hb20⟩
 have T21 := Lib.hid (T12.out.below hb20 T12.out.lt)
 have T22 := Lib.hid (T13.out.below hb20 T13.out.lt)
 have F23 := Lib.hid (F14.out.below hb20 (Nat.le_refl _))
 have F24 := Lib.hid (F15.out.below hb20 (Nat.le_refl _))
 have B25 := Lib.hid (B16.out.trans (hb20.mono B16.out.size))
 clear hb20
 have M26 := Lib.hid (T22.out.mn LN.out)
 have C27 := Lib.hid (rfew12_any n w19 F24.out)
 rw [PN.out] at C27
 go_wp2_with (first | ((with_reducible refine wpList_load_at (o := ⟨some 15, .load 26 (.tmp 3), _, _, _, _⟩) ?e1 26 (.tmp 3) ?e2 ⟨(w.heap.size + 1), 0, none⟩ ?e3 _ M26.out ?_); (case e1 => rfl); (case e2 => rfl); (case e3 => rfl)))
 refine C27.out.mono ?_
 rintro e w28 ⟨rfl, hb29⟩
 have T30 := Lib.hid (T21.out.below hb29 T21.out.lt)
 have T31 := Lib.hid (T22.out.below hb29 T22.out.lt)
 have F32 := Lib.hid (F23.out.below hb29 (Nat.le_refl _))
 have F33 := Lib.hid (F24.out.below hb29 (Nat.le_refl _))
 have B34 := Lib.hid (B25.out.trans (hb29.mono B25.out.size))
 clear hb29
 have M35 := Lib.hid (T30.out.mn LM.out)
 have C36 := Lib.hid (put13_any m w28 F32.out GM.out)
 unfold MPutPost at C36
 simp only [MM.out, Bool.false_eq_true, if_false] at C36
 go_wp2_with (first | ((with_reducible refine wpList_load_at (o := ⟨some 18, .load 26 (.tmp 2), _, _, _, _⟩) ?e1 26 (.tmp 2) ?e2 ⟨w.heap.size, 0, none⟩ ?e3 _ M35.out ?_); (case e1 => rfl); (case e2 => rfl); (case e3 => rfl)))
 refine C36.out.mono ?_
 rintro e w37 ⟨rfl, hb38⟩
 have T39 := Lib.hid (T30.out.below hb38 T30.out.lt)
 have T40 := Lib.hid (T31.out.below hb38 T31.out.lt)
 have F41 := Lib.hid (F32.out.below hb38 (Nat.le_refl _))
 have F42 := Lib.hid (F33.out.below hb38 (Nat.le_refl _))
 have B43 := Lib.hid (B34.out.trans (hb38.mono B34.out.size))
 clear hb38
 have M44 := Lib.hid (T40.out.mn LN.out)
 have C45 := Lib.hid (put13_any n w37 F42.out GN.out)
 unfold MPutPost at C45
 simp only [MN.out, Bool.false_eq_true, if_false] at C45
 go_wp2_with (first | ((with_reducible refine wpList_load_at (o := ⟨some 23, .load 26 (.tmp 3), _, _, _, _⟩) ?e1 26 (.tmp 3) ?e2 ⟨(w.heap.size + 1), 0, none⟩ ?e3 _ M44.out ?_); (case e1 => rfl); (case e2 => rfl); (case e3 => rfl)))
 refine C45.out.mono ?_
 rintro e w46 ⟨rfl, hb47⟩
 have T48 := Lib.hid (T39.out.below hb47 T39.out.lt)
 have T49 := Lib.hid (T40.out.below hb47 T40.out.lt)
 have F50 := Lib.hid (F41.out.below hb47 (Nat.le_refl _))
 have F51 := Lib.hid (F42.out.below hb47 (Nat.le_refl _))
 have B52 := Lib.hid (B43.out.trans (hb47.mono B43.out.size))
 clear hb47
 go_wp2
 go_ret
 exact ⟨rfl, B52.out⟩
theorem walk_manicAlone (m n : MnA) (w : World) (hlaid : Laid w) (wm : m.Ok w) (wn : n.Ok w) :
  Calls Tryd.prog 5 #[m.v, n.v] w fun e w' => e = .returned (.bool true) ∧ Below w.heap.size w w' := by
 show Calls Tryd.prog 5 #[.agg m.cs.toArray, .agg n.cs.toArray] w fun e w' => e = .returned (.bool true) ∧ Below w.heap.size w w'
 cases a : mmay m.m <;> cases b : mmay n.m <;> cases p : mfew m.m <;> cases q : mfew n.m
 ·exact mca_ffff m n w hlaid wm wn p q a b
 ·exact mca_ffft m n w hlaid wm wn p q a b
 ·exact mca_fftf m n w hlaid wm wn p q a b
 ·exact mca_fftt m n w hlaid wm wn p q a b
 ·exact mca_ftff m n w hlaid wm wn p q a b
 ·exact mca_ftft m n w hlaid wm wn p q a b
 ·exact mca_fttf m n w hlaid wm wn p q a b
 ·exact mca_fttt m n w hlaid wm wn p q a b
 ·exact mca_tfff m n w hlaid wm wn p q a b
 ·exact mca_tfft m n w hlaid wm wn p q a b
 ·exact mca_tftf m n w hlaid wm wn p q a b
 ·exact mca_tftt m n w hlaid wm wn p q a b
 ·exact mca_ttff m n w hlaid wm wn p q a b
 ·exact mca_ttft m n w hlaid wm wn p q a b
 ·exact mca_tttf m n w hlaid wm wn p q a b
 ·by_cases h : m.m = n.m
  ·exact mca_tttt1 m n w hlaid wm wn p q a b (eq_true h)
  ·exact mca_tttt0 m n w hlaid wm wn p q a b (eq_false h)
end
end Go.Proofs.YtkjimhlpbgeagaaDoor
