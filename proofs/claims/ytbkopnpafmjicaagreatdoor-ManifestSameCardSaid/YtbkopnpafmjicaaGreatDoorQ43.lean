import Derived.Test.YtbkopnpafmjicaaGreatDoorQ0
import Derived.Test.YtbkopnpafmjicaaGreatDoorQ38
import Derived.Test.YtbkopnpafmjicaaGreatDoorQ39
import Derived.Test.YtbkopnpafmjicaaGreatDoorQ17
/-
  What the functions that a law of this layer reaches answer, part 43. Nothing that was there is written.
-/
namespace Go.Proofs.YtbkopnpafmjicaaGreatDoor
set_option linter.unusedVariables false
set_option linter.unusedSimpArgs false
section
open Go.RowKit Go.Shelf WM
set_option maxRecDepth 100000
theorem mofB_is (rs : List Rc) : (mofB rs).isSome = bmay rs := by
 unfold mofB
 cases bmay rs <;> rfl
theorem mofB_yes {rs : List Rc} (h : bmay rs = true) : (mofB rs).getD mn0 = mof SH.sum (SH.sum (bbs rs)) rs := by rw [mofB, if_pos h]; rfl
set_option maxHeartbeats 16000000 in
theorem msame_a (a b : Bk) (w : World) (hlaid : Laid w) (wa : BkAt w a) (wb : BkAt w b) (p : fewB a.rs = false) :
  Calls Tryz.prog 7 #[.agg #[.slice a.A a.xs.length a.c], .agg #[.slice b.A b.xs.length b.c]] w fun e w' => e = .returned (.bool true) ∧ Below w.heap.size w w' := by
 have HLA := Lib.hid (fun (X : World) (hX : Below w.heap.size w X) => hlaid.below hX (Nat.le_refl _))
 have Fa := Lib.hid wa
 have Fb := Lib.hid wb
 have hzm := zeroMn
 rw [show mnA0.v = .agg mnA0.cs.toArray from rfl] at hzm
 have hzne : ¬ mnA0.cs.toArray = #[] := by decide
 obtain ⟨va, HVA⟩ : ∃ v, fewB a.rs = v := ⟨_, rfl⟩
 obtain ⟨vb, HVB⟩ : ∃ v, fewB b.rs = v := ⟨_, rfl⟩
 obtain ⟨ia, HIA⟩ : ∃ v, bmay a.rs = v := ⟨_, rfl⟩
 obtain ⟨ib, HIB⟩ : ∃ v, bmay b.rs = v := ⟨_, rfl⟩
 have PA := Lib.hid p
 have PB := Lib.hid HVB
 have IA := Lib.hid ((mofB_is a.rs).trans HIA)
 have IB := Lib.hid ((mofB_is b.rs).trans HIB)
 clear hlaid wa wb
 have B1 := Lib.hid (Below.refl w.heap.size w)
 have T2n := BoAt.new w (.slice a.A a.xs.length a.c)
 have T2 := Lib.hid T2n
 clear T2n
 have B3 := Lib.hid (B1.out.alloc B1.out.size (.cells #[(.slice a.A a.xs.length a.c)] 24))
 have T4 := Lib.hid (T2.out.old (.cells #[(.slice b.A b.xs.length b.c)] 24))
 have T5n := BoAt.new (w.alloc (.cells #[(.slice a.A a.xs.length a.c)] 24)) (.slice b.A b.xs.length b.c)
 simp only [World.size_alloc] at T5n
 have T5 := Lib.hid T5n
 clear T5n
 have B6 := Lib.hid (B3.out.alloc B3.out.size (.cells #[(.slice b.A b.xs.length b.c)] 24))
 have F7 := Lib.hid (Fa.out.below B6.out (Nat.le_refl _))
 have F8 := Lib.hid (Fb.out.below B6.out (Nat.le_refl _))
 go_enter Tryz.func7, Tryz.ntmps7
 have C9 := Lib.hid (mnAwake ((w.alloc (.cells #[(.slice a.A a.xs.length a.c)] 24)).alloc (.cells #[(.slice b.A b.xs.length b.c)] 24)) (HLA.out _ B6.out))
 go_wp2_with fail
 refine C9.out.mono ?_
 rintro e w10 ⟨rfl, hb11⟩
 have T12 := Lib.hid (T4.out.below hb11 T4.out.lt)
 have T13 := Lib.hid (T5.out.below hb11 T5.out.lt)
 have F14 := Lib.hid (F7.out.below hb11 (Nat.le_refl _))
 have F15 := Lib.hid (F8.out.below hb11 (Nat.le_refl _))
 have B16 := Lib.hid (B6.out.trans (hb11.mono B6.out.size))
 clear hb11
 have M17 := Lib.hid (T12.out.load)
 have C18 := Lib.hid (fewB_any a w10 F14.out)
 rw [PA.out] at C18
 go_wp2_with (first | ((with_reducible refine wpList_load_by (o := ⟨some 14, .load 24 (.tmp 2), _, _, _, _⟩) ?e1 24 (.tmp 2) ?e2 ⟨w.heap.size, 0, none⟩ ?e3 _ M17.out ?_); (case e1 => rfl); (case e2 => rfl); (case e3 => rfl)))
 refine C18.out.mono ?_
 rintro e w19 ⟨rfl, hb20⟩
 have T21 := Lib.hid (T12.out.below hb20 T12.out.lt)
 have T22 := Lib.hid (T13.out.below hb20 T13.out.lt)
 have F23 := Lib.hid (F14.out.below hb20 (Nat.le_refl _))
 have F24 := Lib.hid (F15.out.below hb20 (Nat.le_refl _))
 have B25 := Lib.hid (B16.out.trans (hb20.mono B16.out.size))
 clear hb20
 have M26 := Lib.hid (T22.out.load)
 have C27 := Lib.hid (fewB_any b w19 F24.out)
 rw [PB.out] at C27
 go_wp2_with (first | ((with_reducible refine wpList_load_by (o := ⟨some 16, .load 24 (.tmp 3), _, _, _, _⟩) ?e1 24 (.tmp 3) ?e2 ⟨(w.heap.size + 1), 0, none⟩ ?e3 _ M26.out ?_); (case e1 => rfl); (case e2 => rfl); (case e3 => rfl)))
 refine C27.out.mono ?_
 rintro e w28 ⟨rfl, hb29⟩
 have T30 := Lib.hid (T21.out.below hb29 T21.out.lt)
 have T31 := Lib.hid (T22.out.below hb29 T22.out.lt)
 have F32 := Lib.hid (F23.out.below hb29 (Nat.le_refl _))
 have F33 := Lib.hid (F24.out.below hb29 (Nat.le_refl _))
 have B34 := Lib.hid (B25.out.trans (hb29.mono B25.out.size))
 clear hb29
 have M38 := Lib.hid (T30.out.load)
 have C39 := Lib.hid (pof12_any a w28 (HLA.out _ B34.out) F32.out)
 unfold MofPost at C39
 rw [IA.out] at C39
 go_wp2_with (first | ((with_reducible refine wpList_load_by (o := ⟨some 19, .load 24 (.tmp 2), _, _, _, _⟩) ?e1 24 (.tmp 2) ?e2 ⟨w.heap.size, 0, none⟩ ?e3 _ M38.out ?_); (case e1 => rfl); (case e2 => rfl); (case e3 => rfl)))
 refine C39.out.mono ?_
 rintro e w40 ⟨d35, rfl, hd36, hk37, hb41⟩
 have T42 := Lib.hid (T30.out.below hb41 T30.out.lt)
 have T43 := Lib.hid (T31.out.below hb41 T31.out.lt)
 have F44 := Lib.hid (F32.out.below hb41 (Nat.le_refl _))
 have F45 := Lib.hid (F33.out.below hb41 (Nat.le_refl _))
 have B46 := Lib.hid (B34.out.trans (hb41.mono B34.out.size))
 clear hb41
 have E47 := Lib.hid (hd36)
 have F48 := Lib.hid (hk37)
 clear hd36 hk37
 have SZ48 := Lib.hid (mn_size F48.out)
 have SQ48 := Lib.hid (show mnA0.cs.toArray.size = d35.cs.toArray.size by rw [mnA0_size, List.size_toArray]; exact (MnA.len F48.out).symm)
 have SO48 := Lib.hid (mn_ones d35)
 have L50 := Lib.hid (MnA.len F48.out)
 have hb51 := (Below.refl w40.heap.size w40).alloc (Nat.le_refl _) (.cells d35.cs.toArray 29)
 have T52 := Lib.hid (RowAt.new w40 d35.cs.toArray 29)
 have T53 := Lib.hid (T42.out.below hb51 T42.out.lt)
 have T54 := Lib.hid (T43.out.below hb51 T43.out.lt)
 have F55 := Lib.hid (F44.out.below hb51 (Nat.le_refl _))
 have F56 := Lib.hid (F45.out.below hb51 (Nat.le_refl _))
 have F57 := Lib.hid (F48.out.below hb51 (Nat.le_refl _))
 have B58 := Lib.hid (B46.out.trans (hb51.mono B46.out.size))
 clear hb51
 have M62 := Lib.hid (T54.out.load)
 have C63 := Lib.hid (pof12_any b (w40.alloc (.cells d35.cs.toArray 29)) (HLA.out _ B58.out) F56.out)
 unfold MofPost at C63
 rw [IB.out] at C63
 go_wp2_with (first | ((with_reducible refine wpList_load_by (o := ⟨some 24, .load 24 (.tmp 3), _, _, _, _⟩) ?e1 24 (.tmp 3) ?e2 ⟨(w.heap.size + 1), 0, none⟩ ?e3 _ M62.out ?_); (case e1 => rfl); (case e2 => rfl); (case e3 => rfl)) | ((with_reducible refine wpList_store_new (o := ⟨none, .store 29 (.tmp 8) (.tmp 21), _, _, _, _⟩) ?e1 29 (.tmp 8) (.tmp 21) ?e2 ?e3 mnA0.cs.toArray d35.cs.toArray ?e4 SZ48.out SQ48.out SO48.out ?_); (case e1 => rfl); (case e2 => rfl); (case e3 => (first | rfl | exact congrArg (fun q => Value.pointer (some ⟨q, 0, none⟩)) (World.size_alloc _ _).symm)); (case e4 => rfl)))
 refine C63.out.mono ?_
 rintro e w64 ⟨d59, rfl, hd60, hk61, hb65⟩
 have T66 := Lib.hid (T53.out.below hb65 T53.out.lt)
 have T67 := Lib.hid (T54.out.below hb65 T54.out.lt)
 have T68 := Lib.hid (T52.out.below hb65 T52.out.lt)
 have F69 := Lib.hid (F55.out.below hb65 (Nat.le_refl _))
 have F70 := Lib.hid (F56.out.below hb65 (Nat.le_refl _))
 have F71 := Lib.hid (F57.out.below hb65 (Nat.le_refl _))
 have B72 := Lib.hid (B58.out.trans (hb65.mono B58.out.size))
 clear hb65
 have E73 := Lib.hid (hd60)
 have F74 := Lib.hid (hk61)
 clear hd60 hk61
 have SZ74 := Lib.hid (mn_size F74.out)
 have SQ74 := Lib.hid (show mnA0.cs.toArray.size = d59.cs.toArray.size by rw [mnA0_size, List.size_toArray]; exact (MnA.len F74.out).symm)
 have SO74 := Lib.hid (mn_ones d59)
 have L76 := Lib.hid (MnA.len F74.out)
 have hb77 := (Below.refl w64.heap.size w64).alloc (Nat.le_refl _) (.cells d59.cs.toArray 29)
 have T78 := Lib.hid (RowAt.new w64 d59.cs.toArray 29)
 have T79 := Lib.hid (T66.out.below hb77 T66.out.lt)
 have T80 := Lib.hid (T67.out.below hb77 T67.out.lt)
 have T81 := Lib.hid (T68.out.below hb77 T68.out.lt)
 have F82 := Lib.hid (F69.out.below hb77 (Nat.le_refl _))
 have F83 := Lib.hid (F70.out.below hb77 (Nat.le_refl _))
 have F84 := Lib.hid (F71.out.below hb77 (Nat.le_refl _))
 have F85 := Lib.hid (F74.out.below hb77 (Nat.le_refl _))
 have B86 := Lib.hid (B72.out.trans (hb77.mono B72.out.size))
 clear hb77
 go_wp2_with (first | ((with_reducible refine wpList_store_new (o := ⟨none, .store 29 (.tmp 10) (.tmp 26), _, _, _, _⟩) ?e1 29 (.tmp 10) (.tmp 26) ?e2 ?e3 mnA0.cs.toArray d59.cs.toArray ?e4 SZ74.out SQ74.out SO74.out ?_); (case e1 => rfl); (case e2 => rfl); (case e3 => (first | rfl | exact congrArg (fun q => Value.pointer (some ⟨q, 0, none⟩)) (World.size_alloc _ _).symm)); (case e4 => rfl)))
 go_ret
 exact ⟨rfl, B86.out⟩
set_option maxHeartbeats 16000000 in
theorem msame_b (a b : Bk) (w : World) (hlaid : Laid w) (wa : BkAt w a) (wb : BkAt w b) (p : fewB a.rs = true) (q : fewB b.rs = false) :
  Calls Tryz.prog 7 #[.agg #[.slice a.A a.xs.length a.c], .agg #[.slice b.A b.xs.length b.c]] w fun e w' => e = .returned (.bool true) ∧ Below w.heap.size w w' := by
 have HLA := Lib.hid (fun (X : World) (hX : Below w.heap.size w X) => hlaid.below hX (Nat.le_refl _))
 have Fa := Lib.hid wa
 have Fb := Lib.hid wb
 have hzm := zeroMn
 rw [show mnA0.v = .agg mnA0.cs.toArray from rfl] at hzm
 have hzne : ¬ mnA0.cs.toArray = #[] := by decide
 obtain ⟨va, HVA⟩ : ∃ v, fewB a.rs = v := ⟨_, rfl⟩
 obtain ⟨vb, HVB⟩ : ∃ v, fewB b.rs = v := ⟨_, rfl⟩
 obtain ⟨ia, HIA⟩ : ∃ v, bmay a.rs = v := ⟨_, rfl⟩
 obtain ⟨ib, HIB⟩ : ∃ v, bmay b.rs = v := ⟨_, rfl⟩
 have PA := Lib.hid p
 have PB := Lib.hid q
 have IA := Lib.hid ((mofB_is a.rs).trans HIA)
 have IB := Lib.hid ((mofB_is b.rs).trans HIB)
 clear hlaid wa wb
 have B1 := Lib.hid (Below.refl w.heap.size w)
 have T2n := BoAt.new w (.slice a.A a.xs.length a.c)
 have T2 := Lib.hid T2n
 clear T2n
 have B3 := Lib.hid (B1.out.alloc B1.out.size (.cells #[(.slice a.A a.xs.length a.c)] 24))
 have T4 := Lib.hid (T2.out.old (.cells #[(.slice b.A b.xs.length b.c)] 24))
 have T5n := BoAt.new (w.alloc (.cells #[(.slice a.A a.xs.length a.c)] 24)) (.slice b.A b.xs.length b.c)
 simp only [World.size_alloc] at T5n
 have T5 := Lib.hid T5n
 clear T5n
 have B6 := Lib.hid (B3.out.alloc B3.out.size (.cells #[(.slice b.A b.xs.length b.c)] 24))
 have F7 := Lib.hid (Fa.out.below B6.out (Nat.le_refl _))
 have F8 := Lib.hid (Fb.out.below B6.out (Nat.le_refl _))
 go_enter Tryz.func7, Tryz.ntmps7
 have C9 := Lib.hid (mnAwake ((w.alloc (.cells #[(.slice a.A a.xs.length a.c)] 24)).alloc (.cells #[(.slice b.A b.xs.length b.c)] 24)) (HLA.out _ B6.out))
 go_wp2_with fail
 refine C9.out.mono ?_
 rintro e w10 ⟨rfl, hb11⟩
 have T12 := Lib.hid (T4.out.below hb11 T4.out.lt)
 have T13 := Lib.hid (T5.out.below hb11 T5.out.lt)
 have F14 := Lib.hid (F7.out.below hb11 (Nat.le_refl _))
 have F15 := Lib.hid (F8.out.below hb11 (Nat.le_refl _))
 have B16 := Lib.hid (B6.out.trans (hb11.mono B6.out.size))
 clear hb11
 have M17 := Lib.hid (T12.out.load)
 have C18 := Lib.hid (fewB_any a w10 F14.out)
 rw [PA.out] at C18
 go_wp2_with (first | ((with_reducible refine wpList_load_by (o := ⟨some 14, .load 24 (.tmp 2), _, _, _, _⟩) ?e1 24 (.tmp 2) ?e2 ⟨w.heap.size, 0, none⟩ ?e3 _ M17.out ?_); (case e1 => rfl); (case e2 => rfl); (case e3 => rfl)))
 refine C18.out.mono ?_
 rintro e w19 ⟨rfl, hb20⟩
 have T21 := Lib.hid (T12.out.below hb20 T12.out.lt)
 have T22 := Lib.hid (T13.out.below hb20 T13.out.lt)
 have F23 := Lib.hid (F14.out.below hb20 (Nat.le_refl _))
 have F24 := Lib.hid (F15.out.below hb20 (Nat.le_refl _))
 have B25 := Lib.hid (B16.out.trans (hb20.mono B16.out.size))
 clear hb20
 have M26 := Lib.hid (T22.out.load)
 have C27 := Lib.hid (fewB_any b w19 F24.out)
 rw [PB.out] at C27
 go_wp2_with (first | ((with_reducible refine wpList_load_by (o := ⟨some 16, .load 24 (.tmp 3), _, _, _, _⟩) ?e1 24 (.tmp 3) ?e2 ⟨(w.heap.size + 1), 0, none⟩ ?e3 _ M26.out ?_); (case e1 => rfl); (case e2 => rfl); (case e3 => rfl)))
 refine C27.out.mono ?_
 rintro e w28 ⟨rfl, hb29⟩
 have T30 := Lib.hid (T21.out.below hb29 T21.out.lt)
 have T31 := Lib.hid (T22.out.below hb29 T22.out.lt)
 have F32 := Lib.hid (F23.out.below hb29 (Nat.le_refl _))
 have F33 := Lib.hid (F24.out.below hb29 (Nat.le_refl _))
 have B34 := Lib.hid (B25.out.trans (hb29.mono B25.out.size))
 clear hb29
 have M38 := Lib.hid (T30.out.load)
 have C39 := Lib.hid (pof12_any a w28 (HLA.out _ B34.out) F32.out)
 unfold MofPost at C39
 rw [IA.out] at C39
 go_wp2_with (first | ((with_reducible refine wpList_load_by (o := ⟨some 19, .load 24 (.tmp 2), _, _, _, _⟩) ?e1 24 (.tmp 2) ?e2 ⟨w.heap.size, 0, none⟩ ?e3 _ M38.out ?_); (case e1 => rfl); (case e2 => rfl); (case e3 => rfl)))
 refine C39.out.mono ?_
 rintro e w40 ⟨d35, rfl, hd36, hk37, hb41⟩
 have T42 := Lib.hid (T30.out.below hb41 T30.out.lt)
 have T43 := Lib.hid (T31.out.below hb41 T31.out.lt)
 have F44 := Lib.hid (F32.out.below hb41 (Nat.le_refl _))
 have F45 := Lib.hid (F33.out.below hb41 (Nat.le_refl _))
 have B46 := Lib.hid (B34.out.trans (hb41.mono B34.out.size))
 clear hb41
 have E47 := Lib.hid (hd36)
 have F48 := Lib.hid (hk37)
 clear hd36 hk37
 have SZ48 := Lib.hid (mn_size F48.out)
 have SQ48 := Lib.hid (show mnA0.cs.toArray.size = d35.cs.toArray.size by rw [mnA0_size, List.size_toArray]; exact (MnA.len F48.out).symm)
 have SO48 := Lib.hid (mn_ones d35)
 have L50 := Lib.hid (MnA.len F48.out)
 have hb51 := (Below.refl w40.heap.size w40).alloc (Nat.le_refl _) (.cells d35.cs.toArray 29)
 have T52 := Lib.hid (RowAt.new w40 d35.cs.toArray 29)
 have T53 := Lib.hid (T42.out.below hb51 T42.out.lt)
 have T54 := Lib.hid (T43.out.below hb51 T43.out.lt)
 have F55 := Lib.hid (F44.out.below hb51 (Nat.le_refl _))
 have F56 := Lib.hid (F45.out.below hb51 (Nat.le_refl _))
 have F57 := Lib.hid (F48.out.below hb51 (Nat.le_refl _))
 have B58 := Lib.hid (B46.out.trans (hb51.mono B46.out.size))
 clear hb51
 have M62 := Lib.hid (T54.out.load)
 have C63 := Lib.hid (pof12_any b (w40.alloc (.cells d35.cs.toArray 29)) (HLA.out _ B58.out) F56.out)
 unfold MofPost at C63
 rw [IB.out] at C63
 go_wp2_with (first | ((with_reducible refine wpList_load_by (o := ⟨some 24, .load 24 (.tmp 3), _, _, _, _⟩) ?e1 24 (.tmp 3) ?e2 ⟨(w.heap.size + 1), 0, none⟩ ?e3 _ M62.out ?_); (case e1 => rfl); (case e2 => rfl); (case e3 => rfl)) | ((with_reducible refine wpList_store_new (o := ⟨none, .store 29 (.tmp 8) (.tmp 21), _, _, _, _⟩) ?e1 29 (.tmp 8) (.tmp 21) ?e2 ?e3 mnA0.cs.toArray d35.cs.toArray ?e4 SZ48.out SQ48.out SO48.out ?_); (case e1 => rfl); (case e2 => rfl); (case e3 => (first | rfl | exact congrArg (fun q => Value.pointer (some ⟨q, 0, none⟩)) (World.size_alloc _ _).symm)); (case e4 => rfl)))
 refine C63.out.mono ?_
 rintro e w64 ⟨d59, rfl, hd60, hk61, hb65⟩
 have T66 := Lib.hid (T53.out.below hb65 T53.out.lt)
 have T67 := Lib.hid (T54.out.below hb65 T54.out.lt)
 have T68 := Lib.hid (T52.out.below hb65 T52.out.lt)
 have F69 := Lib.hid (F55.out.below hb65 (Nat.le_refl _))
 have F70 := Lib.hid (F56.out.below hb65 (Nat.le_refl _))
 have F71 := Lib.hid (F57.out.below hb65 (Nat.le_refl _))
 have B72 := Lib.hid (B58.out.trans (hb65.mono B58.out.size))
 clear hb65
 have E73 := Lib.hid (hd60)
 have F74 := Lib.hid (hk61)
 clear hd60 hk61
 have SZ74 := Lib.hid (mn_size F74.out)
 have SQ74 := Lib.hid (show mnA0.cs.toArray.size = d59.cs.toArray.size by rw [mnA0_size, List.size_toArray]; exact (MnA.len F74.out).symm)
 have SO74 := Lib.hid (mn_ones d59)
 have L76 := Lib.hid (MnA.len F74.out)
 have hb77 := (Below.refl w64.heap.size w64).alloc (Nat.le_refl _) (.cells d59.cs.toArray 29)
 have T78 := Lib.hid (RowAt.new w64 d59.cs.toArray 29)
 have T79 := Lib.hid (T66.out.below hb77 T66.out.lt)
 have T80 := Lib.hid (T67.out.below hb77 T67.out.lt)
 have T81 := Lib.hid (T68.out.below hb77 T68.out.lt)
 have F82 := Lib.hid (F69.out.below hb77 (Nat.le_refl _))
 have F83 := Lib.hid (F70.out.below hb77 (Nat.le_refl _))
 have F84 := Lib.hid (F71.out.below hb77 (Nat.le_refl _))
 have F85 := Lib.hid (F74.out.below hb77 (Nat.le_refl _))
 have B86 := Lib.hid (B72.out.trans (hb77.mono B72.out.size))
 clear hb77
 go_wp2_with (first | ((with_reducible refine wpList_store_new (o := ⟨none, .store 29 (.tmp 10) (.tmp 26), _, _, _, _⟩) ?e1 29 (.tmp 10) (.tmp 26) ?e2 ?e3 mnA0.cs.toArray d59.cs.toArray ?e4 SZ74.out SQ74.out SO74.out ?_); (case e1 => rfl); (case e2 => rfl); (case e3 => (first | rfl | exact congrArg (fun q => Value.pointer (some ⟨q, 0, none⟩)) (World.size_alloc _ _).symm)); (case e4 => rfl)))
 go_ret
 exact ⟨rfl, B86.out⟩
set_option maxHeartbeats 16000000 in
theorem msame_ia (a b : Bk) (w : World) (hlaid : Laid w) (wa : BkAt w a) (wb : BkAt w b) (p : fewB a.rs = true) (q : fewB b.rs = true) (r : bmay a.rs = false) :
  Calls Tryz.prog 7 #[.agg #[.slice a.A a.xs.length a.c], .agg #[.slice b.A b.xs.length b.c]] w fun e w' => e = .returned (.bool true) ∧ Below w.heap.size w w' := by
 have HLA := Lib.hid (fun (X : World) (hX : Below w.heap.size w X) => hlaid.below hX (Nat.le_refl _))
 have Fa := Lib.hid wa
 have Fb := Lib.hid wb
 have hzm := zeroMn
 rw [show mnA0.v = .agg mnA0.cs.toArray from rfl] at hzm
 have hzne : ¬ mnA0.cs.toArray = #[] := by decide
 obtain ⟨va, HVA⟩ : ∃ v, fewB a.rs = v := ⟨_, rfl⟩
 obtain ⟨vb, HVB⟩ : ∃ v, fewB b.rs = v := ⟨_, rfl⟩
 obtain ⟨ia, HIA⟩ : ∃ v, bmay a.rs = v := ⟨_, rfl⟩
 obtain ⟨ib, HIB⟩ : ∃ v, bmay b.rs = v := ⟨_, rfl⟩
 have PA := Lib.hid p
 have PB := Lib.hid q
 have IA := Lib.hid ((mofB_is a.rs).trans r)
 have IB := Lib.hid ((mofB_is b.rs).trans HIB)
 clear hlaid wa wb
 have B1 := Lib.hid (Below.refl w.heap.size w)
 have T2n := BoAt.new w (.slice a.A a.xs.length a.c)
 have T2 := Lib.hid T2n
 clear T2n
 have B3 := Lib.hid (B1.out.alloc B1.out.size (.cells #[(.slice a.A a.xs.length a.c)] 24))
 have T4 := Lib.hid (T2.out.old (.cells #[(.slice b.A b.xs.length b.c)] 24))
 have T5n := BoAt.new (w.alloc (.cells #[(.slice a.A a.xs.length a.c)] 24)) (.slice b.A b.xs.length b.c)
 simp only [World.size_alloc] at T5n
 have T5 := Lib.hid T5n
 clear T5n
 have B6 := Lib.hid (B3.out.alloc B3.out.size (.cells #[(.slice b.A b.xs.length b.c)] 24))
 have F7 := Lib.hid (Fa.out.below B6.out (Nat.le_refl _))
 have F8 := Lib.hid (Fb.out.below B6.out (Nat.le_refl _))
 go_enter Tryz.func7, Tryz.ntmps7
 have C9 := Lib.hid (mnAwake ((w.alloc (.cells #[(.slice a.A a.xs.length a.c)] 24)).alloc (.cells #[(.slice b.A b.xs.length b.c)] 24)) (HLA.out _ B6.out))
 go_wp2_with fail
 refine C9.out.mono ?_
 rintro e w10 ⟨rfl, hb11⟩
 have T12 := Lib.hid (T4.out.below hb11 T4.out.lt)
 have T13 := Lib.hid (T5.out.below hb11 T5.out.lt)
 have F14 := Lib.hid (F7.out.below hb11 (Nat.le_refl _))
 have F15 := Lib.hid (F8.out.below hb11 (Nat.le_refl _))
 have B16 := Lib.hid (B6.out.trans (hb11.mono B6.out.size))
 clear hb11
 have M17 := Lib.hid (T12.out.load)
 have C18 := Lib.hid (fewB_any a w10 F14.out)
 rw [PA.out] at C18
 go_wp2_with (first | ((with_reducible refine wpList_load_by (o := ⟨some 14, .load 24 (.tmp 2), _, _, _, _⟩) ?e1 24 (.tmp 2) ?e2 ⟨w.heap.size, 0, none⟩ ?e3 _ M17.out ?_); (case e1 => rfl); (case e2 => rfl); (case e3 => rfl)))
 refine C18.out.mono ?_
 rintro e w19 ⟨rfl, hb20⟩
 have T21 := Lib.hid (T12.out.below hb20 T12.out.lt)
 have T22 := Lib.hid (T13.out.below hb20 T13.out.lt)
 have F23 := Lib.hid (F14.out.below hb20 (Nat.le_refl _))
 have F24 := Lib.hid (F15.out.below hb20 (Nat.le_refl _))
 have B25 := Lib.hid (B16.out.trans (hb20.mono B16.out.size))
 clear hb20
 have M26 := Lib.hid (T22.out.load)
 have C27 := Lib.hid (fewB_any b w19 F24.out)
 rw [PB.out] at C27
 go_wp2_with (first | ((with_reducible refine wpList_load_by (o := ⟨some 16, .load 24 (.tmp 3), _, _, _, _⟩) ?e1 24 (.tmp 3) ?e2 ⟨(w.heap.size + 1), 0, none⟩ ?e3 _ M26.out ?_); (case e1 => rfl); (case e2 => rfl); (case e3 => rfl)))
 refine C27.out.mono ?_
 rintro e w28 ⟨rfl, hb29⟩
 have T30 := Lib.hid (T21.out.below hb29 T21.out.lt)
 have T31 := Lib.hid (T22.out.below hb29 T22.out.lt)
 have F32 := Lib.hid (F23.out.below hb29 (Nat.le_refl _))
 have F33 := Lib.hid (F24.out.below hb29 (Nat.le_refl _))
 have B34 := Lib.hid (B25.out.trans (hb29.mono B25.out.size))
 clear hb29
 have M38 := Lib.hid (T30.out.load)
 have C39 := Lib.hid (pof12_any a w28 (HLA.out _ B34.out) F32.out)
 unfold MofPost at C39
 rw [IA.out] at C39
 go_wp2_with (first | ((with_reducible refine wpList_load_by (o := ⟨some 19, .load 24 (.tmp 2), _, _, _, _⟩) ?e1 24 (.tmp 2) ?e2 ⟨w.heap.size, 0, none⟩ ?e3 _ M38.out ?_); (case e1 => rfl); (case e2 => rfl); (case e3 => rfl)))
 refine C39.out.mono ?_
 rintro e w40 ⟨d35, rfl, hd36, hk37, hb41⟩
 have T42 := Lib.hid (T30.out.below hb41 T30.out.lt)
 have T43 := Lib.hid (T31.out.below hb41 T31.out.lt)
 have F44 := Lib.hid (F32.out.below hb41 (Nat.le_refl _))
 have F45 := Lib.hid (F33.out.below hb41 (Nat.le_refl _))
 have B46 := Lib.hid (B34.out.trans (hb41.mono B34.out.size))
 clear hb41
 have E47 := Lib.hid (hd36)
 have F48 := Lib.hid (hk37)
 clear hd36 hk37
 have SZ48 := Lib.hid (mn_size F48.out)
 have SQ48 := Lib.hid (show mnA0.cs.toArray.size = d35.cs.toArray.size by rw [mnA0_size, List.size_toArray]; exact (MnA.len F48.out).symm)
 have SO48 := Lib.hid (mn_ones d35)
 have L50 := Lib.hid (MnA.len F48.out)
 have hb51 := (Below.refl w40.heap.size w40).alloc (Nat.le_refl _) (.cells d35.cs.toArray 29)
 have T52 := Lib.hid (RowAt.new w40 d35.cs.toArray 29)
 have T53 := Lib.hid (T42.out.below hb51 T42.out.lt)
 have T54 := Lib.hid (T43.out.below hb51 T43.out.lt)
 have F55 := Lib.hid (F44.out.below hb51 (Nat.le_refl _))
 have F56 := Lib.hid (F45.out.below hb51 (Nat.le_refl _))
 have F57 := Lib.hid (F48.out.below hb51 (Nat.le_refl _))
 have B58 := Lib.hid (B46.out.trans (hb51.mono B46.out.size))
 clear hb51
 have M62 := Lib.hid (T54.out.load)
 have C63 := Lib.hid (pof12_any b (w40.alloc (.cells d35.cs.toArray 29)) (HLA.out _ B58.out) F56.out)
 unfold MofPost at C63
 rw [IB.out] at C63
 go_wp2_with (first | ((with_reducible refine wpList_load_by (o := ⟨some 24, .load 24 (.tmp 3), _, _, _, _⟩) ?e1 24 (.tmp 3) ?e2 ⟨(w.heap.size + 1), 0, none⟩ ?e3 _ M62.out ?_); (case e1 => rfl); (case e2 => rfl); (case e3 => rfl)) | ((with_reducible refine wpList_store_new (o := ⟨none, .store 29 (.tmp 8) (.tmp 21), _, _, _, _⟩) ?e1 29 (.tmp 8) (.tmp 21) ?e2 ?e3 mnA0.cs.toArray d35.cs.toArray ?e4 SZ48.out SQ48.out SO48.out ?_); (case e1 => rfl); (case e2 => rfl); (case e3 => (first | rfl | exact congrArg (fun q => Value.pointer (some ⟨q, 0, none⟩)) (World.size_alloc _ _).symm)); (case e4 => rfl)))
 refine C63.out.mono ?_
 rintro e w64 ⟨d59, rfl, hd60, hk61, hb65⟩
 have T66 := Lib.hid (T53.out.below hb65 T53.out.lt)
 have T67 := Lib.hid (T54.out.below hb65 T54.out.lt)
 have T68 := Lib.hid (T52.out.below hb65 T52.out.lt)
 have F69 := Lib.hid (F55.out.below hb65 (Nat.le_refl _))
 have F70 := Lib.hid (F56.out.below hb65 (Nat.le_refl _))
 have F71 := Lib.hid (F57.out.below hb65 (Nat.le_refl _))
 have B72 := Lib.hid (B58.out.trans (hb65.mono B58.out.size))
 clear hb65
 have E73 := Lib.hid (hd60)
 have F74 := Lib.hid (hk61)
 clear hd60 hk61
 have SZ74 := Lib.hid (mn_size F74.out)
 have SQ74 := Lib.hid (show mnA0.cs.toArray.size = d59.cs.toArray.size by rw [mnA0_size, List.size_toArray]; exact (MnA.len F74.out).symm)
 have SO74 := Lib.hid (mn_ones d59)
 have L76 := Lib.hid (MnA.len F74.out)
 have hb77 := (Below.refl w64.heap.size w64).alloc (Nat.le_refl _) (.cells d59.cs.toArray 29)
 have T78 := Lib.hid (RowAt.new w64 d59.cs.toArray 29)
 have T79 := Lib.hid (T66.out.below hb77 T66.out.lt)
 have T80 := Lib.hid (T67.out.below hb77 T67.out.lt)
 have T81 := Lib.hid (T68.out.below hb77 T68.out.lt)
 have F82 := Lib.hid (F69.out.below hb77 (Nat.le_refl _))
 have F83 := Lib.hid (F70.out.below hb77 (Nat.le_refl _))
 have F84 := Lib.hid (F71.out.below hb77 (Nat.le_refl _))
 have F85 := Lib.hid (F74.out.below hb77 (Nat.le_refl _))
 have B86 := Lib.hid (B72.out.trans (hb77.mono B72.out.size))
 clear hb77
 go_wp2_with (first | ((with_reducible refine wpList_store_new (o := ⟨none, .store 29 (.tmp 10) (.tmp 26), _, _, _, _⟩) ?e1 29 (.tmp 10) (.tmp 26) ?e2 ?e3 mnA0.cs.toArray d59.cs.toArray ?e4 SZ74.out SQ74.out SO74.out ?_); (case e1 => rfl); (case e2 => rfl); (case e3 => (first | rfl | exact congrArg (fun q => Value.pointer (some ⟨q, 0, none⟩)) (World.size_alloc _ _).symm)); (case e4 => rfl)))
 go_ret
 exact ⟨rfl, B86.out⟩
set_option maxHeartbeats 16000000 in
theorem msame_ib (a b : Bk) (w : World) (hlaid : Laid w) (wa : BkAt w a) (wb : BkAt w b) (p : fewB a.rs = true) (q : fewB b.rs = true) (r : bmay a.rs = true) (s : bmay b.rs = false) :
  Calls Tryz.prog 7 #[.agg #[.slice a.A a.xs.length a.c], .agg #[.slice b.A b.xs.length b.c]] w fun e w' => e = .returned (.bool true) ∧ Below w.heap.size w w' := by
 have HLA := Lib.hid (fun (X : World) (hX : Below w.heap.size w X) => hlaid.below hX (Nat.le_refl _))
 have Fa := Lib.hid wa
 have Fb := Lib.hid wb
 have hzm := zeroMn
 rw [show mnA0.v = .agg mnA0.cs.toArray from rfl] at hzm
 have hzne : ¬ mnA0.cs.toArray = #[] := by decide
 obtain ⟨va, HVA⟩ : ∃ v, fewB a.rs = v := ⟨_, rfl⟩
 obtain ⟨vb, HVB⟩ : ∃ v, fewB b.rs = v := ⟨_, rfl⟩
 obtain ⟨ia, HIA⟩ : ∃ v, bmay a.rs = v := ⟨_, rfl⟩
 obtain ⟨ib, HIB⟩ : ∃ v, bmay b.rs = v := ⟨_, rfl⟩
 have PA := Lib.hid p
 have PB := Lib.hid q
 have IA := Lib.hid ((mofB_is a.rs).trans r)
 have IB := Lib.hid ((mofB_is b.rs).trans s)
 clear hlaid wa wb
 have B1 := Lib.hid (Below.refl w.heap.size w)
 have T2n := BoAt.new w (.slice a.A a.xs.length a.c)
 have T2 := Lib.hid T2n
 clear T2n
 have B3 := Lib.hid (B1.out.alloc B1.out.size (.cells #[(.slice a.A a.xs.length a.c)] 24))
 have T4 := Lib.hid (T2.out.old (.cells #[(.slice b.A b.xs.length b.c)] 24))
 have T5n := BoAt.new (w.alloc (.cells #[(.slice a.A a.xs.length a.c)] 24)) (.slice b.A b.xs.length b.c)
 simp only [World.size_alloc] at T5n
 have T5 := Lib.hid T5n
 clear T5n
 have B6 := Lib.hid (B3.out.alloc B3.out.size (.cells #[(.slice b.A b.xs.length b.c)] 24))
 have F7 := Lib.hid (Fa.out.below B6.out (Nat.le_refl _))
 have F8 := Lib.hid (Fb.out.below B6.out (Nat.le_refl _))
 go_enter Tryz.func7, Tryz.ntmps7
 have C9 := Lib.hid (mnAwake ((w.alloc (.cells #[(.slice a.A a.xs.length a.c)] 24)).alloc (.cells #[(.slice b.A b.xs.length b.c)] 24)) (HLA.out _ B6.out))
 go_wp2_with fail
 refine C9.out.mono ?_
 rintro e w10 ⟨rfl, hb11⟩
 have T12 := Lib.hid (T4.out.below hb11 T4.out.lt)
 have T13 := Lib.hid (T5.out.below hb11 T5.out.lt)
 have F14 := Lib.hid (F7.out.below hb11 (Nat.le_refl _))
 have F15 := Lib.hid (F8.out.below hb11 (Nat.le_refl _))
 have B16 := Lib.hid (B6.out.trans (hb11.mono B6.out.size))
 clear hb11
 have M17 := Lib.hid (T12.out.load)
 have C18 := Lib.hid (fewB_any a w10 F14.out)
 rw [PA.out] at C18
 go_wp2_with (first | ((with_reducible refine wpList_load_by (o := ⟨some 14, .load 24 (.tmp 2), _, _, _, _⟩) ?e1 24 (.tmp 2) ?e2 ⟨w.heap.size, 0, none⟩ ?e3 _ M17.out ?_); (case e1 => rfl); (case e2 => rfl); (case e3 => rfl)))
 refine C18.out.mono ?_
 rintro e w19 ⟨rfl, hb20⟩
 have T21 := Lib.hid (T12.out.below hb20 T12.out.lt)
 have T22 := Lib.hid (T13.out.below hb20 T13.out.lt)
 have F23 := Lib.hid (F14.out.below hb20 (Nat.le_refl _))
 have F24 := Lib.hid (F15.out.below hb20 (Nat.le_refl _))
 have B25 := Lib.hid (B16.out.trans (hb20.mono B16.out.size))
 clear hb20
 have M26 := Lib.hid (T22.out.load)
 have C27 := Lib.hid (fewB_any b w19 F24.out)
 rw [PB.out] at C27
 go_wp2_with (first | ((with_reducible refine wpList_load_by (o := ⟨some 16, .load 24 (.tmp 3), _, _, _, _⟩) ?e1 24 (.tmp 3) ?e2 ⟨(w.heap.size + 1), 0, none⟩ ?e3 _ M26.out ?_); (case e1 => rfl); (case e2 => rfl); (case e3 => rfl)))
 refine C27.out.mono ?_
 rintro e w28 ⟨rfl, hb29⟩
 have T30 := Lib.hid (T21.out.below hb29 T21.out.lt)
 have T31 := Lib.hid (T22.out.below hb29 T22.out.lt)
 have F32 := Lib.hid (F23.out.below hb29 (Nat.le_refl _))
 have F33 := Lib.hid (F24.out.below hb29 (Nat.le_refl _))
 have B34 := Lib.hid (B25.out.trans (hb29.mono B25.out.size))
 clear hb29
 have M38 := Lib.hid (T30.out.load)
 have C39 := Lib.hid (pof12_any a w28 (HLA.out _ B34.out) F32.out)
 unfold MofPost at C39
 rw [IA.out] at C39
 go_wp2_with (first | ((with_reducible refine wpList_load_by (o := ⟨some 19, .load 24 (.tmp 2), _, _, _, _⟩) ?e1 24 (.tmp 2) ?e2 ⟨w.heap.size, 0, none⟩ ?e3 _ M38.out ?_); (case e1 => rfl); (case e2 => rfl); (case e3 => rfl)))
 refine C39.out.mono ?_
 rintro e w40 ⟨d35, rfl, hd36, hk37, hb41⟩
 have T42 := Lib.hid (T30.out.below hb41 T30.out.lt)
 have T43 := Lib.hid (T31.out.below hb41 T31.out.lt)
 have F44 := Lib.hid (F32.out.below hb41 (Nat.le_refl _))
 have F45 := Lib.hid (F33.out.below hb41 (Nat.le_refl _))
 have B46 := Lib.hid (B34.out.trans (hb41.mono B34.out.size))
 clear hb41
 have E47 := Lib.hid (hd36)
 have F48 := Lib.hid (hk37)
 clear hd36 hk37
 have SZ48 := Lib.hid (mn_size F48.out)
 have SQ48 := Lib.hid (show mnA0.cs.toArray.size = d35.cs.toArray.size by rw [mnA0_size, List.size_toArray]; exact (MnA.len F48.out).symm)
 have SO48 := Lib.hid (mn_ones d35)
 have L50 := Lib.hid (MnA.len F48.out)
 have hb51 := (Below.refl w40.heap.size w40).alloc (Nat.le_refl _) (.cells d35.cs.toArray 29)
 have T52 := Lib.hid (RowAt.new w40 d35.cs.toArray 29)
 have T53 := Lib.hid (T42.out.below hb51 T42.out.lt)
 have T54 := Lib.hid (T43.out.below hb51 T43.out.lt)
 have F55 := Lib.hid (F44.out.below hb51 (Nat.le_refl _))
 have F56 := Lib.hid (F45.out.below hb51 (Nat.le_refl _))
 have F57 := Lib.hid (F48.out.below hb51 (Nat.le_refl _))
 have B58 := Lib.hid (B46.out.trans (hb51.mono B46.out.size))
 clear hb51
 have M62 := Lib.hid (T54.out.load)
 have C63 := Lib.hid (pof12_any b (w40.alloc (.cells d35.cs.toArray 29)) (HLA.out _ B58.out) F56.out)
 unfold MofPost at C63
 rw [IB.out] at C63
 go_wp2_with (first | ((with_reducible refine wpList_load_by (o := ⟨some 24, .load 24 (.tmp 3), _, _, _, _⟩) ?e1 24 (.tmp 3) ?e2 ⟨(w.heap.size + 1), 0, none⟩ ?e3 _ M62.out ?_); (case e1 => rfl); (case e2 => rfl); (case e3 => rfl)) | ((with_reducible refine wpList_store_new (o := ⟨none, .store 29 (.tmp 8) (.tmp 21), _, _, _, _⟩) ?e1 29 (.tmp 8) (.tmp 21) ?e2 ?e3 mnA0.cs.toArray d35.cs.toArray ?e4 SZ48.out SQ48.out SO48.out ?_); (case e1 => rfl); (case e2 => rfl); (case e3 => (first | rfl | exact congrArg (fun q => Value.pointer (some ⟨q, 0, none⟩)) (World.size_alloc _ _).symm)); (case e4 => rfl)))
 refine C63.out.mono ?_
 rintro e w64 ⟨d59, rfl, hd60, hk61, hb65⟩
 have T66 := Lib.hid (T53.out.below hb65 T53.out.lt)
 have T67 := Lib.hid (T54.out.below hb65 T54.out.lt)
 have T68 := Lib.hid (T52.out.below hb65 T52.out.lt)
 have F69 := Lib.hid (F55.out.below hb65 (Nat.le_refl _))
 have F70 := Lib.hid (F56.out.below hb65 (Nat.le_refl _))
 have F71 := Lib.hid (F57.out.below hb65 (Nat.le_refl _))
 have B72 := Lib.hid (B58.out.trans (hb65.mono B58.out.size))
 clear hb65
 have E73 := Lib.hid (hd60)
 have F74 := Lib.hid (hk61)
 clear hd60 hk61
 have SZ74 := Lib.hid (mn_size F74.out)
 have SQ74 := Lib.hid (show mnA0.cs.toArray.size = d59.cs.toArray.size by rw [mnA0_size, List.size_toArray]; exact (MnA.len F74.out).symm)
 have SO74 := Lib.hid (mn_ones d59)
 have L76 := Lib.hid (MnA.len F74.out)
 have hb77 := (Below.refl w64.heap.size w64).alloc (Nat.le_refl _) (.cells d59.cs.toArray 29)
 have T78 := Lib.hid (RowAt.new w64 d59.cs.toArray 29)
 have T79 := Lib.hid (T66.out.below hb77 T66.out.lt)
 have T80 := Lib.hid (T67.out.below hb77 T67.out.lt)
 have T81 := Lib.hid (T68.out.below hb77 T68.out.lt)
 have F82 := Lib.hid (F69.out.below hb77 (Nat.le_refl _))
 have F83 := Lib.hid (F70.out.below hb77 (Nat.le_refl _))
 have F84 := Lib.hid (F71.out.below hb77 (Nat.le_refl _))
 have F85 := Lib.hid (F74.out.below hb77 (Nat.le_refl _))
 have B86 := Lib.hid (B72.out.trans (hb77.mono B72.out.size))
 clear hb77
 go_wp2_with (first | ((with_reducible refine wpList_store_new (o := ⟨none, .store 29 (.tmp 10) (.tmp 26), _, _, _, _⟩) ?e1 29 (.tmp 10) (.tmp 26) ?e2 ?e3 mnA0.cs.toArray d59.cs.toArray ?e4 SZ74.out SQ74.out SO74.out ?_); (case e1 => rfl); (case e2 => rfl); (case e3 => (first | rfl | exact congrArg (fun q => Value.pointer (some ⟨q, 0, none⟩)) (World.size_alloc _ _).symm)); (case e4 => rfl)))
 go_ret
 exact ⟨rfl, B86.out⟩
set_option maxHeartbeats 16000000 in
theorem msame_eq (a b : Bk) (w : World) (hlaid : Laid w) (wa : BkAt w a) (wb : BkAt w b) (p : fewB a.rs = true) (q : fewB b.rs = true) (r : bmay a.rs = true) (s : bmay b.rs = true) (v : bsame a.rs b.rs = true) :
  Calls Tryz.prog 7 #[.agg #[.slice a.A a.xs.length a.c], .agg #[.slice b.A b.xs.length b.c]] w fun e w' => e = .returned (.bool true) ∧ Below w.heap.size w w' := by
 have HLA := Lib.hid (fun (X : World) (hX : Below w.heap.size w X) => hlaid.below hX (Nat.le_refl _))
 have Fa := Lib.hid wa
 have Fb := Lib.hid wb
 have hzm := zeroMn
 rw [show mnA0.v = .agg mnA0.cs.toArray from rfl] at hzm
 have hzne : ¬ mnA0.cs.toArray = #[] := by decide
 have PA := Lib.hid p
 have PB := Lib.hid q
 have IA := Lib.hid ((mofB_is a.rs).trans r)
 have IB := Lib.hid ((mofB_is b.rs).trans s)
 have HSM := Lib.hid (fun (x : MnA) (h : x.m = (mofB a.rs).getD mn0) => (mof_few (h.trans (mofB_yes r)) r).2.1)
 have HEQ := Lib.hid (fun (x y : MnA) (h : x.m = (mofB a.rs).getD mn0) (k : y.m = (mofB b.rs).getD mn0) => show decide (x.m = y.m) = true ∧ True from ⟨by
  rw [h, k, bsame_iff.1 v]
  exact decide_eq_true rfl, trivial⟩)
 have VS := Lib.hid v
 clear hlaid wa wb
 have B1 := Lib.hid (Below.refl w.heap.size w)
 have T2n := BoAt.new w (.slice a.A a.xs.length a.c)
 have T2 := Lib.hid T2n
 clear T2n
 have B3 := Lib.hid (B1.out.alloc B1.out.size (.cells #[(.slice a.A a.xs.length a.c)] 24))
 have T4 := Lib.hid (T2.out.old (.cells #[(.slice b.A b.xs.length b.c)] 24))
 have T5n := BoAt.new (w.alloc (.cells #[(.slice a.A a.xs.length a.c)] 24)) (.slice b.A b.xs.length b.c)
 simp only [World.size_alloc] at T5n
 have T5 := Lib.hid T5n
 clear T5n
 have B6 := Lib.hid (B3.out.alloc B3.out.size (.cells #[(.slice b.A b.xs.length b.c)] 24))
 have F7 := Lib.hid (Fa.out.below B6.out (Nat.le_refl _))
 have F8 := Lib.hid (Fb.out.below B6.out (Nat.le_refl _))
 go_enter Tryz.func7, Tryz.ntmps7
 have C9 := Lib.hid (mnAwake ((w.alloc (.cells #[(.slice a.A a.xs.length a.c)] 24)).alloc (.cells #[(.slice b.A b.xs.length b.c)] 24)) (HLA.out _ B6.out))
 go_wp2_with fail
 refine C9.out.mono ?_
 rintro e w10 ⟨rfl, hb11⟩
 have T12 := Lib.hid (T4.out.below hb11 T4.out.lt)
 have T13 := Lib.hid (T5.out.below hb11 T5.out.lt)
 have F14 := Lib.hid (F7.out.below hb11 (Nat.le_refl _))
 have F15 := Lib.hid (F8.out.below hb11 (Nat.le_refl _))
 have B16 := Lib.hid (B6.out.trans (hb11.mono B6.out.size))
 clear hb11
 have M17 := Lib.hid (T12.out.load)
 have C18 := Lib.hid (fewB_any a w10 F14.out)
 rw [PA.out] at C18
 go_wp2_with (first | ((with_reducible refine wpList_load_by (o := ⟨some 14, .load 24 (.tmp 2), _, _, _, _⟩) ?e1 24 (.tmp 2) ?e2 ⟨w.heap.size, 0, none⟩ ?e3 _ M17.out ?_); (case e1 => rfl); (case e2 => rfl); (case e3 => rfl)))
 refine C18.out.mono ?_
 rintro e w19 ⟨rfl, hb20⟩
 have T21 := Lib.hid (T12.out.below hb20 T12.out.lt)
 have T22 := Lib.hid (T13.out.below hb20 T13.out.lt)
 have F23 := Lib.hid (F14.out.below hb20 (Nat.le_refl _))
 have F24 := Lib.hid (F15.out.below hb20 (Nat.le_refl _))
 have B25 := Lib.hid (B16.out.trans (hb20.mono B16.out.size))
 clear hb20
 have M26 := Lib.hid (T22.out.load)
 have C27 := Lib.hid (fewB_any b w19 F24.out)
 rw [PB.out] at C27
 go_wp2_with (first | ((with_reducible refine wpList_load_by (o := ⟨some 16, .load 24 (.tmp 3), _, _, _, _⟩) ?e1 24 (.tmp 3) ?e2 ⟨(w.heap.size + 1), 0, none⟩ ?e3 _ M26.out ?_); (case e1 => rfl); (case e2 => rfl); (case e3 => rfl)))
 refine C27.out.mono ?_
 rintro e w28 ⟨rfl, hb29⟩
 have T30 := Lib.hid (T21.out.below hb29 T21.out.lt)
 have T31 := Lib.hid (T22.out.below hb29 T22.out.lt)
 have F32 := Lib.hid (F23.out.below hb29 (Nat.le_refl _))
 have F33 := Lib.hid (F24.out.below hb29 (Nat.le_refl _))
 have B34 := Lib.hid (B25.out.trans (hb29.mono B25.out.size))
 clear hb29
 have M38 := Lib.hid (T30.out.load)
 have C39 := Lib.hid (pof12_any a w28 (HLA.out _ B34.out) F32.out)
 unfold MofPost at C39
 rw [IA.out] at C39
 go_wp2_with (first | ((with_reducible refine wpList_load_by (o := ⟨some 19, .load 24 (.tmp 2), _, _, _, _⟩) ?e1 24 (.tmp 2) ?e2 ⟨w.heap.size, 0, none⟩ ?e3 _ M38.out ?_); (case e1 => rfl); (case e2 => rfl); (case e3 => rfl)))
 refine C39.out.mono ?_
 rintro e w40 ⟨d35, rfl, hd36, hk37, hb41⟩
 have T42 := Lib.hid (T30.out.below hb41 T30.out.lt)
 have T43 := Lib.hid (T31.out.below hb41 T31.out.lt)
 have F44 := Lib.hid (F32.out.below hb41 (Nat.le_refl _))
 have F45 := Lib.hid (F33.out.below hb41 (Nat.le_refl _))
 have B46 := Lib.hid (B34.out.trans (hb41.mono B34.out.size))
 clear hb41
 have E47 := Lib.hid (hd36)
 have F48 := Lib.hid (hk37)
 clear hd36 hk37
 have SZ48 := Lib.hid (mn_size F48.out)
 have SQ48 := Lib.hid (show mnA0.cs.toArray.size = d35.cs.toArray.size by rw [mnA0_size, List.size_toArray]; exact (MnA.len F48.out).symm)
 have SO48 := Lib.hid (mn_ones d35)
 have L50 := Lib.hid (MnA.len F48.out)
 have hb51 := (Below.refl w40.heap.size w40).alloc (Nat.le_refl _) (.cells d35.cs.toArray 29)
 have T52 := Lib.hid (RowAt.new w40 d35.cs.toArray 29)
 have T53 := Lib.hid (T42.out.below hb51 T42.out.lt)
 have T54 := Lib.hid (T43.out.below hb51 T43.out.lt)
 have F55 := Lib.hid (F44.out.below hb51 (Nat.le_refl _))
 have F56 := Lib.hid (F45.out.below hb51 (Nat.le_refl _))
 have F57 := Lib.hid (F48.out.below hb51 (Nat.le_refl _))
 have B58 := Lib.hid (B46.out.trans (hb51.mono B46.out.size))
 clear hb51
 have M62 := Lib.hid (T54.out.load)
 have C63 := Lib.hid (pof12_any b (w40.alloc (.cells d35.cs.toArray 29)) (HLA.out _ B58.out) F56.out)
 unfold MofPost at C63
 rw [IB.out] at C63
 go_wp2_with (first | ((with_reducible refine wpList_load_by (o := ⟨some 24, .load 24 (.tmp 3), _, _, _, _⟩) ?e1 24 (.tmp 3) ?e2 ⟨(w.heap.size + 1), 0, none⟩ ?e3 _ M62.out ?_); (case e1 => rfl); (case e2 => rfl); (case e3 => rfl)) | ((with_reducible refine wpList_store_new (o := ⟨none, .store 29 (.tmp 8) (.tmp 21), _, _, _, _⟩) ?e1 29 (.tmp 8) (.tmp 21) ?e2 ?e3 mnA0.cs.toArray d35.cs.toArray ?e4 SZ48.out SQ48.out SO48.out ?_); (case e1 => rfl); (case e2 => rfl); (case e3 => (first | rfl | exact congrArg (fun q => Value.pointer (some ⟨q, 0, none⟩)) (World.size_alloc _ _).symm)); (case e4 => rfl)))
 refine C63.out.mono ?_
 rintro e w64 ⟨d59, rfl, hd60, hk61, hb65⟩
 have T66 := Lib.hid (T53.out.below hb65 T53.out.lt)
 have T67 := Lib.hid (T54.out.below hb65 T54.out.lt)
 have T68 := Lib.hid (T52.out.below hb65 T52.out.lt)
 have F69 := Lib.hid (F55.out.below hb65 (Nat.le_refl _))
 have F70 := Lib.hid (F56.out.below hb65 (Nat.le_refl _))
 have F71 := Lib.hid (F57.out.below hb65 (Nat.le_refl _))
 have B72 := Lib.hid (B58.out.trans (hb65.mono B58.out.size))
 clear hb65
 have E73 := Lib.hid (hd60)
 have F74 := Lib.hid (hk61)
 clear hd60 hk61
 have SZ74 := Lib.hid (mn_size F74.out)
 have SQ74 := Lib.hid (show mnA0.cs.toArray.size = d59.cs.toArray.size by rw [mnA0_size, List.size_toArray]; exact (MnA.len F74.out).symm)
 have SO74 := Lib.hid (mn_ones d59)
 have L76 := Lib.hid (MnA.len F74.out)
 have hb77 := (Below.refl w64.heap.size w64).alloc (Nat.le_refl _) (.cells d59.cs.toArray 29)
 have T78 := Lib.hid (RowAt.new w64 d59.cs.toArray 29)
 have T79 := Lib.hid (T66.out.below hb77 T66.out.lt)
 have T80 := Lib.hid (T67.out.below hb77 T67.out.lt)
 have T81 := Lib.hid (T68.out.below hb77 T68.out.lt)
 have F82 := Lib.hid (F69.out.below hb77 (Nat.le_refl _))
 have F83 := Lib.hid (F70.out.below hb77 (Nat.le_refl _))
 have F84 := Lib.hid (F71.out.below hb77 (Nat.le_refl _))
 have F85 := Lib.hid (F74.out.below hb77 (Nat.le_refl _))
 have B86 := Lib.hid (B72.out.trans (hb77.mono B72.out.size))
 clear hb77
 have HXY := Lib.hid (HEQ.out d35 d59 E47.out E73.out)
 have M87 := Lib.hid (T81.out.mn L50.out)
 have M88 := Lib.hid (T78.out.mn L76.out)
 have C89 := Lib.hid ((show Calls Tryz.prog 17 #[.agg d35.cs.toArray, .agg d59.cs.toArray] (w64.alloc (.cells d59.cs.toArray 29)) fun e w' => e = .returned (.bool true) ∧ Below ((w64.alloc (.cells d59.cs.toArray 29))).heap.size (w64.alloc (.cells d59.cs.toArray 29)) w' from by have h := psame12_any d35 d59 (w64.alloc (.cells d59.cs.toArray 29)) F84.out F85.out (HSM.out d35 E47.out); rw [HXY.out.1] at h; exact h))
 go_wp2_with (first | ((with_reducible refine wpList_load_at (o := ⟨some 47, .load 29 (.tmp 8), _, _, _, _⟩) ?e1 29 (.tmp 8) ?e2 ⟨w40.heap.size, 0, none⟩ ?e3 _ M87.out ?_); (case e1 => rfl); (case e2 => rfl); (case e3 => rfl)) | ((with_reducible refine wpList_load_at (o := ⟨some 48, .load 29 (.tmp 10), _, _, _, _⟩) ?e1 29 (.tmp 10) ?e2 ⟨w64.heap.size, 0, none⟩ ?e3 _ M88.out ?_); (case e1 => rfl); (case e2 => rfl); (case e3 => rfl)) | ((with_reducible refine wpList_store_new (o := ⟨none, .store 29 (.tmp 10) (.tmp 26), _, _, _, _⟩) ?e1 29 (.tmp 10) (.tmp 26) ?e2 ?e3 mnA0.cs.toArray d59.cs.toArray ?e4 SZ74.out SQ74.out SO74.out ?_); (case e1 => rfl); (case e2 => rfl); (case e3 => (first | rfl | exact congrArg (fun q => Value.pointer (some ⟨q, 0, none⟩)) (World.size_alloc _ _).symm)); (case e4 => rfl)))
 refine C89.out.mono ?_
 rintro e w90 ⟨rfl, hb91⟩
 have T92 := Lib.hid (T79.out.below hb91 T79.out.lt)
 have T93 := Lib.hid (T80.out.below hb91 T80.out.lt)
 have T94 := Lib.hid (T81.out.below hb91 T81.out.lt)
 have T95 := Lib.hid (T78.out.below hb91 T78.out.lt)
 have F96 := Lib.hid (F82.out.below hb91 (Nat.le_refl _))
 have F97 := Lib.hid (F83.out.below hb91 (Nat.le_refl _))
 have F98 := Lib.hid (F84.out.below hb91 (Nat.le_refl _))
 have F99 := Lib.hid (F85.out.below hb91 (Nat.le_refl _))
 have B100 := Lib.hid (B86.out.trans (hb91.mono B86.out.size))
 clear hb91
 have M101 := Lib.hid (T92.out.load)
 have M102 := Lib.hid (T93.out.load)
 have C103 := Lib.hid (bsame_any a b w90 F96.out F97.out)
 rw [VS.out] at C103
 go_wp2_with (first | ((with_reducible refine wpList_load_by (o := ⟨some 50, .load 24 (.tmp 2), _, _, _, _⟩) ?e1 24 (.tmp 2) ?e2 ⟨w.heap.size, 0, none⟩ ?e3 _ M101.out ?_); (case e1 => rfl); (case e2 => rfl); (case e3 => rfl)) | ((with_reducible refine wpList_load_by (o := ⟨some 51, .load 24 (.tmp 3), _, _, _, _⟩) ?e1 24 (.tmp 3) ?e2 ⟨(w.heap.size + 1), 0, none⟩ ?e3 _ M102.out ?_); (case e1 => rfl); (case e2 => rfl); (case e3 => rfl)))
 refine C103.out.mono ?_
 rintro e w104 ⟨rfl, hb105⟩
 have T106 := Lib.hid (T92.out.below hb105 T92.out.lt)
 have T107 := Lib.hid (T93.out.below hb105 T93.out.lt)
 have T108 := Lib.hid (T94.out.below hb105 T94.out.lt)
 have T109 := Lib.hid (T95.out.below hb105 T95.out.lt)
 have F110 := Lib.hid (F96.out.below hb105 (Nat.le_refl _))
 have F111 := Lib.hid (F97.out.below hb105 (Nat.le_refl _))
 have F112 := Lib.hid (F98.out.below hb105 (Nat.le_refl _))
 have F113 := Lib.hid (F99.out.below hb105 (Nat.le_refl _))
 have B114 := Lib.hid (B100.out.trans (hb105.mono B100.out.size))
 clear hb105
 go_wp2
 go_ret
 exact ⟨rfl, B114.out⟩
set_option maxHeartbeats 16000000 in
theorem msame_ne (a b : Bk) (w : World) (hlaid : Laid w) (wa : BkAt w a) (wb : BkAt w b) (p : fewB a.rs = true) (q : fewB b.rs = true) (r : bmay a.rs = true) (s : bmay b.rs = true) (v : bsame a.rs b.rs = false) (u : ¬ (mofB a.rs).getD mn0 = (mofB b.rs).getD mn0) :
  Calls Tryz.prog 7 #[.agg #[.slice a.A a.xs.length a.c], .agg #[.slice b.A b.xs.length b.c]] w fun e w' => e = .returned (.bool true) ∧ Below w.heap.size w w' := by
 have HLA := Lib.hid (fun (X : World) (hX : Below w.heap.size w X) => hlaid.below hX (Nat.le_refl _))
 have Fa := Lib.hid wa
 have Fb := Lib.hid wb
 have hzm := zeroMn
 rw [show mnA0.v = .agg mnA0.cs.toArray from rfl] at hzm
 have hzne : ¬ mnA0.cs.toArray = #[] := by decide
 have PA := Lib.hid p
 have PB := Lib.hid q
 have IA := Lib.hid ((mofB_is a.rs).trans r)
 have IB := Lib.hid ((mofB_is b.rs).trans s)
 have HSM := Lib.hid (fun (x : MnA) (h : x.m = (mofB a.rs).getD mn0) => (mof_few (h.trans (mofB_yes r)) r).2.1)
 have HEQ := Lib.hid (fun (x y : MnA) (h : x.m = (mofB a.rs).getD mn0) (k : y.m = (mofB b.rs).getD mn0) => show decide (x.m = y.m) = false ∧ True from ⟨by
  rw [h, k]
  exact decide_eq_false u, trivial⟩)
 have VS := Lib.hid v
 clear hlaid wa wb
 have B1 := Lib.hid (Below.refl w.heap.size w)
 have T2n := BoAt.new w (.slice a.A a.xs.length a.c)
 have T2 := Lib.hid T2n
 clear T2n
 have B3 := Lib.hid (B1.out.alloc B1.out.size (.cells #[(.slice a.A a.xs.length a.c)] 24))
 have T4 := Lib.hid (T2.out.old (.cells #[(.slice b.A b.xs.length b.c)] 24))
 have T5n := BoAt.new (w.alloc (.cells #[(.slice a.A a.xs.length a.c)] 24)) (.slice b.A b.xs.length b.c)
 simp only [World.size_alloc] at T5n
 have T5 := Lib.hid T5n
 clear T5n
 have B6 := Lib.hid (B3.out.alloc B3.out.size (.cells #[(.slice b.A b.xs.length b.c)] 24))
 have F7 := Lib.hid (Fa.out.below B6.out (Nat.le_refl _))
 have F8 := Lib.hid (Fb.out.below B6.out (Nat.le_refl _))
 go_enter Tryz.func7, Tryz.ntmps7
 have C9 := Lib.hid (mnAwake ((w.alloc (.cells #[(.slice a.A a.xs.length a.c)] 24)).alloc (.cells #[(.slice b.A b.xs.length b.c)] 24)) (HLA.out _ B6.out))
 go_wp2_with fail
 refine C9.out.mono ?_
 rintro e w10 ⟨rfl, hb11⟩
 have T12 := Lib.hid (T4.out.below hb11 T4.out.lt)
 have T13 := Lib.hid (T5.out.below hb11 T5.out.lt)
 have F14 := Lib.hid (F7.out.below hb11 (Nat.le_refl _))
 have F15 := Lib.hid (F8.out.below hb11 (Nat.le_refl _))
 have B16 := Lib.hid (B6.out.trans (hb11.mono B6.out.size))
 clear hb11
 have M17 := Lib.hid (T12.out.load)
 have C18 := Lib.hid (fewB_any a w10 F14.out)
 rw [PA.out] at C18
 go_wp2_with (first | ((with_reducible refine wpList_load_by (o := ⟨some 14, .load 24 (.tmp 2), _, _, _, _⟩) ?e1 24 (.tmp 2) ?e2 ⟨w.heap.size, 0, none⟩ ?e3 _ M17.out ?_); (case e1 => rfl); (case e2 => rfl); (case e3 => rfl)))
 refine C18.out.mono ?_
 rintro e w19 ⟨rfl, hb20⟩
 have T21 := Lib.hid (T12.out.below hb20 T12.out.lt)
 have T22 := Lib.hid (T13.out.below hb20 T13.out.lt)
 have F23 := Lib.hid (F14.out.below hb20 (Nat.le_refl _))
 have F24 := Lib.hid (F15.out.below hb20 (Nat.le_refl _))
 have B25 := Lib.hid (B16.out.trans (hb20.mono B16.out.size))
 clear hb20
 have M26 := Lib.hid (T22.out.load)
 have C27 := Lib.hid (fewB_any b w19 F24.out)
 rw [PB.out] at C27
 go_wp2_with (first | ((with_reducible refine wpList_load_by (o := ⟨some 16, .load 24 (.tmp 3), _, _, _, _⟩) ?e1 24 (.tmp 3) ?e2 ⟨(w.heap.size + 1), 0, none⟩ ?e3 _ M26.out ?_); (case e1 => rfl); (case e2 => rfl); (case e3 => rfl)))
 refine C27.out.mono ?_
 rintro e w28 ⟨rfl, hb29⟩
 have T30 := Lib.hid (T21.out.below hb29 T21.out.lt)
 have T31 := Lib.hid (T22.out.below hb29 T22.out.lt)
 have F32 := Lib.hid (F23.out.below hb29 (Nat.le_refl _))
 have F33 := Lib.hid (F24.out.below hb29 (Nat.le_refl _))
 have B34 := Lib.hid (B25.out.trans (hb29.mono B25.out.size))
 clear hb29
 have M38 := Lib.hid (T30.out.load)
 have C39 := Lib.hid (pof12_any a w28 (HLA.out _ B34.out) F32.out)
 unfold MofPost at C39
 rw [IA.out] at C39
 go_wp2_with (first | ((with_reducible refine wpList_load_by (o := ⟨some 19, .load 24 (.tmp 2), _, _, _, _⟩) ?e1 24 (.tmp 2) ?e2 ⟨w.heap.size, 0, none⟩ ?e3 _ M38.out ?_); (case e1 => rfl); (case e2 => rfl); (case e3 => rfl)))
 refine C39.out.mono ?_
 rintro e w40 ⟨d35, rfl, hd36, hk37, hb41⟩
 have T42 := Lib.hid (T30.out.below hb41 T30.out.lt)
 have T43 := Lib.hid (T31.out.below hb41 T31.out.lt)
 have F44 := Lib.hid (F32.out.below hb41 (Nat.le_refl _))
 have F45 := Lib.hid (F33.out.below hb41 (Nat.le_refl _))
 have B46 := Lib.hid (B34.out.trans (hb41.mono B34.out.size))
 clear hb41
 have E47 := Lib.hid (hd36)
 have F48 := Lib.hid (hk37)
 clear hd36 hk37
 have SZ48 := Lib.hid (mn_size F48.out)
 have SQ48 := Lib.hid (show mnA0.cs.toArray.size = d35.cs.toArray.size by rw [mnA0_size, List.size_toArray]; exact (MnA.len F48.out).symm)
 have SO48 := Lib.hid (mn_ones d35)
 have L50 := Lib.hid (MnA.len F48.out)
 have hb51 := (Below.refl w40.heap.size w40).alloc (Nat.le_refl _) (.cells d35.cs.toArray 29)
 have T52 := Lib.hid (RowAt.new w40 d35.cs.toArray 29)
 have T53 := Lib.hid (T42.out.below hb51 T42.out.lt)
 have T54 := Lib.hid (T43.out.below hb51 T43.out.lt)
 have F55 := Lib.hid (F44.out.below hb51 (Nat.le_refl _))
 have F56 := Lib.hid (F45.out.below hb51 (Nat.le_refl _))
 have F57 := Lib.hid (F48.out.below hb51 (Nat.le_refl _))
 have B58 := Lib.hid (B46.out.trans (hb51.mono B46.out.size))
 clear hb51
 have M62 := Lib.hid (T54.out.load)
 have C63 := Lib.hid (pof12_any b (w40.alloc (.cells d35.cs.toArray 29)) (HLA.out _ B58.out) F56.out)
 unfold MofPost at C63
 rw [IB.out] at C63
 go_wp2_with (first | ((with_reducible refine wpList_load_by (o := ⟨some 24, .load 24 (.tmp 3), _, _, _, _⟩) ?e1 24 (.tmp 3) ?e2 ⟨(w.heap.size + 1), 0, none⟩ ?e3 _ M62.out ?_); (case e1 => rfl); (case e2 => rfl); (case e3 => rfl)) | ((with_reducible refine wpList_store_new (o := ⟨none, .store 29 (.tmp 8) (.tmp 21), _, _, _, _⟩) ?e1 29 (.tmp 8) (.tmp 21) ?e2 ?e3 mnA0.cs.toArray d35.cs.toArray ?e4 SZ48.out SQ48.out SO48.out ?_); (case e1 => rfl); (case e2 => rfl); (case e3 => (first | rfl | exact congrArg (fun q => Value.pointer (some ⟨q, 0, none⟩)) (World.size_alloc _ _).symm)); (case e4 => rfl)))
 refine C63.out.mono ?_
 rintro e w64 ⟨d59, rfl, hd60, hk61, hb65⟩
 have T66 := Lib.hid (T53.out.below hb65 T53.out.lt)
 have T67 := Lib.hid (T54.out.below hb65 T54.out.lt)
 have T68 := Lib.hid (T52.out.below hb65 T52.out.lt)
 have F69 := Lib.hid (F55.out.below hb65 (Nat.le_refl _))
 have F70 := Lib.hid (F56.out.below hb65 (Nat.le_refl _))
 have F71 := Lib.hid (F57.out.below hb65 (Nat.le_refl _))
 have B72 := Lib.hid (B58.out.trans (hb65.mono B58.out.size))
 clear hb65
 have E73 := Lib.hid (hd60)
 have F74 := Lib.hid (hk61)
 clear hd60 hk61
 have SZ74 := Lib.hid (mn_size F74.out)
 have SQ74 := Lib.hid (show mnA0.cs.toArray.size = d59.cs.toArray.size by rw [mnA0_size, List.size_toArray]; exact (MnA.len F74.out).symm)
 have SO74 := Lib.hid (mn_ones d59)
 have L76 := Lib.hid (MnA.len F74.out)
 have hb77 := (Below.refl w64.heap.size w64).alloc (Nat.le_refl _) (.cells d59.cs.toArray 29)
 have T78 := Lib.hid (RowAt.new w64 d59.cs.toArray 29)
 have T79 := Lib.hid (T66.out.below hb77 T66.out.lt)
 have T80 := Lib.hid (T67.out.below hb77 T67.out.lt)
 have T81 := Lib.hid (T68.out.below hb77 T68.out.lt)
 have F82 := Lib.hid (F69.out.below hb77 (Nat.le_refl _))
 have F83 := Lib.hid (F70.out.below hb77 (Nat.le_refl _))
 have F84 := Lib.hid (F71.out.below hb77 (Nat.le_refl _))
 have F85 := Lib.hid (F74.out.below hb77 (Nat.le_refl _))
 have B86 := Lib.hid (B72.out.trans (hb77.mono B72.out.size))
 clear hb77
 have HXY := Lib.hid (HEQ.out d35 d59 E47.out E73.out)
 have M87 := Lib.hid (T81.out.mn L50.out)
 have M88 := Lib.hid (T78.out.mn L76.out)
 have C89 := Lib.hid ((show Calls Tryz.prog 17 #[.agg d35.cs.toArray, .agg d59.cs.toArray] (w64.alloc (.cells d59.cs.toArray 29)) fun e w' => e = .returned (.bool false) ∧ Below ((w64.alloc (.cells d59.cs.toArray 29))).heap.size (w64.alloc (.cells d59.cs.toArray 29)) w' from by have h := psame12_any d35 d59 (w64.alloc (.cells d59.cs.toArray 29)) F84.out F85.out (HSM.out d35 E47.out); rw [HXY.out.1] at h; exact h))
 go_wp2_with (first | ((with_reducible refine wpList_load_at (o := ⟨some 47, .load 29 (.tmp 8), _, _, _, _⟩) ?e1 29 (.tmp 8) ?e2 ⟨w40.heap.size, 0, none⟩ ?e3 _ M87.out ?_); (case e1 => rfl); (case e2 => rfl); (case e3 => rfl)) | ((with_reducible refine wpList_load_at (o := ⟨some 48, .load 29 (.tmp 10), _, _, _, _⟩) ?e1 29 (.tmp 10) ?e2 ⟨w64.heap.size, 0, none⟩ ?e3 _ M88.out ?_); (case e1 => rfl); (case e2 => rfl); (case e3 => rfl)) | ((with_reducible refine wpList_store_new (o := ⟨none, .store 29 (.tmp 10) (.tmp 26), _, _, _, _⟩) ?e1 29 (.tmp 10) (.tmp 26) ?e2 ?e3 mnA0.cs.toArray d59.cs.toArray ?e4 SZ74.out SQ74.out SO74.out ?_); (case e1 => rfl); (case e2 => rfl); (case e3 => (first | rfl | exact congrArg (fun q => Value.pointer (some ⟨q, 0, none⟩)) (World.size_alloc _ _).symm)); (case e4 => rfl)))
 refine C89.out.mono ?_
 rintro e w90 ⟨rfl, hb91⟩
 have T92 := Lib.hid (T79.out.below hb91 T79.out.lt)
 have T93 := Lib.hid (T80.out.below hb91 T80.out.lt)
 have T94 := Lib.hid (T81.out.below hb91 T81.out.lt)
 have T95 := Lib.hid (T78.out.below hb91 T78.out.lt)
 have F96 := Lib.hid (F82.out.below hb91 (Nat.le_refl _))
 have F97 := Lib.hid (F83.out.below hb91 (Nat.le_refl _))
 have F98 := Lib.hid (F84.out.below hb91 (Nat.le_refl _))
 have F99 := Lib.hid (F85.out.below hb91 (Nat.le_refl _))
 have B100 := Lib.hid (B86.out.trans (hb91.mono B86.out.size))
 clear hb91
 have M101 := Lib.hid (T92.out.load)
 have M102 := Lib.hid (T93.out.load)
 have C103 := Lib.hid (bsame_any a b w90 F96.out F97.out)
 rw [VS.out] at C103
 go_wp2_with (first | ((with_reducible refine wpList_load_by (o := ⟨some 50, .load 24 (.tmp 2), _, _, _, _⟩) ?e1 24 (.tmp 2) ?e2 ⟨w.heap.size, 0, none⟩ ?e3 _ M101.out ?_); (case e1 => rfl); (case e2 => rfl); (case e3 => rfl)) | ((with_reducible refine wpList_load_by (o := ⟨some 51, .load 24 (.tmp 3), _, _, _, _⟩) ?e1 24 (.tmp 3) ?e2 ⟨(w.heap.size + 1), 0, none⟩ ?e3 _ M102.out ?_); (case e1 => rfl); (case e2 => rfl); (case e3 => rfl)))
 refine C103.out.mono ?_
 rintro e w104 ⟨rfl, hb105⟩
 have T106 := Lib.hid (T92.out.below hb105 T92.out.lt)
 have T107 := Lib.hid (T93.out.below hb105 T93.out.lt)
 have T108 := Lib.hid (T94.out.below hb105 T94.out.lt)
 have T109 := Lib.hid (T95.out.below hb105 T95.out.lt)
 have F110 := Lib.hid (F96.out.below hb105 (Nat.le_refl _))
 have F111 := Lib.hid (F97.out.below hb105 (Nat.le_refl _))
 have F112 := Lib.hid (F98.out.below hb105 (Nat.le_refl _))
 have F113 := Lib.hid (F99.out.below hb105 (Nat.le_refl _))
 have B114 := Lib.hid (B100.out.trans (hb105.mono B100.out.size))
 clear hb105
 go_wp2
 go_ret
 exact ⟨rfl, B114.out⟩
set_option maxHeartbeats 16000000 in
theorem msame_base (a b : Bk) (w : World) (hlaid : Laid w) (wa : BkAt w a) (wb : BkAt w b) (p : fewB a.rs = true) (q : fewB b.rs = true) (r : bmay a.rs = true) (s : bmay b.rs = true) (v : bsame a.rs b.rs = false) (u : (mofB a.rs).getD mn0 = (mofB b.rs).getD mn0) :
  Calls Tryz.prog 7 #[.agg #[.slice a.A a.xs.length a.c], .agg #[.slice b.A b.xs.length b.c]] w fun e w' => e = .returned (.bool true) ∧ Below w.heap.size w w' := by
 have HLA := Lib.hid (fun (X : World) (hX : Below w.heap.size w X) => hlaid.below hX (Nat.le_refl _))
 have Fa := Lib.hid wa
 have Fb := Lib.hid wb
 have hzm := zeroMn
 rw [show mnA0.v = .agg mnA0.cs.toArray from rfl] at hzm
 have hzne : ¬ mnA0.cs.toArray = #[] := by decide
 have PA := Lib.hid p
 have PB := Lib.hid q
 have IA := Lib.hid ((mofB_is a.rs).trans r)
 have IB := Lib.hid ((mofB_is b.rs).trans s)
 have HSM := Lib.hid (fun (x : MnA) (h : x.m = (mofB a.rs).getD mn0) => (mof_few (h.trans (mofB_yes r)) r).2.1)
 have HEQ := Lib.hid (fun (x y : MnA) (h : x.m = (mofB a.rs).getD mn0) (k : y.m = (mofB b.rs).getD mn0) => show decide (x.m = y.m) = true ∧ x.base = y.base from ⟨by
  rw [h, k]
  exact decide_eq_true u, by
  have e : x.m = y.m := by rw [h, k, u]
  exact congrArg Mn.base e⟩)
 have VS := Lib.hid v
 clear hlaid wa wb
 have B1 := Lib.hid (Below.refl w.heap.size w)
 have T2n := BoAt.new w (.slice a.A a.xs.length a.c)
 have T2 := Lib.hid T2n
 clear T2n
 have B3 := Lib.hid (B1.out.alloc B1.out.size (.cells #[(.slice a.A a.xs.length a.c)] 24))
 have T4 := Lib.hid (T2.out.old (.cells #[(.slice b.A b.xs.length b.c)] 24))
 have T5n := BoAt.new (w.alloc (.cells #[(.slice a.A a.xs.length a.c)] 24)) (.slice b.A b.xs.length b.c)
 simp only [World.size_alloc] at T5n
 have T5 := Lib.hid T5n
 clear T5n
 have B6 := Lib.hid (B3.out.alloc B3.out.size (.cells #[(.slice b.A b.xs.length b.c)] 24))
 have F7 := Lib.hid (Fa.out.below B6.out (Nat.le_refl _))
 have F8 := Lib.hid (Fb.out.below B6.out (Nat.le_refl _))
 go_enter Tryz.func7, Tryz.ntmps7
 have C9 := Lib.hid (mnAwake ((w.alloc (.cells #[(.slice a.A a.xs.length a.c)] 24)).alloc (.cells #[(.slice b.A b.xs.length b.c)] 24)) (HLA.out _ B6.out))
 go_wp2_with fail
 refine C9.out.mono ?_
 rintro e w10 ⟨rfl, hb11⟩
 have T12 := Lib.hid (T4.out.below hb11 T4.out.lt)
 have T13 := Lib.hid (T5.out.below hb11 T5.out.lt)
 have F14 := Lib.hid (F7.out.below hb11 (Nat.le_refl _))
 have F15 := Lib.hid (F8.out.below hb11 (Nat.le_refl _))
 have B16 := Lib.hid (B6.out.trans (hb11.mono B6.out.size))
 clear hb11
 have M17 := Lib.hid (T12.out.load)
 have C18 := Lib.hid (fewB_any a w10 F14.out)
 rw [PA.out] at C18
 go_wp2_with (first | ((with_reducible refine wpList_load_by (o := ⟨some 14, .load 24 (.tmp 2), _, _, _, _⟩) ?e1 24 (.tmp 2) ?e2 ⟨w.heap.size, 0, none⟩ ?e3 _ M17.out ?_); (case e1 => rfl); (case e2 => rfl); (case e3 => rfl)))
 refine C18.out.mono ?_
 rintro e w19 ⟨rfl, hb20⟩
 have T21 := Lib.hid (T12.out.below hb20 T12.out.lt)
 have T22 := Lib.hid (T13.out.below hb20 T13.out.lt)
 have F23 := Lib.hid (F14.out.below hb20 (Nat.le_refl _))
 have F24 := Lib.hid (F15.out.below hb20 (Nat.le_refl _))
 have B25 := Lib.hid (B16.out.trans (hb20.mono B16.out.size))
 clear hb20
 have M26 := Lib.hid (T22.out.load)
 have C27 := Lib.hid (fewB_any b w19 F24.out)
 rw [PB.out] at C27
 go_wp2_with (first | ((with_reducible refine wpList_load_by (o := ⟨some 16, .load 24 (.tmp 3), _, _, _, _⟩) ?e1 24 (.tmp 3) ?e2 ⟨(w.heap.size + 1), 0, none⟩ ?e3 _ M26.out ?_); (case e1 => rfl); (case e2 => rfl); (case e3 => rfl)))
 refine C27.out.mono ?_
 rintro e w28 ⟨rfl, hb29⟩
 have T30 := Lib.hid (T21.out.below hb29 T21.out.lt)
 have T31 := Lib.hid (T22.out.below hb29 T22.out.lt)
 have F32 := Lib.hid (F23.out.below hb29 (Nat.le_refl _))
 have F33 := Lib.hid (F24.out.below hb29 (Nat.le_refl _))
 have B34 := Lib.hid (B25.out.trans (hb29.mono B25.out.size))
 clear hb29
 have M38 := Lib.hid (T30.out.load)
 have C39 := Lib.hid (pof12_any a w28 (HLA.out _ B34.out) F32.out)
 unfold MofPost at C39
 rw [IA.out] at C39
 go_wp2_with (first | ((with_reducible refine wpList_load_by (o := ⟨some 19, .load 24 (.tmp 2), _, _, _, _⟩) ?e1 24 (.tmp 2) ?e2 ⟨w.heap.size, 0, none⟩ ?e3 _ M38.out ?_); (case e1 => rfl); (case e2 => rfl); (case e3 => rfl)))
 refine C39.out.mono ?_
 rintro e w40 ⟨d35, rfl, hd36, hk37, hb41⟩
 have T42 := Lib.hid (T30.out.below hb41 T30.out.lt)
 have T43 := Lib.hid (T31.out.below hb41 T31.out.lt)
 have F44 := Lib.hid (F32.out.below hb41 (Nat.le_refl _))
 have F45 := Lib.hid (F33.out.below hb41 (Nat.le_refl _))
 have B46 := Lib.hid (B34.out.trans (hb41.mono B34.out.size))
 clear hb41
 have E47 := Lib.hid (hd36)
 have F48 := Lib.hid (hk37)
 clear hd36 hk37
 have SZ48 := Lib.hid (mn_size F48.out)
 have SQ48 := Lib.hid (show mnA0.cs.toArray.size = d35.cs.toArray.size by rw [mnA0_size, List.size_toArray]; exact (MnA.len F48.out).symm)
 have SO48 := Lib.hid (mn_ones d35)
 have L50 := Lib.hid (MnA.len F48.out)
 have hb51 := (Below.refl w40.heap.size w40).alloc (Nat.le_refl _) (.cells d35.cs.toArray 29)
 have T52 := Lib.hid (RowAt.new w40 d35.cs.toArray 29)
 have T53 := Lib.hid (T42.out.below hb51 T42.out.lt)
 have T54 := Lib.hid (T43.out.below hb51 T43.out.lt)
 have F55 := Lib.hid (F44.out.below hb51 (Nat.le_refl _))
 have F56 := Lib.hid (F45.out.below hb51 (Nat.le_refl _))
 have F57 := Lib.hid (F48.out.below hb51 (Nat.le_refl _))
 have B58 := Lib.hid (B46.out.trans (hb51.mono B46.out.size))
 clear hb51
 have M62 := Lib.hid (T54.out.load)
 have C63 := Lib.hid (pof12_any b (w40.alloc (.cells d35.cs.toArray 29)) (HLA.out _ B58.out) F56.out)
 unfold MofPost at C63
 rw [IB.out] at C63
 go_wp2_with (first | ((with_reducible refine wpList_load_by (o := ⟨some 24, .load 24 (.tmp 3), _, _, _, _⟩) ?e1 24 (.tmp 3) ?e2 ⟨(w.heap.size + 1), 0, none⟩ ?e3 _ M62.out ?_); (case e1 => rfl); (case e2 => rfl); (case e3 => rfl)) | ((with_reducible refine wpList_store_new (o := ⟨none, .store 29 (.tmp 8) (.tmp 21), _, _, _, _⟩) ?e1 29 (.tmp 8) (.tmp 21) ?e2 ?e3 mnA0.cs.toArray d35.cs.toArray ?e4 SZ48.out SQ48.out SO48.out ?_); (case e1 => rfl); (case e2 => rfl); (case e3 => (first | rfl | exact congrArg (fun q => Value.pointer (some ⟨q, 0, none⟩)) (World.size_alloc _ _).symm)); (case e4 => rfl)))
 refine C63.out.mono ?_
 rintro e w64 ⟨d59, rfl, hd60, hk61, hb65⟩
 have T66 := Lib.hid (T53.out.below hb65 T53.out.lt)
 have T67 := Lib.hid (T54.out.below hb65 T54.out.lt)
 have T68 := Lib.hid (T52.out.below hb65 T52.out.lt)
 have F69 := Lib.hid (F55.out.below hb65 (Nat.le_refl _))
 have F70 := Lib.hid (F56.out.below hb65 (Nat.le_refl _))
 have F71 := Lib.hid (F57.out.below hb65 (Nat.le_refl _))
 have B72 := Lib.hid (B58.out.trans (hb65.mono B58.out.size))
 clear hb65
 have E73 := Lib.hid (hd60)
 have F74 := Lib.hid (hk61)
 clear hd60 hk61
 have SZ74 := Lib.hid (mn_size F74.out)
 have SQ74 := Lib.hid (show mnA0.cs.toArray.size = d59.cs.toArray.size by rw [mnA0_size, List.size_toArray]; exact (MnA.len F74.out).symm)
 have SO74 := Lib.hid (mn_ones d59)
 have L76 := Lib.hid (MnA.len F74.out)
 have hb77 := (Below.refl w64.heap.size w64).alloc (Nat.le_refl _) (.cells d59.cs.toArray 29)
 have T78 := Lib.hid (RowAt.new w64 d59.cs.toArray 29)
 have T79 := Lib.hid (T66.out.below hb77 T66.out.lt)
 have T80 := Lib.hid (T67.out.below hb77 T67.out.lt)
 have T81 := Lib.hid (T68.out.below hb77 T68.out.lt)
 have F82 := Lib.hid (F69.out.below hb77 (Nat.le_refl _))
 have F83 := Lib.hid (F70.out.below hb77 (Nat.le_refl _))
 have F84 := Lib.hid (F71.out.below hb77 (Nat.le_refl _))
 have F85 := Lib.hid (F74.out.below hb77 (Nat.le_refl _))
 have B86 := Lib.hid (B72.out.trans (hb77.mono B72.out.size))
 clear hb77
 have HXY := Lib.hid (HEQ.out d35 d59 E47.out E73.out)
 have M87 := Lib.hid (T81.out.mn L50.out)
 have M88 := Lib.hid (T78.out.mn L76.out)
 have C89 := Lib.hid ((show Calls Tryz.prog 17 #[.agg d35.cs.toArray, .agg d59.cs.toArray] (w64.alloc (.cells d59.cs.toArray 29)) fun e w' => e = .returned (.bool true) ∧ Below ((w64.alloc (.cells d59.cs.toArray 29))).heap.size (w64.alloc (.cells d59.cs.toArray 29)) w' from by have h := psame12_any d35 d59 (w64.alloc (.cells d59.cs.toArray 29)) F84.out F85.out (HSM.out d35 E47.out); rw [HXY.out.1] at h; exact h))
 go_wp2_with (first | ((with_reducible refine wpList_load_at (o := ⟨some 47, .load 29 (.tmp 8), _, _, _, _⟩) ?e1 29 (.tmp 8) ?e2 ⟨w40.heap.size, 0, none⟩ ?e3 _ M87.out ?_); (case e1 => rfl); (case e2 => rfl); (case e3 => rfl)) | ((with_reducible refine wpList_load_at (o := ⟨some 48, .load 29 (.tmp 10), _, _, _, _⟩) ?e1 29 (.tmp 10) ?e2 ⟨w64.heap.size, 0, none⟩ ?e3 _ M88.out ?_); (case e1 => rfl); (case e2 => rfl); (case e3 => rfl)) | ((with_reducible refine wpList_store_new (o := ⟨none, .store 29 (.tmp 10) (.tmp 26), _, _, _, _⟩) ?e1 29 (.tmp 10) (.tmp 26) ?e2 ?e3 mnA0.cs.toArray d59.cs.toArray ?e4 SZ74.out SQ74.out SO74.out ?_); (case e1 => rfl); (case e2 => rfl); (case e3 => (first | rfl | exact congrArg (fun q => Value.pointer (some ⟨q, 0, none⟩)) (World.size_alloc _ _).symm)); (case e4 => rfl)))
 refine C89.out.mono ?_
 rintro e w90 ⟨rfl, hb91⟩
 have T92 := Lib.hid (T79.out.below hb91 T79.out.lt)
 have T93 := Lib.hid (T80.out.below hb91 T80.out.lt)
 have T94 := Lib.hid (T81.out.below hb91 T81.out.lt)
 have T95 := Lib.hid (T78.out.below hb91 T78.out.lt)
 have F96 := Lib.hid (F82.out.below hb91 (Nat.le_refl _))
 have F97 := Lib.hid (F83.out.below hb91 (Nat.le_refl _))
 have F98 := Lib.hid (F84.out.below hb91 (Nat.le_refl _))
 have F99 := Lib.hid (F85.out.below hb91 (Nat.le_refl _))
 have B100 := Lib.hid (B86.out.trans (hb91.mono B86.out.size))
 clear hb91
 have M101 := Lib.hid (T92.out.load)
 have M102 := Lib.hid (T93.out.load)
 have C103 := Lib.hid (bsame_any a b w90 F96.out F97.out)
 rw [VS.out] at C103
 go_wp2_with (first | ((with_reducible refine wpList_load_by (o := ⟨some 50, .load 24 (.tmp 2), _, _, _, _⟩) ?e1 24 (.tmp 2) ?e2 ⟨w.heap.size, 0, none⟩ ?e3 _ M101.out ?_); (case e1 => rfl); (case e2 => rfl); (case e3 => rfl)) | ((with_reducible refine wpList_load_by (o := ⟨some 51, .load 24 (.tmp 3), _, _, _, _⟩) ?e1 24 (.tmp 3) ?e2 ⟨(w.heap.size + 1), 0, none⟩ ?e3 _ M102.out ?_); (case e1 => rfl); (case e2 => rfl); (case e3 => rfl)))
 refine C103.out.mono ?_
 rintro e w104 ⟨rfl, hb105⟩
 have T106 := Lib.hid (T92.out.below hb105 T92.out.lt)
 have T107 := Lib.hid (T93.out.below hb105 T93.out.lt)
 have T108 := Lib.hid (T94.out.below hb105 T94.out.lt)
 have T109 := Lib.hid (T95.out.below hb105 T95.out.lt)
 have F110 := Lib.hid (F96.out.below hb105 (Nat.le_refl _))
 have F111 := Lib.hid (F97.out.below hb105 (Nat.le_refl _))
 have F112 := Lib.hid (F98.out.below hb105 (Nat.le_refl _))
 have F113 := Lib.hid (F99.out.below hb105 (Nat.le_refl _))
 have B114 := Lib.hid (B100.out.trans (hb105.mono B100.out.size))
 clear hb105
 have LX := Lib.hid (load_dig (MnAt.dig (m := d35) T108.out F112.out.1) F112.out.1)
 have LY := Lib.hid (load_dig (MnAt.dig (m := d59) T109.out F113.out.1) F113.out.1)
 have HQ := Lib.hid (show ∀ X, (Op.equalIn 10000 26 (.agg (bvals d35.base)) (.agg (bvals d59.base))).run Tryz.prog X = .ok true X from fun X => by
  rw [eq_dig F112.out.2.1 F113.out.2.1 F112.out.1 F113.out.1 X, HXY.out.2]; simp)
 go_wp2_with (first | ((with_reducible refine wpList_load_at (o := ⟨some 58, .load 26 (.tmp 57), _, _, _, _⟩) ?e1 26 (.tmp 57) ?e2 ⟨w40.heap.size, 0, none⟩ ?e3 _ LX.out ?_); (case e1 => rfl); (case e2 => rfl); (case e3 => rfl)) | ((with_reducible refine wpList_load_at (o := ⟨some 60, .load 26 (.tmp 59), _, _, _, _⟩) ?e1 26 (.tmp 59) ?e2 ⟨w64.heap.size, 0, none⟩ ?e3 _ LY.out ?_); (case e1 => rfl); (case e2 => rfl); (case e3 => rfl)) | ((with_reducible refine wpList_eqlM (o := ⟨some 61, .binOp .eql 26 (.tmp 58) (.tmp 60) 26, _, _, _, _⟩) ?e1 26 (.tmp 58) (.tmp 60) 26 ?e2 ?e3 ?e4 guardDig (HQ.out _) ?_); (case e1 => rfl); (case e2 => rfl); (case e3 => rfl); (case e4 => rfl)))
 go_ret
 exact ⟨rfl, B114.out⟩
theorem walk_manifestSame (a b : Bk) (w : World) (hlaid : Laid w) (wa : BkAt w a) (wb : BkAt w b) :
  Calls Tryz.prog 7 #[.agg #[.slice a.A a.xs.length a.c], .agg #[.slice b.A b.xs.length b.c]] w fun e w' => e = .returned (.bool true) ∧ Below w.heap.size w w' := by
 cases p : fewB a.rs
 ·exact msame_a a b w hlaid wa wb p
 ·cases q : fewB b.rs
  ·exact msame_b a b w hlaid wa wb p q
  ·cases r : bmay a.rs
   ·exact msame_ia a b w hlaid wa wb p q r
   ·cases s : bmay b.rs
    ·exact msame_ib a b w hlaid wa wb p q r s
    ·cases v : bsame a.rs b.rs
     ·by_cases u : (mofB a.rs).getD mn0 = (mofB b.rs).getD mn0
      ·exact msame_base a b w hlaid wa wb p q r s v u
      ·exact msame_ne a b w hlaid wa wb p q r s v u
     ·exact msame_eq a b w hlaid wa wb p q r s v
end
end Go.Proofs.YtbkopnpafmjicaaGreatDoor
