import Derived.Test.YtnlhkpmgbpfjmaaGreatDoorQc0
import Derived.Test.YtnlhkpmgbpfjmaaGreatDoorQc35
import Derived.Test.YtnlhkpmgbpfjmaaGreatDoorQc36
import Derived.Test.YtnlhkpmgbpfjmaaGreatDoorQc17
import Derived.Test.YtnlhkpmgbpfjmaaGreatDoorQc32
import Derived.Test.YtnlhkpmgbpfjmaaGreatDoorQc18
import Derived.Test.YtnlhkpmgbpfjmaaGreatDoorQc7
import Derived.Test.YtnlhkpmgbpfjmaaGreatDoorQc15
import Derived.Deep.RegionHeld3
/-
  What the functions that a law of this layer reaches answer, part 37. Nothing that was there is written.
-/
namespace Go.Proofs.YtnlhkpmgbpfjmaaGreatDoor
set_option linter.unusedVariables false
set_option linter.unusedSimpArgs false
section
open Go.RowKit Go.Shelf WM
set_option maxRecDepth 100000
theorem len_rsL {l : Bk} {V : List Rc} (h : l.rs = V) : l.xs.length = V.length := by rw [← h]; unfold Bk.rs; rw [List.length_map]
theorem less_part {m : Mn} {X V : List Rc} (hX : bmay X = true) (h : aparts X m = V) : ∀ P ∈ V, ∃ R, bat X P.z = some R ∧ ((P.n = R.n ∧ P.r = R.r) ∨ (¬ (P.n = R.n ∧ P.r = R.r) ∧ P.n = 0 ∧ P.r = 0)) ∧ P.fs.length ≤ R.fs.length ∧ ∀ f ∈ P.fs, rfind R.fs f.no = some f.c := by
 subst h
 intro P hP
 unfold aparts at hP
 split at hP
 ·obtain ⟨R, hR, he⟩ := List.mem_filterMap.1 hP
  unfold apart at he
  split at he
  ·obtain rfl := Option.some.inj he
   have hmR := (bmay_iff.1 hX).2.1 R hR
   refine ⟨R, bat_mem (bmay_iff.1 hX).2.2 hR, ?_, List.length_filter_le _ _, fun f hf => rfind_in (may_okFrom hmR) f (List.mem_filter.1 hf).1⟩
   unfold ppart
   dsimp only
   cases hp : pless R m with
   | true => exact .inl ⟨rfl, rfl⟩
   | false =>
    by_cases h0 : (0 : Int) = R.n ∧ (0 : Int) = R.r
    ·exact .inl ⟨h0.1, h0.2⟩
    ·exact .inr ⟨h0, rfl, rfl⟩
  ·cases he
 ·cases hP
theorem less_len {m : Mn} {X : List Rc} : (aparts X m).length ≤ X.length := by
 unfold aparts
 split
 ·exact List.length_filterMap_le _ _
 ·exact Nat.zero_le _
theorem guardClL : Tryz.prog.eqGuardType Tryz.prog.depth 38 = false := by kernel_rfl
theorem load_clL {w : World} {b : Nat} {c : Cel} (h : ClAt w b c) : (loadVar 38 ⟨b, 0, none⟩).run Tryz.prog w = .ok (.agg #[.int .i64 c.n, .int .i64 c.r, .string c.s]) w := load_cl h
theorem loadRcL {w : World} {b : Nat} {y : RcA} (h : XAt w b y) : (loadVar 36 ⟨b, 0, none⟩).run Tryz.prog w = .ok (.agg y.cells) w := h.load
theorem build_stL (w : World) : (Instr.build 33 #[]).run Tryz.prog w = .ok (.agg #[.int .i64 0, .int .i64 0]) w := run_build w _ _ _ (by kernel_rfl)
theorem bat_memL {X : List Rc} {R : Rc} {z : List Int} (h : bat X z = some R) : R ∈ X := (bat_some h).1
set_option maxHeartbeats 16000000 in
theorem abl_few1 (a b : Bk) (w : World) (hlaid : Laid w) (wa : BkAt w a) (wb : BkAt w b) (e : Int) (J : List Rc) (v1 v2 : Bool) (p : fewB a.rs = false) (s : Bool) (q : fewB b.rs = s) (h1 : (mofB b.rs).isSome = v1) (jj : bjE a.rs b.rs = (e, J)) (h2 : (mofB J).isSome = v2) : Calls Tryz.prog 5 #[.agg #[.slice a.A a.xs.length a.c], .agg #[.slice b.A b.xs.length b.c]] w fun e w' => e = .returned (.bool true) ∧ Below w.heap.size w w' := by
 have HLA := Lib.hid (fun (X : World) (hX : Below w.heap.size w X) => hlaid.below hX (Nat.le_refl _))
 have Fa := Lib.hid wa
 have Fb := Lib.hid wb
 have hzm := zeroMn
 rw [show mnA0.v = .agg mnA0.cs.toArray from rfl] at hzm
 have hzne : ¬ mnA0.cs.toArray = #[] := by decide
 have PA := Lib.hid p
 have PB := Lib.hid q
 have HM1 := Lib.hid h1
 have HM2 := Lib.hid h2
 have JJ := Lib.hid jj
 clear hlaid wa wb p q h1 h2 jj
 have B1 := Lib.hid (Below.refl w.heap.size w)
 have T2n := BoAt.new w (.slice a.A a.xs.length a.c)
 have T2 := Lib.hid T2n
 clear T2n
 have B3 := Lib.hid (B1.out.alloc B1.out.size (.cells #[(.slice a.A a.xs.length a.c)] 24))
 have T4 := Lib.hid (T2.out.old (.cells #[(.slice b.A b.xs.length b.c)] 24))
 have T5n := BoAt.new (w.alloc (.cells #[(.slice a.A a.xs.length a.c)] 24)) (.slice b.A b.xs.length b.c)
 simp only [World.size_alloc] at T5n
 have T5 := Lib.hid T5n
 clear T5n
 have B6 := Lib.hid (B3.out.alloc B3.out.size (.cells #[(.slice b.A b.xs.length b.c)] 24))
 have F7 := Lib.hid (Fa.out.below B6.out (Nat.le_refl _))
 have F8 := Lib.hid (Fb.out.below B6.out (Nat.le_refl _))
 go_enter Tryz.func5, Tryz.ntmps5
 have C9 := Lib.hid (abAwake ((w.alloc (.cells #[(.slice a.A a.xs.length a.c)] 24)).alloc (.cells #[(.slice b.A b.xs.length b.c)] 24)) (HLA.out _ B6.out))
 go_wp2_with fail
 refine C9.out.mono ?_
 rintro e w10 ⟨rfl, hb11⟩
 have T12 := Lib.hid (T4.out.below hb11 T4.out.lt)
 have T13 := Lib.hid (T5.out.below hb11 T5.out.lt)
 have F14 := Lib.hid (F7.out.below hb11 (Nat.le_refl _))
 have F15 := Lib.hid (F8.out.below hb11 (Nat.le_refl _))
 have B16 := Lib.hid (B6.out.trans (hb11.mono B6.out.size))
 clear hb11
 have M17 := Lib.hid (T12.out.load)
 have C18 := Lib.hid (fewB_any a w10 F14.out)
 rw [PA.out] at C18
 go_wp2_with (first | ((with_reducible refine wpList_load_by (o := ⟨some 22, .load 24 (.tmp 2), _, _, _, _⟩) ?e1 24 (.tmp 2) ?e2 ⟨w.heap.size, 0, none⟩ ?e3 _ M17.out ?_); (case e1 => rfl); (case e2 => rfl); (case e3 => rfl)))
 refine C18.out.mono ?_
 rintro e w19 ⟨rfl, hb20⟩
 have T21 := Lib.hid (T12.out.below hb20 T12.out.lt)
 have T22 := Lib.hid (T13.out.below hb20 T13.out.lt)
 have F23 := Lib.hid (F14.out.below hb20 (Nat.le_refl _))
 have F24 := Lib.hid (F15.out.below hb20 (Nat.le_refl _))
 have B25 := Lib.hid (B16.out.trans (hb20.mono B16.out.size))
 clear hb20
 have M26 := Lib.hid (T22.out.load)
 have C27 := Lib.hid (fewB_any b w19 F24.out)
 rw [PB.out] at C27
 go_wp2_with (first | ((with_reducible refine wpList_load_by (o := ⟨some 24, .load 24 (.tmp 3), _, _, _, _⟩) ?e1 24 (.tmp 3) ?e2 ⟨(w.heap.size + 1), 0, none⟩ ?e3 _ M26.out ?_); (case e1 => rfl); (case e2 => rfl); (case e3 => rfl)))
 refine C27.out.mono ?_
 rintro e w28 ⟨rfl, hb29⟩
 have T30 := Lib.hid (T21.out.below hb29 T21.out.lt)
 have T31 := Lib.hid (T22.out.below hb29 T22.out.lt)
 have F32 := Lib.hid (F23.out.below hb29 (Nat.le_refl _))
 have F33 := Lib.hid (F24.out.below hb29 (Nat.le_refl _))
 have B34 := Lib.hid (B25.out.trans (hb29.mono B25.out.size))
 clear hb29
 have M38 := Lib.hid (T31.out.load)
 have C39 := Lib.hid ((show Calls Tryz.prog 21 #[.agg #[.slice b.A b.xs.length b.c]] w28 (fun e w' => ∃ m : MnA, e = .returned (.tuple #[.agg m.cs.toArray, .bool v1]) ∧ m.m = (mofB b.rs).getD mn0 ∧ m.Ok w' ∧ Below (w28).heap.size w28 w') from by have h := pof12_any b w28 (HLA.out _ B34.out) F33.out; unfold MofPost at h; rw [HM1.out] at h; exact h))
 go_wp2_with (first | ((with_reducible refine wpList_load_by (o := ⟨some 27, .load 24 (.tmp 3), _, _, _, _⟩) ?e1 24 (.tmp 3) ?e2 ⟨(w.heap.size + 1), 0, none⟩ ?e3 _ M38.out ?_); (case e1 => rfl); (case e2 => rfl); (case e3 => rfl)))
 refine C39.out.mono ?_
 rintro e w40 ⟨d35, rfl, hd36, hk37, hb41⟩
 have T42 := Lib.hid (T30.out.below hb41 T30.out.lt)
 have T43 := Lib.hid (T31.out.below hb41 T31.out.lt)
 have F44 := Lib.hid (F32.out.below hb41 (Nat.le_refl _))
 have F45 := Lib.hid (F33.out.below hb41 (Nat.le_refl _))
 have B46 := Lib.hid (B34.out.trans (hb41.mono B34.out.size))
 clear hb41
 have E47 := Lib.hid (hd36)
 have F48 := Lib.hid (hk37)
 clear hd36 hk37
 have SZ48 := Lib.hid (mn_size F48.out)
 have SQ48 := Lib.hid (show mnA0.cs.toArray.size = d35.cs.toArray.size by rw [mnA0_size, List.size_toArray]; exact (MnA.len F48.out).symm)
 have SO48 := Lib.hid (mn_ones d35)
 have L50 := Lib.hid (MnA.len F48.out)
 have hb51 := (Below.refl w40.heap.size w40).alloc (Nat.le_refl _) (.cells d35.cs.toArray 29)
 have T52 := Lib.hid (RowAt.new w40 d35.cs.toArray 29)
 have T53 := Lib.hid (T42.out.below hb51 T42.out.lt)
 have T54 := Lib.hid (T43.out.below hb51 T43.out.lt)
 have F55 := Lib.hid (F44.out.below hb51 (Nat.le_refl _))
 have F56 := Lib.hid (F45.out.below hb51 (Nat.le_refl _))
 have F57 := Lib.hid (F48.out.below hb51 (Nat.le_refl _))
 have B58 := Lib.hid (B46.out.trans (hb51.mono B46.out.size))
 clear hb51
 have M62 := Lib.hid (T53.out.load)
 have M63 := Lib.hid (T54.out.load)
 have C64 := Lib.hid (bjoin_any a b (w40.alloc (.cells d35.cs.toArray 29)) (HLA.out _ B58.out) F55.out F56.out)
 unfold BJoinPost at C64
 rw [JJ.out] at C64
 dsimp only at C64
 go_wp2_with (first | ((with_reducible refine wpList_load_by (o := ⟨some 32, .load 24 (.tmp 2), _, _, _, _⟩) ?e1 24 (.tmp 2) ?e2 ⟨w.heap.size, 0, none⟩ ?e3 _ M62.out ?_); (case e1 => rfl); (case e2 => rfl); (case e3 => rfl)) | ((with_reducible refine wpList_load_by (o := ⟨some 33, .load 24 (.tmp 3), _, _, _, _⟩) ?e1 24 (.tmp 3) ?e2 ⟨(w.heap.size + 1), 0, none⟩ ?e3 _ M63.out ?_); (case e1 => rfl); (case e2 => rfl); (case e3 => rfl)) | ((with_reducible refine wpList_store_new (o := ⟨none, .store 29 (.tmp 8) (.tmp 29), _, _, _, _⟩) ?e1 29 (.tmp 8) (.tmp 29) ?e2 ?e3 mnA0.cs.toArray d35.cs.toArray ?e4 SZ48.out SQ48.out SO48.out ?_); (case e1 => rfl); (case e2 => rfl); (case e3 => (first | rfl | exact congrArg (fun q => Value.pointer (some ⟨q, 0, none⟩)) (World.size_alloc _ _).symm)); (case e4 => rfl)))
 refine C64.out.mono ?_
 rintro e w65 ⟨d59, rfl, hd60, hk61, hb66⟩
 have T67 := Lib.hid (T53.out.below hb66 T53.out.lt)
 have T68 := Lib.hid (T54.out.below hb66 T54.out.lt)
 have T69 := Lib.hid (T52.out.below hb66 T52.out.lt)
 have F70 := Lib.hid (F55.out.below hb66 (Nat.le_refl _))
 have F71 := Lib.hid (F56.out.below hb66 (Nat.le_refl _))
 have F72 := Lib.hid (F57.out.below hb66 (Nat.le_refl _))
 have B73 := Lib.hid (B58.out.trans (hb66.mono B58.out.size))
 clear hb66
 have E74 := Lib.hid (hd60)
 have F75 := Lib.hid (hk61)
 clear hd60 hk61
 have hb76 := (Below.refl w65.heap.size w65).alloc (Nat.le_refl _) (.cells #[(.slice d59.A d59.xs.length d59.c)] 24)
 have T77 := Lib.hid (BoAt.new w65 (.slice d59.A d59.xs.length d59.c))
 have T78 := Lib.hid (T67.out.below hb76 T67.out.lt)
 have T79 := Lib.hid (T68.out.below hb76 T68.out.lt)
 have T80 := Lib.hid (T69.out.below hb76 T69.out.lt)
 have F81 := Lib.hid (F70.out.below hb76 (Nat.le_refl _))
 have F82 := Lib.hid (F71.out.below hb76 (Nat.le_refl _))
 have F83 := Lib.hid (F72.out.below hb76 (Nat.le_refl _))
 have F84 := Lib.hid (F75.out.below hb76 (Nat.le_refl _))
 have B85 := Lib.hid (B73.out.trans (hb76.mono B73.out.size))
 clear hb76
 have M89 := Lib.hid (T77.out.load)
 have C90 := Lib.hid ((show Calls Tryz.prog 21 #[.agg #[.slice d59.A d59.xs.length d59.c]] (w65.alloc (.cells #[(.slice d59.A d59.xs.length d59.c)] 24)) (fun e w' => ∃ m : MnA, e = .returned (.tuple #[.agg m.cs.toArray, .bool v2]) ∧ m.m = (mofB J).getD mn0 ∧ m.Ok w' ∧ Below ((w65.alloc (.cells #[(.slice d59.A d59.xs.length d59.c)] 24))).heap.size (w65.alloc (.cells #[(.slice d59.A d59.xs.length d59.c)] 24)) w') from by have h := pof12_any d59 (w65.alloc (.cells #[(.slice d59.A d59.xs.length d59.c)] 24)) (HLA.out _ B85.out) F84.out; unfold MofPost at h; rw [E74.out, HM2.out] at h; exact h))
 go_wp2_with (first | ((with_reducible refine wpList_load_by (o := ⟨some 38, .load 24 (.tmp 10), _, _, _, _⟩) ?e1 24 (.tmp 10) ?e2 ⟨w65.heap.size, 0, none⟩ ?e3 _ M89.out ?_); (case e1 => rfl); (case e2 => rfl); (case e3 => rfl)))
 refine C90.out.mono ?_
 rintro e w91 ⟨d86, rfl, hd87, hk88, hb92⟩
 have T93 := Lib.hid (T78.out.below hb92 T78.out.lt)
 have T94 := Lib.hid (T79.out.below hb92 T79.out.lt)
 have T95 := Lib.hid (T80.out.below hb92 T80.out.lt)
 have T96 := Lib.hid (T77.out.below hb92 T77.out.lt)
 have F97 := Lib.hid (F81.out.below hb92 (Nat.le_refl _))
 have F98 := Lib.hid (F82.out.below hb92 (Nat.le_refl _))
 have F99 := Lib.hid (F83.out.below hb92 (Nat.le_refl _))
 have F100 := Lib.hid (F84.out.below hb92 (Nat.le_refl _))
 have B101 := Lib.hid (B85.out.trans (hb92.mono B85.out.size))
 clear hb92
 have E102 := Lib.hid (hd87)
 have F103 := Lib.hid (hk88)
 clear hd87 hk88
 have SZ103 := Lib.hid (mn_size F103.out)
 have SQ103 := Lib.hid (show mnA0.cs.toArray.size = d86.cs.toArray.size by rw [mnA0_size, List.size_toArray]; exact (MnA.len F103.out).symm)
 have SO103 := Lib.hid (mn_ones d86)
 have L105 := Lib.hid (MnA.len F103.out)
 have hb106 := (Below.refl w91.heap.size w91).alloc (Nat.le_refl _) (.cells d86.cs.toArray 29)
 have T107 := Lib.hid (RowAt.new w91 d86.cs.toArray 29)
 have T108 := Lib.hid (T93.out.below hb106 T93.out.lt)
 have T109 := Lib.hid (T94.out.below hb106 T94.out.lt)
 have T110 := Lib.hid (T95.out.below hb106 T95.out.lt)
 have T111 := Lib.hid (T96.out.below hb106 T96.out.lt)
 have F112 := Lib.hid (F97.out.below hb106 (Nat.le_refl _))
 have F113 := Lib.hid (F98.out.below hb106 (Nat.le_refl _))
 have F114 := Lib.hid (F99.out.below hb106 (Nat.le_refl _))
 have F115 := Lib.hid (F100.out.below hb106 (Nat.le_refl _))
 have F116 := Lib.hid (F103.out.below hb106 (Nat.le_refl _))
 have B117 := Lib.hid (B101.out.trans (hb106.mono B101.out.size))
 clear hb106
 go_wp2_with (((with_reducible refine wpList_store_new (o := ⟨none, .store 29 (.tmp 12) (.tmp 40), _, _, _, _⟩) ?e1 29 (.tmp 12) (.tmp 40) ?e2 ?e3 mnA0.cs.toArray d86.cs.toArray ?e4 SZ103.out SQ103.out SO103.out ?_); (case e1 => rfl); (case e2 => rfl); (case e3 => (first | rfl | exact congrArg (fun q => Value.pointer (some ⟨q, 0, none⟩)) (World.size_alloc _ _).symm)); (case e4 => rfl)))
 go_ret
 exact ⟨rfl, B117.out⟩
set_option maxHeartbeats 16000000 in
theorem abl_few2 (a b : Bk) (w : World) (hlaid : Laid w) (wa : BkAt w a) (wb : BkAt w b) (e : Int) (J : List Rc) (v1 v2 : Bool) (p : fewB a.rs = true) (q : fewB b.rs = false) (h1 : (mofB b.rs).isSome = v1) (jj : bjE a.rs b.rs = (e, J)) (h2 : (mofB J).isSome = v2) : Calls Tryz.prog 5 #[.agg #[.slice a.A a.xs.length a.c], .agg #[.slice b.A b.xs.length b.c]] w fun e w' => e = .returned (.bool true) ∧ Below w.heap.size w w' := by
 have HLA := Lib.hid (fun (X : World) (hX : Below w.heap.size w X) => hlaid.below hX (Nat.le_refl _))
 have Fa := Lib.hid wa
 have Fb := Lib.hid wb
 have hzm := zeroMn
 rw [show mnA0.v = .agg mnA0.cs.toArray from rfl] at hzm
 have hzne : ¬ mnA0.cs.toArray = #[] := by decide
 have PA := Lib.hid p
 have PB := Lib.hid q
 have HM1 := Lib.hid h1
 have HM2 := Lib.hid h2
 have JJ := Lib.hid jj
 clear hlaid wa wb p q h1 h2 jj
 have B1 := Lib.hid (Below.refl w.heap.size w)
 have T2n := BoAt.new w (.slice a.A a.xs.length a.c)
 have T2 := Lib.hid T2n
 clear T2n
 have B3 := Lib.hid (B1.out.alloc B1.out.size (.cells #[(.slice a.A a.xs.length a.c)] 24))
 have T4 := Lib.hid (T2.out.old (.cells #[(.slice b.A b.xs.length b.c)] 24))
 have T5n := BoAt.new (w.alloc (.cells #[(.slice a.A a.xs.length a.c)] 24)) (.slice b.A b.xs.length b.c)
 simp only [World.size_alloc] at T5n
 have T5 := Lib.hid T5n
 clear T5n
 have B6 := Lib.hid (B3.out.alloc B3.out.size (.cells #[(.slice b.A b.xs.length b.c)] 24))
 have F7 := Lib.hid (Fa.out.below B6.out (Nat.le_refl _))
 have F8 := Lib.hid (Fb.out.below B6.out (Nat.le_refl _))
 go_enter Tryz.func5, Tryz.ntmps5
 have C9 := Lib.hid (abAwake ((w.alloc (.cells #[(.slice a.A a.xs.length a.c)] 24)).alloc (.cells #[(.slice b.A b.xs.length b.c)] 24)) (HLA.out _ B6.out))
 go_wp2_with fail
 refine C9.out.mono ?_
 rintro e w10 ⟨rfl, hb11⟩
 have T12 := Lib.hid (T4.out.below hb11 T4.out.lt)
 have T13 := Lib.hid (T5.out.below hb11 T5.out.lt)
 have F14 := Lib.hid (F7.out.below hb11 (Nat.le_refl _))
 have F15 := Lib.hid (F8.out.below hb11 (Nat.le_refl _))
 have B16 := Lib.hid (B6.out.trans (hb11.mono B6.out.size))
 clear hb11
 have M17 := Lib.hid (T12.out.load)
 have C18 := Lib.hid (fewB_any a w10 F14.out)
 rw [PA.out] at C18
 go_wp2_with (first | ((with_reducible refine wpList_load_by (o := ⟨some 22, .load 24 (.tmp 2), _, _, _, _⟩) ?e1 24 (.tmp 2) ?e2 ⟨w.heap.size, 0, none⟩ ?e3 _ M17.out ?_); (case e1 => rfl); (case e2 => rfl); (case e3 => rfl)))
 refine C18.out.mono ?_
 rintro e w19 ⟨rfl, hb20⟩
 have T21 := Lib.hid (T12.out.below hb20 T12.out.lt)
 have T22 := Lib.hid (T13.out.below hb20 T13.out.lt)
 have F23 := Lib.hid (F14.out.below hb20 (Nat.le_refl _))
 have F24 := Lib.hid (F15.out.below hb20 (Nat.le_refl _))
 have B25 := Lib.hid (B16.out.trans (hb20.mono B16.out.size))
 clear hb20
 have M26 := Lib.hid (T22.out.load)
 have C27 := Lib.hid (fewB_any b w19 F24.out)
 rw [PB.out] at C27
 go_wp2_with (first | ((with_reducible refine wpList_load_by (o := ⟨some 24, .load 24 (.tmp 3), _, _, _, _⟩) ?e1 24 (.tmp 3) ?e2 ⟨(w.heap.size + 1), 0, none⟩ ?e3 _ M26.out ?_); (case e1 => rfl); (case e2 => rfl); (case e3 => rfl)))
 refine C27.out.mono ?_
 rintro e w28 ⟨rfl, hb29⟩
 have T30 := Lib.hid (T21.out.below hb29 T21.out.lt)
 have T31 := Lib.hid (T22.out.below hb29 T22.out.lt)
 have F32 := Lib.hid (F23.out.below hb29 (Nat.le_refl _))
 have F33 := Lib.hid (F24.out.below hb29 (Nat.le_refl _))
 have B34 := Lib.hid (B25.out.trans (hb29.mono B25.out.size))
 clear hb29
 have M38 := Lib.hid (T31.out.load)
 have C39 := Lib.hid ((show Calls Tryz.prog 21 #[.agg #[.slice b.A b.xs.length b.c]] w28 (fun e w' => ∃ m : MnA, e = .returned (.tuple #[.agg m.cs.toArray, .bool v1]) ∧ m.m = (mofB b.rs).getD mn0 ∧ m.Ok w' ∧ Below (w28).heap.size w28 w') from by have h := pof12_any b w28 (HLA.out _ B34.out) F33.out; unfold MofPost at h; rw [HM1.out] at h; exact h))
 go_wp2_with (first | ((with_reducible refine wpList_load_by (o := ⟨some 27, .load 24 (.tmp 3), _, _, _, _⟩) ?e1 24 (.tmp 3) ?e2 ⟨(w.heap.size + 1), 0, none⟩ ?e3 _ M38.out ?_); (case e1 => rfl); (case e2 => rfl); (case e3 => rfl)))
 refine C39.out.mono ?_
 rintro e w40 ⟨d35, rfl, hd36, hk37, hb41⟩
 have T42 := Lib.hid (T30.out.below hb41 T30.out.lt)
 have T43 := Lib.hid (T31.out.below hb41 T31.out.lt)
 have F44 := Lib.hid (F32.out.below hb41 (Nat.le_refl _))
 have F45 := Lib.hid (F33.out.below hb41 (Nat.le_refl _))
 have B46 := Lib.hid (B34.out.trans (hb41.mono B34.out.size))
 clear hb41
 have E47 := Lib.hid (hd36)
 have F48 := Lib.hid (hk37)
 clear hd36 hk37
 have SZ48 := Lib.hid (mn_size F48.out)
 have SQ48 := Lib.hid (show mnA0.cs.toArray.size = d35.cs.toArray.size by rw [mnA0_size, List.size_toArray]; exact (MnA.len F48.out).symm)
 have SO48 := Lib.hid (mn_ones d35)
 have L50 := Lib.hid (MnA.len F48.out)
 have hb51 := (Below.refl w40.heap.size w40).alloc (Nat.le_refl _) (.cells d35.cs.toArray 29)
 have T52 := Lib.hid (RowAt.new w40 d35.cs.toArray 29)
 have T53 := Lib.hid (T42.out.below hb51 T42.out.lt)
 have T54 := Lib.hid (T43.out.below hb51 T43.out.lt)
 have F55 := Lib.hid (F44.out.below hb51 (Nat.le_refl _))
 have F56 := Lib.hid (F45.out.below hb51 (Nat.le_refl _))
 have F57 := Lib.hid (F48.out.below hb51 (Nat.le_refl _))
 have B58 := Lib.hid (B46.out.trans (hb51.mono B46.out.size))
 clear hb51
 have M62 := Lib.hid (T53.out.load)
 have M63 := Lib.hid (T54.out.load)
 have C64 := Lib.hid (bjoin_any a b (w40.alloc (.cells d35.cs.toArray 29)) (HLA.out _ B58.out) F55.out F56.out)
 unfold BJoinPost at C64
 rw [JJ.out] at C64
 dsimp only at C64
 go_wp2_with (first | ((with_reducible refine wpList_load_by (o := ⟨some 32, .load 24 (.tmp 2), _, _, _, _⟩) ?e1 24 (.tmp 2) ?e2 ⟨w.heap.size, 0, none⟩ ?e3 _ M62.out ?_); (case e1 => rfl); (case e2 => rfl); (case e3 => rfl)) | ((with_reducible refine wpList_load_by (o := ⟨some 33, .load 24 (.tmp 3), _, _, _, _⟩) ?e1 24 (.tmp 3) ?e2 ⟨(w.heap.size + 1), 0, none⟩ ?e3 _ M63.out ?_); (case e1 => rfl); (case e2 => rfl); (case e3 => rfl)) | ((with_reducible refine wpList_store_new (o := ⟨none, .store 29 (.tmp 8) (.tmp 29), _, _, _, _⟩) ?e1 29 (.tmp 8) (.tmp 29) ?e2 ?e3 mnA0.cs.toArray d35.cs.toArray ?e4 SZ48.out SQ48.out SO48.out ?_); (case e1 => rfl); (case e2 => rfl); (case e3 => (first | rfl | exact congrArg (fun q => Value.pointer (some ⟨q, 0, none⟩)) (World.size_alloc _ _).symm)); (case e4 => rfl)))
 refine C64.out.mono ?_
 rintro e w65 ⟨d59, rfl, hd60, hk61, hb66⟩
 have T67 := Lib.hid (T53.out.below hb66 T53.out.lt)
 have T68 := Lib.hid (T54.out.below hb66 T54.out.lt)
 have T69 := Lib.hid (T52.out.below hb66 T52.out.lt)
 have F70 := Lib.hid (F55.out.below hb66 (Nat.le_refl _))
 have F71 := Lib.hid (F56.out.below hb66 (Nat.le_refl _))
 have F72 := Lib.hid (F57.out.below hb66 (Nat.le_refl _))
 have B73 := Lib.hid (B58.out.trans (hb66.mono B58.out.size))
 clear hb66
 have E74 := Lib.hid (hd60)
 have F75 := Lib.hid (hk61)
 clear hd60 hk61
 have hb76 := (Below.refl w65.heap.size w65).alloc (Nat.le_refl _) (.cells #[(.slice d59.A d59.xs.length d59.c)] 24)
 have T77 := Lib.hid (BoAt.new w65 (.slice d59.A d59.xs.length d59.c))
 have T78 := Lib.hid (T67.out.below hb76 T67.out.lt)
 have T79 := Lib.hid (T68.out.below hb76 T68.out.lt)
 have T80 := Lib.hid (T69.out.below hb76 T69.out.lt)
 have F81 := Lib.hid (F70.out.below hb76 (Nat.le_refl _))
 have F82 := Lib.hid (F71.out.below hb76 (Nat.le_refl _))
 have F83 := Lib.hid (F72.out.below hb76 (Nat.le_refl _))
 have F84 := Lib.hid (F75.out.below hb76 (Nat.le_refl _))
 have B85 := Lib.hid (B73.out.trans (hb76.mono B73.out.size))
 clear hb76
 have M89 := Lib.hid (T77.out.load)
 have C90 := Lib.hid ((show Calls Tryz.prog 21 #[.agg #[.slice d59.A d59.xs.length d59.c]] (w65.alloc (.cells #[(.slice d59.A d59.xs.length d59.c)] 24)) (fun e w' => ∃ m : MnA, e = .returned (.tuple #[.agg m.cs.toArray, .bool v2]) ∧ m.m = (mofB J).getD mn0 ∧ m.Ok w' ∧ Below ((w65.alloc (.cells #[(.slice d59.A d59.xs.length d59.c)] 24))).heap.size (w65.alloc (.cells #[(.slice d59.A d59.xs.length d59.c)] 24)) w') from by have h := pof12_any d59 (w65.alloc (.cells #[(.slice d59.A d59.xs.length d59.c)] 24)) (HLA.out _ B85.out) F84.out; unfold MofPost at h; rw [E74.out, HM2.out] at h; exact h))
 go_wp2_with (first | ((with_reducible refine wpList_load_by (o := ⟨some 38, .load 24 (.tmp 10), _, _, _, _⟩) ?e1 24 (.tmp 10) ?e2 ⟨w65.heap.size, 0, none⟩ ?e3 _ M89.out ?_); (case e1 => rfl); (case e2 => rfl); (case e3 => rfl)))
 refine C90.out.mono ?_
 rintro e w91 ⟨d86, rfl, hd87, hk88, hb92⟩
 have T93 := Lib.hid (T78.out.below hb92 T78.out.lt)
 have T94 := Lib.hid (T79.out.below hb92 T79.out.lt)
 have T95 := Lib.hid (T80.out.below hb92 T80.out.lt)
 have T96 := Lib.hid (T77.out.below hb92 T77.out.lt)
 have F97 := Lib.hid (F81.out.below hb92 (Nat.le_refl _))
 have F98 := Lib.hid (F82.out.below hb92 (Nat.le_refl _))
 have F99 := Lib.hid (F83.out.below hb92 (Nat.le_refl _))
 have F100 := Lib.hid (F84.out.below hb92 (Nat.le_refl _))
 have B101 := Lib.hid (B85.out.trans (hb92.mono B85.out.size))
 clear hb92
 have E102 := Lib.hid (hd87)
 have F103 := Lib.hid (hk88)
 clear hd87 hk88
 have SZ103 := Lib.hid (mn_size F103.out)
 have SQ103 := Lib.hid (show mnA0.cs.toArray.size = d86.cs.toArray.size by rw [mnA0_size, List.size_toArray]; exact (MnA.len F103.out).symm)
 have SO103 := Lib.hid (mn_ones d86)
 have L105 := Lib.hid (MnA.len F103.out)
 have hb106 := (Below.refl w91.heap.size w91).alloc (Nat.le_refl _) (.cells d86.cs.toArray 29)
 have T107 := Lib.hid (RowAt.new w91 d86.cs.toArray 29)
 have T108 := Lib.hid (T93.out.below hb106 T93.out.lt)
 have T109 := Lib.hid (T94.out.below hb106 T94.out.lt)
 have T110 := Lib.hid (T95.out.below hb106 T95.out.lt)
 have T111 := Lib.hid (T96.out.below hb106 T96.out.lt)
 have F112 := Lib.hid (F97.out.below hb106 (Nat.le_refl _))
 have F113 := Lib.hid (F98.out.below hb106 (Nat.le_refl _))
 have F114 := Lib.hid (F99.out.below hb106 (Nat.le_refl _))
 have F115 := Lib.hid (F100.out.below hb106 (Nat.le_refl _))
 have F116 := Lib.hid (F103.out.below hb106 (Nat.le_refl _))
 have B117 := Lib.hid (B101.out.trans (hb106.mono B101.out.size))
 clear hb106
 go_wp2_with (((with_reducible refine wpList_store_new (o := ⟨none, .store 29 (.tmp 12) (.tmp 40), _, _, _, _⟩) ?e1 29 (.tmp 12) (.tmp 40) ?e2 ?e3 mnA0.cs.toArray d86.cs.toArray ?e4 SZ103.out SQ103.out SO103.out ?_); (case e1 => rfl); (case e2 => rfl); (case e3 => (first | rfl | exact congrArg (fun q => Value.pointer (some ⟨q, 0, none⟩)) (World.size_alloc _ _).symm)); (case e4 => rfl)))
 go_ret
 exact ⟨rfl, B117.out⟩
set_option maxHeartbeats 16000000 in
theorem abl_is (a b : Bk) (w : World) (hlaid : Laid w) (wa : BkAt w a) (wb : BkAt w b) (e : Int) (J : List Rc) (v2 : Bool) (p : fewB a.rs = true) (q : fewB b.rs = true) (h1 : (mofB b.rs).isSome = false) (jj : bjE a.rs b.rs = (e, J)) (h2 : (mofB J).isSome = v2) : Calls Tryz.prog 5 #[.agg #[.slice a.A a.xs.length a.c], .agg #[.slice b.A b.xs.length b.c]] w fun e w' => e = .returned (.bool true) ∧ Below w.heap.size w w' := by
 have HLA := Lib.hid (fun (X : World) (hX : Below w.heap.size w X) => hlaid.below hX (Nat.le_refl _))
 have Fa := Lib.hid wa
 have Fb := Lib.hid wb
 have hzm := zeroMn
 rw [show mnA0.v = .agg mnA0.cs.toArray from rfl] at hzm
 have hzne : ¬ mnA0.cs.toArray = #[] := by decide
 have PA := Lib.hid p
 have PB := Lib.hid q
 have HM1 := Lib.hid h1
 have HM2 := Lib.hid h2
 have JJ := Lib.hid jj
 clear hlaid wa wb p q h1 h2 jj
 have B1 := Lib.hid (Below.refl w.heap.size w)
 have T2n := BoAt.new w (.slice a.A a.xs.length a.c)
 have T2 := Lib.hid T2n
 clear T2n
 have B3 := Lib.hid (B1.out.alloc B1.out.size (.cells #[(.slice a.A a.xs.length a.c)] 24))
 have T4 := Lib.hid (T2.out.old (.cells #[(.slice b.A b.xs.length b.c)] 24))
 have T5n := BoAt.new (w.alloc (.cells #[(.slice a.A a.xs.length a.c)] 24)) (.slice b.A b.xs.length b.c)
 simp only [World.size_alloc] at T5n
 have T5 := Lib.hid T5n
 clear T5n
 have B6 := Lib.hid (B3.out.alloc B3.out.size (.cells #[(.slice b.A b.xs.length b.c)] 24))
 have F7 := Lib.hid (Fa.out.below B6.out (Nat.le_refl _))
 have F8 := Lib.hid (Fb.out.below B6.out (Nat.le_refl _))
 go_enter Tryz.func5, Tryz.ntmps5
 have C9 := Lib.hid (abAwake ((w.alloc (.cells #[(.slice a.A a.xs.length a.c)] 24)).alloc (.cells #[(.slice b.A b.xs.length b.c)] 24)) (HLA.out _ B6.out))
 go_wp2_with fail
 refine C9.out.mono ?_
 rintro e w10 ⟨rfl, hb11⟩
 have T12 := Lib.hid (T4.out.below hb11 T4.out.lt)
 have T13 := Lib.hid (T5.out.below hb11 T5.out.lt)
 have F14 := Lib.hid (F7.out.below hb11 (Nat.le_refl _))
 have F15 := Lib.hid (F8.out.below hb11 (Nat.le_refl _))
 have B16 := Lib.hid (B6.out.trans (hb11.mono B6.out.size))
 clear hb11
 have M17 := Lib.hid (T12.out.load)
 have C18 := Lib.hid (fewB_any a w10 F14.out)
 rw [PA.out] at C18
 go_wp2_with (first | ((with_reducible refine wpList_load_by (o := ⟨some 22, .load 24 (.tmp 2), _, _, _, _⟩) ?e1 24 (.tmp 2) ?e2 ⟨w.heap.size, 0, none⟩ ?e3 _ M17.out ?_); (case e1 => rfl); (case e2 => rfl); (case e3 => rfl)))
 refine C18.out.mono ?_
 rintro e w19 ⟨rfl, hb20⟩
 have T21 := Lib.hid (T12.out.below hb20 T12.out.lt)
 have T22 := Lib.hid (T13.out.below hb20 T13.out.lt)
 have F23 := Lib.hid (F14.out.below hb20 (Nat.le_refl _))
 have F24 := Lib.hid (F15.out.below hb20 (Nat.le_refl _))
 have B25 := Lib.hid (B16.out.trans (hb20.mono B16.out.size))
 clear hb20
 have M26 := Lib.hid (T22.out.load)
 have C27 := Lib.hid (fewB_any b w19 F24.out)
 rw [PB.out] at C27
 go_wp2_with (first | ((with_reducible refine wpList_load_by (o := ⟨some 24, .load 24 (.tmp 3), _, _, _, _⟩) ?e1 24 (.tmp 3) ?e2 ⟨(w.heap.size + 1), 0, none⟩ ?e3 _ M26.out ?_); (case e1 => rfl); (case e2 => rfl); (case e3 => rfl)))
 refine C27.out.mono ?_
 rintro e w28 ⟨rfl, hb29⟩
 have T30 := Lib.hid (T21.out.below hb29 T21.out.lt)
 have T31 := Lib.hid (T22.out.below hb29 T22.out.lt)
 have F32 := Lib.hid (F23.out.below hb29 (Nat.le_refl _))
 have F33 := Lib.hid (F24.out.below hb29 (Nat.le_refl _))
 have B34 := Lib.hid (B25.out.trans (hb29.mono B25.out.size))
 clear hb29
 have M38 := Lib.hid (T31.out.load)
 have C39 := Lib.hid ((show Calls Tryz.prog 21 #[.agg #[.slice b.A b.xs.length b.c]] w28 (fun e w' => ∃ m : MnA, e = .returned (.tuple #[.agg m.cs.toArray, .bool false]) ∧ m.m = (mofB b.rs).getD mn0 ∧ m.Ok w' ∧ Below (w28).heap.size w28 w') from by have h := pof12_any b w28 (HLA.out _ B34.out) F33.out; unfold MofPost at h; rw [HM1.out] at h; exact h))
 go_wp2_with (first | ((with_reducible refine wpList_load_by (o := ⟨some 27, .load 24 (.tmp 3), _, _, _, _⟩) ?e1 24 (.tmp 3) ?e2 ⟨(w.heap.size + 1), 0, none⟩ ?e3 _ M38.out ?_); (case e1 => rfl); (case e2 => rfl); (case e3 => rfl)))
 refine C39.out.mono ?_
 rintro e w40 ⟨d35, rfl, hd36, hk37, hb41⟩
 have T42 := Lib.hid (T30.out.below hb41 T30.out.lt)
 have T43 := Lib.hid (T31.out.below hb41 T31.out.lt)
 have F44 := Lib.hid (F32.out.below hb41 (Nat.le_refl _))
 have F45 := Lib.hid (F33.out.below hb41 (Nat.le_refl _))
 have B46 := Lib.hid (B34.out.trans (hb41.mono B34.out.size))
 clear hb41
 have E47 := Lib.hid (hd36)
 have F48 := Lib.hid (hk37)
 clear hd36 hk37
 have SZ48 := Lib.hid (mn_size F48.out)
 have SQ48 := Lib.hid (show mnA0.cs.toArray.size = d35.cs.toArray.size by rw [mnA0_size, List.size_toArray]; exact (MnA.len F48.out).symm)
 have SO48 := Lib.hid (mn_ones d35)
 have L50 := Lib.hid (MnA.len F48.out)
 have hb51 := (Below.refl w40.heap.size w40).alloc (Nat.le_refl _) (.cells d35.cs.toArray 29)
 have T52 := Lib.hid (RowAt.new w40 d35.cs.toArray 29)
 have T53 := Lib.hid (T42.out.below hb51 T42.out.lt)
 have T54 := Lib.hid (T43.out.below hb51 T43.out.lt)
 have F55 := Lib.hid (F44.out.below hb51 (Nat.le_refl _))
 have F56 := Lib.hid (F45.out.below hb51 (Nat.le_refl _))
 have F57 := Lib.hid (F48.out.below hb51 (Nat.le_refl _))
 have B58 := Lib.hid (B46.out.trans (hb51.mono B46.out.size))
 clear hb51
 have M62 := Lib.hid (T53.out.load)
 have M63 := Lib.hid (T54.out.load)
 have C64 := Lib.hid (bjoin_any a b (w40.alloc (.cells d35.cs.toArray 29)) (HLA.out _ B58.out) F55.out F56.out)
 unfold BJoinPost at C64
 rw [JJ.out] at C64
 dsimp only at C64
 go_wp2_with (first | ((with_reducible refine wpList_load_by (o := ⟨some 32, .load 24 (.tmp 2), _, _, _, _⟩) ?e1 24 (.tmp 2) ?e2 ⟨w.heap.size, 0, none⟩ ?e3 _ M62.out ?_); (case e1 => rfl); (case e2 => rfl); (case e3 => rfl)) | ((with_reducible refine wpList_load_by (o := ⟨some 33, .load 24 (.tmp 3), _, _, _, _⟩) ?e1 24 (.tmp 3) ?e2 ⟨(w.heap.size + 1), 0, none⟩ ?e3 _ M63.out ?_); (case e1 => rfl); (case e2 => rfl); (case e3 => rfl)) | ((with_reducible refine wpList_store_new (o := ⟨none, .store 29 (.tmp 8) (.tmp 29), _, _, _, _⟩) ?e1 29 (.tmp 8) (.tmp 29) ?e2 ?e3 mnA0.cs.toArray d35.cs.toArray ?e4 SZ48.out SQ48.out SO48.out ?_); (case e1 => rfl); (case e2 => rfl); (case e3 => (first | rfl | exact congrArg (fun q => Value.pointer (some ⟨q, 0, none⟩)) (World.size_alloc _ _).symm)); (case e4 => rfl)))
 refine C64.out.mono ?_
 rintro e w65 ⟨d59, rfl, hd60, hk61, hb66⟩
 have T67 := Lib.hid (T53.out.below hb66 T53.out.lt)
 have T68 := Lib.hid (T54.out.below hb66 T54.out.lt)
 have T69 := Lib.hid (T52.out.below hb66 T52.out.lt)
 have F70 := Lib.hid (F55.out.below hb66 (Nat.le_refl _))
 have F71 := Lib.hid (F56.out.below hb66 (Nat.le_refl _))
 have F72 := Lib.hid (F57.out.below hb66 (Nat.le_refl _))
 have B73 := Lib.hid (B58.out.trans (hb66.mono B58.out.size))
 clear hb66
 have E74 := Lib.hid (hd60)
 have F75 := Lib.hid (hk61)
 clear hd60 hk61
 have hb76 := (Below.refl w65.heap.size w65).alloc (Nat.le_refl _) (.cells #[(.slice d59.A d59.xs.length d59.c)] 24)
 have T77 := Lib.hid (BoAt.new w65 (.slice d59.A d59.xs.length d59.c))
 have T78 := Lib.hid (T67.out.below hb76 T67.out.lt)
 have T79 := Lib.hid (T68.out.below hb76 T68.out.lt)
 have T80 := Lib.hid (T69.out.below hb76 T69.out.lt)
 have F81 := Lib.hid (F70.out.below hb76 (Nat.le_refl _))
 have F82 := Lib.hid (F71.out.below hb76 (Nat.le_refl _))
 have F83 := Lib.hid (F72.out.below hb76 (Nat.le_refl _))
 have F84 := Lib.hid (F75.out.below hb76 (Nat.le_refl _))
 have B85 := Lib.hid (B73.out.trans (hb76.mono B73.out.size))
 clear hb76
 have M89 := Lib.hid (T77.out.load)
 have C90 := Lib.hid ((show Calls Tryz.prog 21 #[.agg #[.slice d59.A d59.xs.length d59.c]] (w65.alloc (.cells #[(.slice d59.A d59.xs.length d59.c)] 24)) (fun e w' => ∃ m : MnA, e = .returned (.tuple #[.agg m.cs.toArray, .bool v2]) ∧ m.m = (mofB J).getD mn0 ∧ m.Ok w' ∧ Below ((w65.alloc (.cells #[(.slice d59.A d59.xs.length d59.c)] 24))).heap.size (w65.alloc (.cells #[(.slice d59.A d59.xs.length d59.c)] 24)) w') from by have h := pof12_any d59 (w65.alloc (.cells #[(.slice d59.A d59.xs.length d59.c)] 24)) (HLA.out _ B85.out) F84.out; unfold MofPost at h; rw [E74.out, HM2.out] at h; exact h))
 go_wp2_with (first | ((with_reducible refine wpList_load_by (o := ⟨some 38, .load 24 (.tmp 10), _, _, _, _⟩) ?e1 24 (.tmp 10) ?e2 ⟨w65.heap.size, 0, none⟩ ?e3 _ M89.out ?_); (case e1 => rfl); (case e2 => rfl); (case e3 => rfl)))
 refine C90.out.mono ?_
 rintro e w91 ⟨d86, rfl, hd87, hk88, hb92⟩
 have T93 := Lib.hid (T78.out.below hb92 T78.out.lt)
 have T94 := Lib.hid (T79.out.below hb92 T79.out.lt)
 have T95 := Lib.hid (T80.out.below hb92 T80.out.lt)
 have T96 := Lib.hid (T77.out.below hb92 T77.out.lt)
 have F97 := Lib.hid (F81.out.below hb92 (Nat.le_refl _))
 have F98 := Lib.hid (F82.out.below hb92 (Nat.le_refl _))
 have F99 := Lib.hid (F83.out.below hb92 (Nat.le_refl _))
 have F100 := Lib.hid (F84.out.below hb92 (Nat.le_refl _))
 have B101 := Lib.hid (B85.out.trans (hb92.mono B85.out.size))
 clear hb92
 have E102 := Lib.hid (hd87)
 have F103 := Lib.hid (hk88)
 clear hd87 hk88
 have SZ103 := Lib.hid (mn_size F103.out)
 have SQ103 := Lib.hid (show mnA0.cs.toArray.size = d86.cs.toArray.size by rw [mnA0_size, List.size_toArray]; exact (MnA.len F103.out).symm)
 have SO103 := Lib.hid (mn_ones d86)
 have L105 := Lib.hid (MnA.len F103.out)
 have hb106 := (Below.refl w91.heap.size w91).alloc (Nat.le_refl _) (.cells d86.cs.toArray 29)
 have T107 := Lib.hid (RowAt.new w91 d86.cs.toArray 29)
 have T108 := Lib.hid (T93.out.below hb106 T93.out.lt)
 have T109 := Lib.hid (T94.out.below hb106 T94.out.lt)
 have T110 := Lib.hid (T95.out.below hb106 T95.out.lt)
 have T111 := Lib.hid (T96.out.below hb106 T96.out.lt)
 have F112 := Lib.hid (F97.out.below hb106 (Nat.le_refl _))
 have F113 := Lib.hid (F98.out.below hb106 (Nat.le_refl _))
 have F114 := Lib.hid (F99.out.below hb106 (Nat.le_refl _))
 have F115 := Lib.hid (F100.out.below hb106 (Nat.le_refl _))
 have F116 := Lib.hid (F103.out.below hb106 (Nat.le_refl _))
 have B117 := Lib.hid (B101.out.trans (hb106.mono B101.out.size))
 clear hb106
 go_wp2_with (((with_reducible refine wpList_store_new (o := ⟨none, .store 29 (.tmp 12) (.tmp 40), _, _, _, _⟩) ?e1 29 (.tmp 12) (.tmp 40) ?e2 ?e3 mnA0.cs.toArray d86.cs.toArray ?e4 SZ103.out SQ103.out SO103.out ?_); (case e1 => rfl); (case e2 => rfl); (case e3 => (first | rfl | exact congrArg (fun q => Value.pointer (some ⟨q, 0, none⟩)) (World.size_alloc _ _).symm)); (case e4 => rfl)))
 go_ret
 exact ⟨rfl, B117.out⟩
set_option maxHeartbeats 16000000 in
theorem abl_was (a b : Bk) (w : World) (hlaid : Laid w) (wa : BkAt w a) (wb : BkAt w b) (e : Int) (J : List Rc) (p : fewB a.rs = true) (q : fewB b.rs = true) (h1 : (mofB b.rs).isSome = true) (jj : bjE a.rs b.rs = (e, J)) (h2 : (mofB J).isSome = false) : Calls Tryz.prog 5 #[.agg #[.slice a.A a.xs.length a.c], .agg #[.slice b.A b.xs.length b.c]] w fun e w' => e = .returned (.bool true) ∧ Below w.heap.size w w' := by
 have HLA := Lib.hid (fun (X : World) (hX : Below w.heap.size w X) => hlaid.below hX (Nat.le_refl _))
 have Fa := Lib.hid wa
 have Fb := Lib.hid wb
 have hzm := zeroMn
 rw [show mnA0.v = .agg mnA0.cs.toArray from rfl] at hzm
 have hzne : ¬ mnA0.cs.toArray = #[] := by decide
 have PA := Lib.hid p
 have PB := Lib.hid q
 have HM1 := Lib.hid h1
 have HM2 := Lib.hid h2
 have JJ := Lib.hid jj
 clear hlaid wa wb p q h1 h2 jj
 have B1 := Lib.hid (Below.refl w.heap.size w)
 have T2n := BoAt.new w (.slice a.A a.xs.length a.c)
 have T2 := Lib.hid T2n
 clear T2n
 have B3 := Lib.hid (B1.out.alloc B1.out.size (.cells #[(.slice a.A a.xs.length a.c)] 24))
 have T4 := Lib.hid (T2.out.old (.cells #[(.slice b.A b.xs.length b.c)] 24))
 have T5n := BoAt.new (w.alloc (.cells #[(.slice a.A a.xs.length a.c)] 24)) (.slice b.A b.xs.length b.c)
 simp only [World.size_alloc] at T5n
 have T5 := Lib.hid T5n
 clear T5n
 have B6 := Lib.hid (B3.out.alloc B3.out.size (.cells #[(.slice b.A b.xs.length b.c)] 24))
 have F7 := Lib.hid (Fa.out.below B6.out (Nat.le_refl _))
 have F8 := Lib.hid (Fb.out.below B6.out (Nat.le_refl _))
 go_enter Tryz.func5, Tryz.ntmps5
 have C9 := Lib.hid (abAwake ((w.alloc (.cells #[(.slice a.A a.xs.length a.c)] 24)).alloc (.cells #[(.slice b.A b.xs.length b.c)] 24)) (HLA.out _ B6.out))
 go_wp2_with fail
 refine C9.out.mono ?_
 rintro e w10 ⟨rfl, hb11⟩
 have T12 := Lib.hid (T4.out.below hb11 T4.out.lt)
 have T13 := Lib.hid (T5.out.below hb11 T5.out.lt)
 have F14 := Lib.hid (F7.out.below hb11 (Nat.le_refl _))
 have F15 := Lib.hid (F8.out.below hb11 (Nat.le_refl _))
 have B16 := Lib.hid (B6.out.trans (hb11.mono B6.out.size))
 clear hb11
 have M17 := Lib.hid (T12.out.load)
 have C18 := Lib.hid (fewB_any a w10 F14.out)
 rw [PA.out] at C18
 go_wp2_with (first | ((with_reducible refine wpList_load_by (o := ⟨some 22, .load 24 (.tmp 2), _, _, _, _⟩) ?e1 24 (.tmp 2) ?e2 ⟨w.heap.size, 0, none⟩ ?e3 _ M17.out ?_); (case e1 => rfl); (case e2 => rfl); (case e3 => rfl)))
 refine C18.out.mono ?_
 rintro e w19 ⟨rfl, hb20⟩
 have T21 := Lib.hid (T12.out.below hb20 T12.out.lt)
 have T22 := Lib.hid (T13.out.below hb20 T13.out.lt)
 have F23 := Lib.hid (F14.out.below hb20 (Nat.le_refl _))
 have F24 := Lib.hid (F15.out.below hb20 (Nat.le_refl _))
 have B25 := Lib.hid (B16.out.trans (hb20.mono B16.out.size))
 clear hb20
 have M26 := Lib.hid (T22.out.load)
 have C27 := Lib.hid (fewB_any b w19 F24.out)
 rw [PB.out] at C27
 go_wp2_with (first | ((with_reducible refine wpList_load_by (o := ⟨some 24, .load 24 (.tmp 3), _, _, _, _⟩) ?e1 24 (.tmp 3) ?e2 ⟨(w.heap.size + 1), 0, none⟩ ?e3 _ M26.out ?_); (case e1 => rfl); (case e2 => rfl); (case e3 => rfl)))
 refine C27.out.mono ?_
 rintro e w28 ⟨rfl, hb29⟩
 have T30 := Lib.hid (T21.out.below hb29 T21.out.lt)
 have T31 := Lib.hid (T22.out.below hb29 T22.out.lt)
 have F32 := Lib.hid (F23.out.below hb29 (Nat.le_refl _))
 have F33 := Lib.hid (F24.out.below hb29 (Nat.le_refl _))
 have B34 := Lib.hid (B25.out.trans (hb29.mono B25.out.size))
 clear hb29
 have M38 := Lib.hid (T31.out.load)
 have C39 := Lib.hid ((show Calls Tryz.prog 21 #[.agg #[.slice b.A b.xs.length b.c]] w28 (fun e w' => ∃ m : MnA, e = .returned (.tuple #[.agg m.cs.toArray, .bool true]) ∧ m.m = (mofB b.rs).getD mn0 ∧ m.Ok w' ∧ Below (w28).heap.size w28 w') from by have h := pof12_any b w28 (HLA.out _ B34.out) F33.out; unfold MofPost at h; rw [HM1.out] at h; exact h))
 go_wp2_with (first | ((with_reducible refine wpList_load_by (o := ⟨some 27, .load 24 (.tmp 3), _, _, _, _⟩) ?e1 24 (.tmp 3) ?e2 ⟨(w.heap.size + 1), 0, none⟩ ?e3 _ M38.out ?_); (case e1 => rfl); (case e2 => rfl); (case e3 => rfl)))
 refine C39.out.mono ?_
 rintro e w40 ⟨d35, rfl, hd36, hk37, hb41⟩
 have T42 := Lib.hid (T30.out.below hb41 T30.out.lt)
 have T43 := Lib.hid (T31.out.below hb41 T31.out.lt)
 have F44 := Lib.hid (F32.out.below hb41 (Nat.le_refl _))
 have F45 := Lib.hid (F33.out.below hb41 (Nat.le_refl _))
 have B46 := Lib.hid (B34.out.trans (hb41.mono B34.out.size))
 clear hb41
 have E47 := Lib.hid (hd36)
 have F48 := Lib.hid (hk37)
 clear hd36 hk37
 have SZ48 := Lib.hid (mn_size F48.out)
 have SQ48 := Lib.hid (show mnA0.cs.toArray.size = d35.cs.toArray.size by rw [mnA0_size, List.size_toArray]; exact (MnA.len F48.out).symm)
 have SO48 := Lib.hid (mn_ones d35)
 have L50 := Lib.hid (MnA.len F48.out)
 have hb51 := (Below.refl w40.heap.size w40).alloc (Nat.le_refl _) (.cells d35.cs.toArray 29)
 have T52 := Lib.hid (RowAt.new w40 d35.cs.toArray 29)
 have T53 := Lib.hid (T42.out.below hb51 T42.out.lt)
 have T54 := Lib.hid (T43.out.below hb51 T43.out.lt)
 have F55 := Lib.hid (F44.out.below hb51 (Nat.le_refl _))
 have F56 := Lib.hid (F45.out.below hb51 (Nat.le_refl _))
 have F57 := Lib.hid (F48.out.below hb51 (Nat.le_refl _))
 have B58 := Lib.hid (B46.out.trans (hb51.mono B46.out.size))
 clear hb51
 have M62 := Lib.hid (T53.out.load)
 have M63 := Lib.hid (T54.out.load)
 have C64 := Lib.hid (bjoin_any a b (w40.alloc (.cells d35.cs.toArray 29)) (HLA.out _ B58.out) F55.out F56.out)
 unfold BJoinPost at C64
 rw [JJ.out] at C64
 dsimp only at C64
 go_wp2_with (first | ((with_reducible refine wpList_load_by (o := ⟨some 32, .load 24 (.tmp 2), _, _, _, _⟩) ?e1 24 (.tmp 2) ?e2 ⟨w.heap.size, 0, none⟩ ?e3 _ M62.out ?_); (case e1 => rfl); (case e2 => rfl); (case e3 => rfl)) | ((with_reducible refine wpList_load_by (o := ⟨some 33, .load 24 (.tmp 3), _, _, _, _⟩) ?e1 24 (.tmp 3) ?e2 ⟨(w.heap.size + 1), 0, none⟩ ?e3 _ M63.out ?_); (case e1 => rfl); (case e2 => rfl); (case e3 => rfl)) | ((with_reducible refine wpList_store_new (o := ⟨none, .store 29 (.tmp 8) (.tmp 29), _, _, _, _⟩) ?e1 29 (.tmp 8) (.tmp 29) ?e2 ?e3 mnA0.cs.toArray d35.cs.toArray ?e4 SZ48.out SQ48.out SO48.out ?_); (case e1 => rfl); (case e2 => rfl); (case e3 => (first | rfl | exact congrArg (fun q => Value.pointer (some ⟨q, 0, none⟩)) (World.size_alloc _ _).symm)); (case e4 => rfl)))
 refine C64.out.mono ?_
 rintro e w65 ⟨d59, rfl, hd60, hk61, hb66⟩
 have T67 := Lib.hid (T53.out.below hb66 T53.out.lt)
 have T68 := Lib.hid (T54.out.below hb66 T54.out.lt)
 have T69 := Lib.hid (T52.out.below hb66 T52.out.lt)
 have F70 := Lib.hid (F55.out.below hb66 (Nat.le_refl _))
 have F71 := Lib.hid (F56.out.below hb66 (Nat.le_refl _))
 have F72 := Lib.hid (F57.out.below hb66 (Nat.le_refl _))
 have B73 := Lib.hid (B58.out.trans (hb66.mono B58.out.size))
 clear hb66
 have E74 := Lib.hid (hd60)
 have F75 := Lib.hid (hk61)
 clear hd60 hk61
 have hb76 := (Below.refl w65.heap.size w65).alloc (Nat.le_refl _) (.cells #[(.slice d59.A d59.xs.length d59.c)] 24)
 have T77 := Lib.hid (BoAt.new w65 (.slice d59.A d59.xs.length d59.c))
 have T78 := Lib.hid (T67.out.below hb76 T67.out.lt)
 have T79 := Lib.hid (T68.out.below hb76 T68.out.lt)
 have T80 := Lib.hid (T69.out.below hb76 T69.out.lt)
 have F81 := Lib.hid (F70.out.below hb76 (Nat.le_refl _))
 have F82 := Lib.hid (F71.out.below hb76 (Nat.le_refl _))
 have F83 := Lib.hid (F72.out.below hb76 (Nat.le_refl _))
 have F84 := Lib.hid (F75.out.below hb76 (Nat.le_refl _))
 have B85 := Lib.hid (B73.out.trans (hb76.mono B73.out.size))
 clear hb76
 have M89 := Lib.hid (T77.out.load)
 have C90 := Lib.hid ((show Calls Tryz.prog 21 #[.agg #[.slice d59.A d59.xs.length d59.c]] (w65.alloc (.cells #[(.slice d59.A d59.xs.length d59.c)] 24)) (fun e w' => ∃ m : MnA, e = .returned (.tuple #[.agg m.cs.toArray, .bool false]) ∧ m.m = (mofB J).getD mn0 ∧ m.Ok w' ∧ Below ((w65.alloc (.cells #[(.slice d59.A d59.xs.length d59.c)] 24))).heap.size (w65.alloc (.cells #[(.slice d59.A d59.xs.length d59.c)] 24)) w') from by have h := pof12_any d59 (w65.alloc (.cells #[(.slice d59.A d59.xs.length d59.c)] 24)) (HLA.out _ B85.out) F84.out; unfold MofPost at h; rw [E74.out, HM2.out] at h; exact h))
 go_wp2_with (first | ((with_reducible refine wpList_load_by (o := ⟨some 38, .load 24 (.tmp 10), _, _, _, _⟩) ?e1 24 (.tmp 10) ?e2 ⟨w65.heap.size, 0, none⟩ ?e3 _ M89.out ?_); (case e1 => rfl); (case e2 => rfl); (case e3 => rfl)))
 refine C90.out.mono ?_
 rintro e w91 ⟨d86, rfl, hd87, hk88, hb92⟩
 have T93 := Lib.hid (T78.out.below hb92 T78.out.lt)
 have T94 := Lib.hid (T79.out.below hb92 T79.out.lt)
 have T95 := Lib.hid (T80.out.below hb92 T80.out.lt)
 have T96 := Lib.hid (T77.out.below hb92 T77.out.lt)
 have F97 := Lib.hid (F81.out.below hb92 (Nat.le_refl _))
 have F98 := Lib.hid (F82.out.below hb92 (Nat.le_refl _))
 have F99 := Lib.hid (F83.out.below hb92 (Nat.le_refl _))
 have F100 := Lib.hid (F84.out.below hb92 (Nat.le_refl _))
 have B101 := Lib.hid (B85.out.trans (hb92.mono B85.out.size))
 clear hb92
 have E102 := Lib.hid (hd87)
 have F103 := Lib.hid (hk88)
 clear hd87 hk88
 have SZ103 := Lib.hid (mn_size F103.out)
 have SQ103 := Lib.hid (show mnA0.cs.toArray.size = d86.cs.toArray.size by rw [mnA0_size, List.size_toArray]; exact (MnA.len F103.out).symm)
 have SO103 := Lib.hid (mn_ones d86)
 have L105 := Lib.hid (MnA.len F103.out)
 have hb106 := (Below.refl w91.heap.size w91).alloc (Nat.le_refl _) (.cells d86.cs.toArray 29)
 have T107 := Lib.hid (RowAt.new w91 d86.cs.toArray 29)
 have T108 := Lib.hid (T93.out.below hb106 T93.out.lt)
 have T109 := Lib.hid (T94.out.below hb106 T94.out.lt)
 have T110 := Lib.hid (T95.out.below hb106 T95.out.lt)
 have T111 := Lib.hid (T96.out.below hb106 T96.out.lt)
 have F112 := Lib.hid (F97.out.below hb106 (Nat.le_refl _))
 have F113 := Lib.hid (F98.out.below hb106 (Nat.le_refl _))
 have F114 := Lib.hid (F99.out.below hb106 (Nat.le_refl _))
 have F115 := Lib.hid (F100.out.below hb106 (Nat.le_refl _))
 have F116 := Lib.hid (F103.out.below hb106 (Nat.le_refl _))
 have B117 := Lib.hid (B101.out.trans (hb106.mono B101.out.size))
 clear hb106
 go_wp2_with (((with_reducible refine wpList_store_new (o := ⟨none, .store 29 (.tmp 12) (.tmp 40), _, _, _, _⟩) ?e1 29 (.tmp 12) (.tmp 40) ?e2 ?e3 mnA0.cs.toArray d86.cs.toArray ?e4 SZ103.out SQ103.out SO103.out ?_); (case e1 => rfl); (case e2 => rfl); (case e3 => (first | rfl | exact congrArg (fun q => Value.pointer (some ⟨q, 0, none⟩)) (World.size_alloc _ _).symm)); (case e4 => rfl)))
 go_ret
 exact ⟨rfl, B117.out⟩
set_option maxHeartbeats 16000000 in
theorem abl_e1 (a b : Bk) (w : World) (hlaid : Laid w) (wa : BkAt w a) (wb : BkAt w b) (p : fewB a.rs = true) (q : fewB b.rs = true) (J : List Rc) (h1 : (mofB b.rs).isSome = true) (jj : bjE a.rs b.rs = (1, J)) (h2 : (mofB J).isSome = true) : Calls Tryz.prog 5 #[.agg #[.slice a.A a.xs.length a.c], .agg #[.slice b.A b.xs.length b.c]] w fun e w' => e = .returned (.bool true) ∧ Below w.heap.size w w' := by
 have HLA := Lib.hid (fun (X : World) (hX : Below w.heap.size w X) => hlaid.below hX (Nat.le_refl _))
 have Fa := Lib.hid wa
 have Fb := Lib.hid wb
 have hzm := zeroMn
 rw [show mnA0.v = .agg mnA0.cs.toArray from rfl] at hzm
 have hzne : ¬ mnA0.cs.toArray = #[] := by decide
 have PA := Lib.hid p
 have PB := Lib.hid q
 have HM1 := Lib.hid h1
 have HM2 := Lib.hid h2
 have JJ := Lib.hid jj
 clear hlaid wa wb p q h1 h2 jj
 have B1 := Lib.hid (Below.refl w.heap.size w)
 have T2n := BoAt.new w (.slice a.A a.xs.length a.c)
 have T2 := Lib.hid T2n
 clear T2n
 have B3 := Lib.hid (B1.out.alloc B1.out.size (.cells #[(.slice a.A a.xs.length a.c)] 24))
 have T4 := Lib.hid (T2.out.old (.cells #[(.slice b.A b.xs.length b.c)] 24))
 have T5n := BoAt.new (w.alloc (.cells #[(.slice a.A a.xs.length a.c)] 24)) (.slice b.A b.xs.length b.c)
 simp only [World.size_alloc] at T5n
 have T5 := Lib.hid T5n
 clear T5n
 have B6 := Lib.hid (B3.out.alloc B3.out.size (.cells #[(.slice b.A b.xs.length b.c)] 24))
 have F7 := Lib.hid (Fa.out.below B6.out (Nat.le_refl _))
 have F8 := Lib.hid (Fb.out.below B6.out (Nat.le_refl _))
 go_enter Tryz.func5, Tryz.ntmps5
 have C9 := Lib.hid (abAwake ((w.alloc (.cells #[(.slice a.A a.xs.length a.c)] 24)).alloc (.cells #[(.slice b.A b.xs.length b.c)] 24)) (HLA.out _ B6.out))
 go_wp2_with fail
 refine C9.out.mono ?_
 rintro e w10 ⟨rfl, hb11⟩
 have T12 := Lib.hid (T4.out.below hb11 T4.out.lt)
 have T13 := Lib.hid (T5.out.below hb11 T5.out.lt)
 have F14 := Lib.hid (F7.out.below hb11 (Nat.le_refl _))
 have F15 := Lib.hid (F8.out.below hb11 (Nat.le_refl _))
 have B16 := Lib.hid (B6.out.trans (hb11.mono B6.out.size))
 clear hb11
 have M17 := Lib.hid (T12.out.load)
 have C18 := Lib.hid (fewB_any a w10 F14.out)
 rw [PA.out] at C18
 go_wp2_with (first | ((with_reducible refine wpList_load_by (o := ⟨some 22, .load 24 (.tmp 2), _, _, _, _⟩) ?e1 24 (.tmp 2) ?e2 ⟨w.heap.size, 0, none⟩ ?e3 _ M17.out ?_); (case e1 => rfl); (case e2 => rfl); (case e3 => rfl)))
 refine C18.out.mono ?_
 rintro e w19 ⟨rfl, hb20⟩
 have T21 := Lib.hid (T12.out.below hb20 T12.out.lt)
 have T22 := Lib.hid (T13.out.below hb20 T13.out.lt)
 have F23 := Lib.hid (F14.out.below hb20 (Nat.le_refl _))
 have F24 := Lib.hid (F15.out.below hb20 (Nat.le_refl _))
 have B25 := Lib.hid (B16.out.trans (hb20.mono B16.out.size))
 clear hb20
 have M26 := Lib.hid (T22.out.load)
 have C27 := Lib.hid (fewB_any b w19 F24.out)
 rw [PB.out] at C27
 go_wp2_with (first | ((with_reducible refine wpList_load_by (o := ⟨some 24, .load 24 (.tmp 3), _, _, _, _⟩) ?e1 24 (.tmp 3) ?e2 ⟨(w.heap.size + 1), 0, none⟩ ?e3 _ M26.out ?_); (case e1 => rfl); (case e2 => rfl); (case e3 => rfl)))
 refine C27.out.mono ?_
 rintro e w28 ⟨rfl, hb29⟩
 have T30 := Lib.hid (T21.out.below hb29 T21.out.lt)
 have T31 := Lib.hid (T22.out.below hb29 T22.out.lt)
 have F32 := Lib.hid (F23.out.below hb29 (Nat.le_refl _))
 have F33 := Lib.hid (F24.out.below hb29 (Nat.le_refl _))
 have B34 := Lib.hid (B25.out.trans (hb29.mono B25.out.size))
 clear hb29
 have M38 := Lib.hid (T31.out.load)
 have C39 := Lib.hid ((show Calls Tryz.prog 21 #[.agg #[.slice b.A b.xs.length b.c]] w28 (fun e w' => ∃ m : MnA, e = .returned (.tuple #[.agg m.cs.toArray, .bool true]) ∧ m.m = (mofB b.rs).getD mn0 ∧ m.Ok w' ∧ Below (w28).heap.size w28 w') from by have h := pof12_any b w28 (HLA.out _ B34.out) F33.out; unfold MofPost at h; rw [HM1.out] at h; exact h))
 go_wp2_with (first | ((with_reducible refine wpList_load_by (o := ⟨some 27, .load 24 (.tmp 3), _, _, _, _⟩) ?e1 24 (.tmp 3) ?e2 ⟨(w.heap.size + 1), 0, none⟩ ?e3 _ M38.out ?_); (case e1 => rfl); (case e2 => rfl); (case e3 => rfl)))
 refine C39.out.mono ?_
 rintro e w40 ⟨d35, rfl, hd36, hk37, hb41⟩
 have T42 := Lib.hid (T30.out.below hb41 T30.out.lt)
 have T43 := Lib.hid (T31.out.below hb41 T31.out.lt)
 have F44 := Lib.hid (F32.out.below hb41 (Nat.le_refl _))
 have F45 := Lib.hid (F33.out.below hb41 (Nat.le_refl _))
 have B46 := Lib.hid (B34.out.trans (hb41.mono B34.out.size))
 clear hb41
 have E47 := Lib.hid (hd36)
 have F48 := Lib.hid (hk37)
 clear hd36 hk37
 have SZ48 := Lib.hid (mn_size F48.out)
 have SQ48 := Lib.hid (show mnA0.cs.toArray.size = d35.cs.toArray.size by rw [mnA0_size, List.size_toArray]; exact (MnA.len F48.out).symm)
 have SO48 := Lib.hid (mn_ones d35)
 have L50 := Lib.hid (MnA.len F48.out)
 have hb51 := (Below.refl w40.heap.size w40).alloc (Nat.le_refl _) (.cells d35.cs.toArray 29)
 have T52 := Lib.hid (RowAt.new w40 d35.cs.toArray 29)
 have T53 := Lib.hid (T42.out.below hb51 T42.out.lt)
 have T54 := Lib.hid (T43.out.below hb51 T43.out.lt)
 have F55 := Lib.hid (F44.out.below hb51 (Nat.le_refl _))
 have F56 := Lib.hid (F45.out.below hb51 (Nat.le_refl _))
 have F57 := Lib.hid (F48.out.below hb51 (Nat.le_refl _))
 have B58 := Lib.hid (B46.out.trans (hb51.mono B46.out.size))
 clear hb51
 have M62 := Lib.hid (T53.out.load)
 have M63 := Lib.hid (T54.out.load)
 have C64 := Lib.hid (bjoin_any a b (w40.alloc (.cells d35.cs.toArray 29)) (HLA.out _ B58.out) F55.out F56.out)
 unfold BJoinPost at C64
 rw [JJ.out] at C64
 dsimp only at C64
 go_wp2_with (first | ((with_reducible refine wpList_load_by (o := ⟨some 32, .load 24 (.tmp 2), _, _, _, _⟩) ?e1 24 (.tmp 2) ?e2 ⟨w.heap.size, 0, none⟩ ?e3 _ M62.out ?_); (case e1 => rfl); (case e2 => rfl); (case e3 => rfl)) | ((with_reducible refine wpList_load_by (o := ⟨some 33, .load 24 (.tmp 3), _, _, _, _⟩) ?e1 24 (.tmp 3) ?e2 ⟨(w.heap.size + 1), 0, none⟩ ?e3 _ M63.out ?_); (case e1 => rfl); (case e2 => rfl); (case e3 => rfl)) | ((with_reducible refine wpList_store_new (o := ⟨none, .store 29 (.tmp 8) (.tmp 29), _, _, _, _⟩) ?e1 29 (.tmp 8) (.tmp 29) ?e2 ?e3 mnA0.cs.toArray d35.cs.toArray ?e4 SZ48.out SQ48.out SO48.out ?_); (case e1 => rfl); (case e2 => rfl); (case e3 => (first | rfl | exact congrArg (fun q => Value.pointer (some ⟨q, 0, none⟩)) (World.size_alloc _ _).symm)); (case e4 => rfl)))
 refine C64.out.mono ?_
 rintro e w65 ⟨d59, rfl, hd60, hk61, hb66⟩
 have T67 := Lib.hid (T53.out.below hb66 T53.out.lt)
 have T68 := Lib.hid (T54.out.below hb66 T54.out.lt)
 have T69 := Lib.hid (T52.out.below hb66 T52.out.lt)
 have F70 := Lib.hid (F55.out.below hb66 (Nat.le_refl _))
 have F71 := Lib.hid (F56.out.below hb66 (Nat.le_refl _))
 have F72 := Lib.hid (F57.out.below hb66 (Nat.le_refl _))
 have B73 := Lib.hid (B58.out.trans (hb66.mono B58.out.size))
 clear hb66
 have E74 := Lib.hid (hd60)
 have F75 := Lib.hid (hk61)
 clear hd60 hk61
 have hb76 := (Below.refl w65.heap.size w65).alloc (Nat.le_refl _) (.cells #[(.slice d59.A d59.xs.length d59.c)] 24)
 have T77 := Lib.hid (BoAt.new w65 (.slice d59.A d59.xs.length d59.c))
 have T78 := Lib.hid (T67.out.below hb76 T67.out.lt)
 have T79 := Lib.hid (T68.out.below hb76 T68.out.lt)
 have T80 := Lib.hid (T69.out.below hb76 T69.out.lt)
 have F81 := Lib.hid (F70.out.below hb76 (Nat.le_refl _))
 have F82 := Lib.hid (F71.out.below hb76 (Nat.le_refl _))
 have F83 := Lib.hid (F72.out.below hb76 (Nat.le_refl _))
 have F84 := Lib.hid (F75.out.below hb76 (Nat.le_refl _))
 have B85 := Lib.hid (B73.out.trans (hb76.mono B73.out.size))
 clear hb76
 have M89 := Lib.hid (T77.out.load)
 have C90 := Lib.hid ((show Calls Tryz.prog 21 #[.agg #[.slice d59.A d59.xs.length d59.c]] (w65.alloc (.cells #[(.slice d59.A d59.xs.length d59.c)] 24)) (fun e w' => ∃ m : MnA, e = .returned (.tuple #[.agg m.cs.toArray, .bool true]) ∧ m.m = (mofB J).getD mn0 ∧ m.Ok w' ∧ Below ((w65.alloc (.cells #[(.slice d59.A d59.xs.length d59.c)] 24))).heap.size (w65.alloc (.cells #[(.slice d59.A d59.xs.length d59.c)] 24)) w') from by have h := pof12_any d59 (w65.alloc (.cells #[(.slice d59.A d59.xs.length d59.c)] 24)) (HLA.out _ B85.out) F84.out; unfold MofPost at h; rw [E74.out, HM2.out] at h; exact h))
 go_wp2_with (first | ((with_reducible refine wpList_load_by (o := ⟨some 38, .load 24 (.tmp 10), _, _, _, _⟩) ?e1 24 (.tmp 10) ?e2 ⟨w65.heap.size, 0, none⟩ ?e3 _ M89.out ?_); (case e1 => rfl); (case e2 => rfl); (case e3 => rfl)))
 refine C90.out.mono ?_
 rintro e w91 ⟨d86, rfl, hd87, hk88, hb92⟩
 have T93 := Lib.hid (T78.out.below hb92 T78.out.lt)
 have T94 := Lib.hid (T79.out.below hb92 T79.out.lt)
 have T95 := Lib.hid (T80.out.below hb92 T80.out.lt)
 have T96 := Lib.hid (T77.out.below hb92 T77.out.lt)
 have F97 := Lib.hid (F81.out.below hb92 (Nat.le_refl _))
 have F98 := Lib.hid (F82.out.below hb92 (Nat.le_refl _))
 have F99 := Lib.hid (F83.out.below hb92 (Nat.le_refl _))
 have F100 := Lib.hid (F84.out.below hb92 (Nat.le_refl _))
 have B101 := Lib.hid (B85.out.trans (hb92.mono B85.out.size))
 clear hb92
 have E102 := Lib.hid (hd87)
 have F103 := Lib.hid (hk88)
 clear hd87 hk88
 have SZ103 := Lib.hid (mn_size F103.out)
 have SQ103 := Lib.hid (show mnA0.cs.toArray.size = d86.cs.toArray.size by rw [mnA0_size, List.size_toArray]; exact (MnA.len F103.out).symm)
 have SO103 := Lib.hid (mn_ones d86)
 have L105 := Lib.hid (MnA.len F103.out)
 have hb106 := (Below.refl w91.heap.size w91).alloc (Nat.le_refl _) (.cells d86.cs.toArray 29)
 have T107 := Lib.hid (RowAt.new w91 d86.cs.toArray 29)
 have T108 := Lib.hid (T93.out.below hb106 T93.out.lt)
 have T109 := Lib.hid (T94.out.below hb106 T94.out.lt)
 have T110 := Lib.hid (T95.out.below hb106 T95.out.lt)
 have T111 := Lib.hid (T96.out.below hb106 T96.out.lt)
 have F112 := Lib.hid (F97.out.below hb106 (Nat.le_refl _))
 have F113 := Lib.hid (F98.out.below hb106 (Nat.le_refl _))
 have F114 := Lib.hid (F99.out.below hb106 (Nat.le_refl _))
 have F115 := Lib.hid (F100.out.below hb106 (Nat.le_refl _))
 have F116 := Lib.hid (F103.out.below hb106 (Nat.le_refl _))
 have B117 := Lib.hid (B101.out.trans (hb106.mono B101.out.size))
 clear hb106
 go_wp2_with (((with_reducible refine wpList_store_new (o := ⟨none, .store 29 (.tmp 12) (.tmp 40), _, _, _, _⟩) ?e1 29 (.tmp 12) (.tmp 40) ?e2 ?e3 mnA0.cs.toArray d86.cs.toArray ?e4 SZ103.out SQ103.out SO103.out ?_); (case e1 => rfl); (case e2 => rfl); (case e3 => (first | rfl | exact congrArg (fun q => Value.pointer (some ⟨q, 0, none⟩)) (World.size_alloc _ _).symm)); (case e4 => rfl)))
 go_ret
 exact ⟨rfl, B117.out⟩
set_option maxHeartbeats 16000000 in
theorem abl_e4 (a b : Bk) (w : World) (hlaid : Laid w) (wa : BkAt w a) (wb : BkAt w b) (p : fewB a.rs = true) (q : fewB b.rs = true) (J : List Rc) (h1 : (mofB b.rs).isSome = true) (jj : bjE a.rs b.rs = (4, J)) (h2 : (mofB J).isSome = true) : Calls Tryz.prog 5 #[.agg #[.slice a.A a.xs.length a.c], .agg #[.slice b.A b.xs.length b.c]] w fun e w' => e = .returned (.bool true) ∧ Below w.heap.size w w' := by
 have HLA := Lib.hid (fun (X : World) (hX : Below w.heap.size w X) => hlaid.below hX (Nat.le_refl _))
 have Fa := Lib.hid wa
 have Fb := Lib.hid wb
 have hzm := zeroMn
 rw [show mnA0.v = .agg mnA0.cs.toArray from rfl] at hzm
 have hzne : ¬ mnA0.cs.toArray = #[] := by decide
 have PA := Lib.hid p
 have PB := Lib.hid q
 have HM1 := Lib.hid h1
 have HM2 := Lib.hid h2
 have JJ := Lib.hid jj
 clear hlaid wa wb p q h1 h2 jj
 have B1 := Lib.hid (Below.refl w.heap.size w)
 have T2n := BoAt.new w (.slice a.A a.xs.length a.c)
 have T2 := Lib.hid T2n
 clear T2n
 have B3 := Lib.hid (B1.out.alloc B1.out.size (.cells #[(.slice a.A a.xs.length a.c)] 24))
 have T4 := Lib.hid (T2.out.old (.cells #[(.slice b.A b.xs.length b.c)] 24))
 have T5n := BoAt.new (w.alloc (.cells #[(.slice a.A a.xs.length a.c)] 24)) (.slice b.A b.xs.length b.c)
 simp only [World.size_alloc] at T5n
 have T5 := Lib.hid T5n
 clear T5n
 have B6 := Lib.hid (B3.out.alloc B3.out.size (.cells #[(.slice b.A b.xs.length b.c)] 24))
 have F7 := Lib.hid (Fa.out.below B6.out (Nat.le_refl _))
 have F8 := Lib.hid (Fb.out.below B6.out (Nat.le_refl _))
 go_enter Tryz.func5, Tryz.ntmps5
 have C9 := Lib.hid (abAwake ((w.alloc (.cells #[(.slice a.A a.xs.length a.c)] 24)).alloc (.cells #[(.slice b.A b.xs.length b.c)] 24)) (HLA.out _ B6.out))
 go_wp2_with fail
 refine C9.out.mono ?_
 rintro e w10 ⟨rfl, hb11⟩
 have T12 := Lib.hid (T4.out.below hb11 T4.out.lt)
 have T13 := Lib.hid (T5.out.below hb11 T5.out.lt)
 have F14 := Lib.hid (F7.out.below hb11 (Nat.le_refl _))
 have F15 := Lib.hid (F8.out.below hb11 (Nat.le_refl _))
 have B16 := Lib.hid (B6.out.trans (hb11.mono B6.out.size))
 clear hb11
 have M17 := Lib.hid (T12.out.load)
 have C18 := Lib.hid (fewB_any a w10 F14.out)
 rw [PA.out] at C18
 go_wp2_with (first | ((with_reducible refine wpList_load_by (o := ⟨some 22, .load 24 (.tmp 2), _, _, _, _⟩) ?e1 24 (.tmp 2) ?e2 ⟨w.heap.size, 0, none⟩ ?e3 _ M17.out ?_); (case e1 => rfl); (case e2 => rfl); (case e3 => rfl)))
 refine C18.out.mono ?_
 rintro e w19 ⟨rfl, hb20⟩
 have T21 := Lib.hid (T12.out.below hb20 T12.out.lt)
 have T22 := Lib.hid (T13.out.below hb20 T13.out.lt)
 have F23 := Lib.hid (F14.out.below hb20 (Nat.le_refl _))
 have F24 := Lib.hid (F15.out.below hb20 (Nat.le_refl _))
 have B25 := Lib.hid (B16.out.trans (hb20.mono B16.out.size))
 clear hb20
 have M26 := Lib.hid (T22.out.load)
 have C27 := Lib.hid (fewB_any b w19 F24.out)
 rw [PB.out] at C27
 go_wp2_with (first | ((with_reducible refine wpList_load_by (o := ⟨some 24, .load 24 (.tmp 3), _, _, _, _⟩) ?e1 24 (.tmp 3) ?e2 ⟨(w.heap.size + 1), 0, none⟩ ?e3 _ M26.out ?_); (case e1 => rfl); (case e2 => rfl); (case e3 => rfl)))
 refine C27.out.mono ?_
 rintro e w28 ⟨rfl, hb29⟩
 have T30 := Lib.hid (T21.out.below hb29 T21.out.lt)
 have T31 := Lib.hid (T22.out.below hb29 T22.out.lt)
 have F32 := Lib.hid (F23.out.below hb29 (Nat.le_refl _))
 have F33 := Lib.hid (F24.out.below hb29 (Nat.le_refl _))
 have B34 := Lib.hid (B25.out.trans (hb29.mono B25.out.size))
 clear hb29
 have M38 := Lib.hid (T31.out.load)
 have C39 := Lib.hid ((show Calls Tryz.prog 21 #[.agg #[.slice b.A b.xs.length b.c]] w28 (fun e w' => ∃ m : MnA, e = .returned (.tuple #[.agg m.cs.toArray, .bool true]) ∧ m.m = (mofB b.rs).getD mn0 ∧ m.Ok w' ∧ Below (w28).heap.size w28 w') from by have h := pof12_any b w28 (HLA.out _ B34.out) F33.out; unfold MofPost at h; rw [HM1.out] at h; exact h))
 go_wp2_with (first | ((with_reducible refine wpList_load_by (o := ⟨some 27, .load 24 (.tmp 3), _, _, _, _⟩) ?e1 24 (.tmp 3) ?e2 ⟨(w.heap.size + 1), 0, none⟩ ?e3 _ M38.out ?_); (case e1 => rfl); (case e2 => rfl); (case e3 => rfl)))
 refine C39.out.mono ?_
 rintro e w40 ⟨d35, rfl, hd36, hk37, hb41⟩
 have T42 := Lib.hid (T30.out.below hb41 T30.out.lt)
 have T43 := Lib.hid (T31.out.below hb41 T31.out.lt)
 have F44 := Lib.hid (F32.out.below hb41 (Nat.le_refl _))
 have F45 := Lib.hid (F33.out.below hb41 (Nat.le_refl _))
 have B46 := Lib.hid (B34.out.trans (hb41.mono B34.out.size))
 clear hb41
 have E47 := Lib.hid (hd36)
 have F48 := Lib.hid (hk37)
 clear hd36 hk37
 have SZ48 := Lib.hid (mn_size F48.out)
 have SQ48 := Lib.hid (show mnA0.cs.toArray.size = d35.cs.toArray.size by rw [mnA0_size, List.size_toArray]; exact (MnA.len F48.out).symm)
 have SO48 := Lib.hid (mn_ones d35)
 have L50 := Lib.hid (MnA.len F48.out)
 have hb51 := (Below.refl w40.heap.size w40).alloc (Nat.le_refl _) (.cells d35.cs.toArray 29)
 have T52 := Lib.hid (RowAt.new w40 d35.cs.toArray 29)
 have T53 := Lib.hid (T42.out.below hb51 T42.out.lt)
 have T54 := Lib.hid (T43.out.below hb51 T43.out.lt)
 have F55 := Lib.hid (F44.out.below hb51 (Nat.le_refl _))
 have F56 := Lib.hid (F45.out.below hb51 (Nat.le_refl _))
 have F57 := Lib.hid (F48.out.below hb51 (Nat.le_refl _))
 have B58 := Lib.hid (B46.out.trans (hb51.mono B46.out.size))
 clear hb51
 have M62 := Lib.hid (T53.out.load)
 have M63 := Lib.hid (T54.out.load)
 have C64 := Lib.hid (bjoin_any a b (w40.alloc (.cells d35.cs.toArray 29)) (HLA.out _ B58.out) F55.out F56.out)
 unfold BJoinPost at C64
 rw [JJ.out] at C64
 dsimp only at C64
 go_wp2_with (first | ((with_reducible refine wpList_load_by (o := ⟨some 32, .load 24 (.tmp 2), _, _, _, _⟩) ?e1 24 (.tmp 2) ?e2 ⟨w.heap.size, 0, none⟩ ?e3 _ M62.out ?_); (case e1 => rfl); (case e2 => rfl); (case e3 => rfl)) | ((with_reducible refine wpList_load_by (o := ⟨some 33, .load 24 (.tmp 3), _, _, _, _⟩) ?e1 24 (.tmp 3) ?e2 ⟨(w.heap.size + 1), 0, none⟩ ?e3 _ M63.out ?_); (case e1 => rfl); (case e2 => rfl); (case e3 => rfl)) | ((with_reducible refine wpList_store_new (o := ⟨none, .store 29 (.tmp 8) (.tmp 29), _, _, _, _⟩) ?e1 29 (.tmp 8) (.tmp 29) ?e2 ?e3 mnA0.cs.toArray d35.cs.toArray ?e4 SZ48.out SQ48.out SO48.out ?_); (case e1 => rfl); (case e2 => rfl); (case e3 => (first | rfl | exact congrArg (fun q => Value.pointer (some ⟨q, 0, none⟩)) (World.size_alloc _ _).symm)); (case e4 => rfl)))
 refine C64.out.mono ?_
 rintro e w65 ⟨d59, rfl, hd60, hk61, hb66⟩
 have T67 := Lib.hid (T53.out.below hb66 T53.out.lt)
 have T68 := Lib.hid (T54.out.below hb66 T54.out.lt)
 have T69 := Lib.hid (T52.out.below hb66 T52.out.lt)
 have F70 := Lib.hid (F55.out.below hb66 (Nat.le_refl _))
 have F71 := Lib.hid (F56.out.below hb66 (Nat.le_refl _))
 have F72 := Lib.hid (F57.out.below hb66 (Nat.le_refl _))
 have B73 := Lib.hid (B58.out.trans (hb66.mono B58.out.size))
 clear hb66
 have E74 := Lib.hid (hd60)
 have F75 := Lib.hid (hk61)
 clear hd60 hk61
 have hb76 := (Below.refl w65.heap.size w65).alloc (Nat.le_refl _) (.cells #[(.slice d59.A d59.xs.length d59.c)] 24)
 have T77 := Lib.hid (BoAt.new w65 (.slice d59.A d59.xs.length d59.c))
 have T78 := Lib.hid (T67.out.below hb76 T67.out.lt)
 have T79 := Lib.hid (T68.out.below hb76 T68.out.lt)
 have T80 := Lib.hid (T69.out.below hb76 T69.out.lt)
 have F81 := Lib.hid (F70.out.below hb76 (Nat.le_refl _))
 have F82 := Lib.hid (F71.out.below hb76 (Nat.le_refl _))
 have F83 := Lib.hid (F72.out.below hb76 (Nat.le_refl _))
 have F84 := Lib.hid (F75.out.below hb76 (Nat.le_refl _))
 have B85 := Lib.hid (B73.out.trans (hb76.mono B73.out.size))
 clear hb76
 have M89 := Lib.hid (T77.out.load)
 have C90 := Lib.hid ((show Calls Tryz.prog 21 #[.agg #[.slice d59.A d59.xs.length d59.c]] (w65.alloc (.cells #[(.slice d59.A d59.xs.length d59.c)] 24)) (fun e w' => ∃ m : MnA, e = .returned (.tuple #[.agg m.cs.toArray, .bool true]) ∧ m.m = (mofB J).getD mn0 ∧ m.Ok w' ∧ Below ((w65.alloc (.cells #[(.slice d59.A d59.xs.length d59.c)] 24))).heap.size (w65.alloc (.cells #[(.slice d59.A d59.xs.length d59.c)] 24)) w') from by have h := pof12_any d59 (w65.alloc (.cells #[(.slice d59.A d59.xs.length d59.c)] 24)) (HLA.out _ B85.out) F84.out; unfold MofPost at h; rw [E74.out, HM2.out] at h; exact h))
 go_wp2_with (first | ((with_reducible refine wpList_load_by (o := ⟨some 38, .load 24 (.tmp 10), _, _, _, _⟩) ?e1 24 (.tmp 10) ?e2 ⟨w65.heap.size, 0, none⟩ ?e3 _ M89.out ?_); (case e1 => rfl); (case e2 => rfl); (case e3 => rfl)))
 refine C90.out.mono ?_
 rintro e w91 ⟨d86, rfl, hd87, hk88, hb92⟩
 have T93 := Lib.hid (T78.out.below hb92 T78.out.lt)
 have T94 := Lib.hid (T79.out.below hb92 T79.out.lt)
 have T95 := Lib.hid (T80.out.below hb92 T80.out.lt)
 have T96 := Lib.hid (T77.out.below hb92 T77.out.lt)
 have F97 := Lib.hid (F81.out.below hb92 (Nat.le_refl _))
 have F98 := Lib.hid (F82.out.below hb92 (Nat.le_refl _))
 have F99 := Lib.hid (F83.out.below hb92 (Nat.le_refl _))
 have F100 := Lib.hid (F84.out.below hb92 (Nat.le_refl _))
 have B101 := Lib.hid (B85.out.trans (hb92.mono B85.out.size))
 clear hb92
 have E102 := Lib.hid (hd87)
 have F103 := Lib.hid (hk88)
 clear hd87 hk88
 have SZ103 := Lib.hid (mn_size F103.out)
 have SQ103 := Lib.hid (show mnA0.cs.toArray.size = d86.cs.toArray.size by rw [mnA0_size, List.size_toArray]; exact (MnA.len F103.out).symm)
 have SO103 := Lib.hid (mn_ones d86)
 have L105 := Lib.hid (MnA.len F103.out)
 have hb106 := (Below.refl w91.heap.size w91).alloc (Nat.le_refl _) (.cells d86.cs.toArray 29)
 have T107 := Lib.hid (RowAt.new w91 d86.cs.toArray 29)
 have T108 := Lib.hid (T93.out.below hb106 T93.out.lt)
 have T109 := Lib.hid (T94.out.below hb106 T94.out.lt)
 have T110 := Lib.hid (T95.out.below hb106 T95.out.lt)
 have T111 := Lib.hid (T96.out.below hb106 T96.out.lt)
 have F112 := Lib.hid (F97.out.below hb106 (Nat.le_refl _))
 have F113 := Lib.hid (F98.out.below hb106 (Nat.le_refl _))
 have F114 := Lib.hid (F99.out.below hb106 (Nat.le_refl _))
 have F115 := Lib.hid (F100.out.below hb106 (Nat.le_refl _))
 have F116 := Lib.hid (F103.out.below hb106 (Nat.le_refl _))
 have B117 := Lib.hid (B101.out.trans (hb106.mono B101.out.size))
 clear hb106
 go_wp2_with (((with_reducible refine wpList_store_new (o := ⟨none, .store 29 (.tmp 12) (.tmp 40), _, _, _, _⟩) ?e1 29 (.tmp 12) (.tmp 40) ?e2 ?e3 mnA0.cs.toArray d86.cs.toArray ?e4 SZ103.out SQ103.out SO103.out ?_); (case e1 => rfl); (case e2 => rfl); (case e3 => (first | rfl | exact congrArg (fun q => Value.pointer (some ⟨q, 0, none⟩)) (World.size_alloc _ _).symm)); (case e4 => rfl)))
 go_ret
 exact ⟨rfl, B117.out⟩
end
end Go.Proofs.YtnlhkpmgbpfjmaaGreatDoor
