import Derived.Test.YtnlhkpmgbpfjmaaGreatDoorQc0
import Derived.Test.YtnlhkpmgbpfjmaaGreatDoorQc37
import Derived.Deep.RegionHeld3
/-
  What the functions that a law of this layer reaches answer, part 38. Nothing that was there is written.
-/
namespace Go.Proofs.YtnlhkpmgbpfjmaaGreatDoor
set_option linter.unusedVariables false
set_option linter.unusedSimpArgs false
section
open Go.RowKit Go.Shelf WM
set_option maxRecDepth 100000
section
variable {P : Program} {ops : Array Oper} {o : Oper} {a : Act} {w w' : World} {K : Act → World → Prop} {Q : Exit → Act → World → Prop} {E : Prop}
theorem in_storeL {X : World} (hgd : o.guard = none) (ty : TypeId) (p q : Operand) (hop : o.op = .store 36 p q) (g : Nat) (hx : a.eval p = .pointer (some ⟨g, 0, none⟩)) (y : RcA) (hy : a.eval q = .agg y.cells) (x : RcA) (hb : XAt X g x) (hz : y.R.z.length = 16)
  (hK : ∀ X2, X.grownBy X2 (some g) → XAt X2 g y → K (a.put o.dst undef) X2) : if Region.wanted o (yielded ops a.tmps) = true then Oper.wp Tryz.prog o a X K Q else E := by
 rw [if_pos (by simp [Region.wanted, hgd])]
 unfold Oper.wp
 have h := exec_store_row (P := Tryz.prog) (o := o) (ρ := a.eval) (w := X) 36 p q hop g y.cells hx hy 36 _ hb.2 (x_size hz) (by rw [cells_len hb.1, cells_len hz]) (x_one y)
 rw [h]
 exact hK _ (grownBy_setRow X g _) (hb.rc.putAll hz)
end
set_option maxHeartbeats 16000000 in
theorem abl_all (a b : Bk) (w : World) (hlaid : Laid w) (wa : BkAt w a) (wb : BkAt w b) (p : fewB a.rs = true) (q : fewB b.rs = true) (MB MJ : Mn) (J V : List Rc) (n : Nat) (h1 : mofB b.rs = some MB) (jj : bjE a.rs b.rs = (0, J)) (h2 : mofB J = some MJ) (hV : aparts a.rs MB = V) (hn : V.length = n) (hnn : n ≤ 14) (h3 : aparts a.rs MJ = []) (h4 : aparts b.rs MJ = []) (h5 : aparts b.rs MB = []) (hQ : ∀ P ∈ V, ∃ R, bat a.rs P.z = some R ∧ ((P.n = R.n ∧ P.r = R.r) ∨ (¬ (P.n = R.n ∧ P.r = R.r) ∧ P.n = 0 ∧ P.r = 0)) ∧ P.fs.length ≤ R.fs.length ∧ ∀ f ∈ P.fs, rfind R.fs f.no = some f.c) : Calls Tryz.prog 5 #[.agg #[.slice a.A a.xs.length a.c], .agg #[.slice b.A b.xs.length b.c]] w fun e w' => e = .returned (.bool true) ∧ Below w.heap.size w w' := by
 have HLA := Lib.hid (fun (X : World) (hX : Below w.heap.size w X) => hlaid.below hX (Nat.le_refl _))
 have Fa := Lib.hid wa
 have Fb := Lib.hid wb
 have hzm := zeroMn
 rw [show mnA0.v = .agg mnA0.cs.toArray from rfl] at hzm
 have hzne : ¬ mnA0.cs.toArray = #[] := by decide
 have PA := Lib.hid p
 have PB := Lib.hid q
 have HM1 := Lib.hid h1
 have HM2 := Lib.hid h2
 have JJ := Lib.hid jj
 have HP1 := Lib.hid hV
 have HN := Lib.hid hn
 have HP2 := Lib.hid h3
 have HP3 := Lib.hid h4
 have HP4 := Lib.hid h5
 have HQ := Lib.hid hQ
 have HSA := Lib.hid (fewB_fs p).2
 have HAL : Hid (∀ R ∈ a.rs, R.fs.length ≤ 1000) := Lib.hid (fun R hR => by
  obtain ⟨x, hx, rfl⟩ := List.mem_map.1 hR
  exact (fewB_fs p).2 x hx)
 clear hlaid wa wb p q h1 h2 jj hV hn h3 h4 h5 hQ
 have B1 := Lib.hid (Below.refl w.heap.size w)
 have T2n := BoAt.new w (.slice a.A a.xs.length a.c)
 have T2 := Lib.hid T2n
 clear T2n
 have B3 := Lib.hid (B1.out.alloc B1.out.size (.cells #[(.slice a.A a.xs.length a.c)] 24))
 have T4 := Lib.hid (T2.out.old (.cells #[(.slice b.A b.xs.length b.c)] 24))
 have T5n := BoAt.new (w.alloc (.cells #[(.slice a.A a.xs.length a.c)] 24)) (.slice b.A b.xs.length b.c)
 simp only [World.size_alloc] at T5n
 have T5 := Lib.hid T5n
 clear T5n
 have B6 := Lib.hid (B3.out.alloc B3.out.size (.cells #[(.slice b.A b.xs.length b.c)] 24))
 have F7 := Lib.hid (Fa.out.below B6.out (Nat.le_refl _))
 have F8 := Lib.hid (Fb.out.below B6.out (Nat.le_refl _))
 go_enter Tryz.func5, Tryz.ntmps5
 have C9 := Lib.hid (abAwake ((w.alloc (.cells #[(.slice a.A a.xs.length a.c)] 24)).alloc (.cells #[(.slice b.A b.xs.length b.c)] 24)) (HLA.out _ B6.out))
 go_wp2_with fail
 refine C9.out.mono ?_
 rintro e w10 ⟨rfl, hb11⟩
 have T12 := Lib.hid (T4.out.below hb11 T4.out.lt)
 have T13 := Lib.hid (T5.out.below hb11 T5.out.lt)
 have F14 := Lib.hid (F7.out.below hb11 (Nat.le_refl _))
 have F15 := Lib.hid (F8.out.below hb11 (Nat.le_refl _))
 have B16 := Lib.hid (B6.out.trans (hb11.mono B6.out.size))
 clear hb11
 have M17 := Lib.hid (T12.out.load)
 have C18 := Lib.hid (fewB_any a w10 F14.out)
 rw [PA.out] at C18
 go_wp2_with (first | ((with_reducible refine wpList_load_by (o := ⟨some 22, .load 24 (.tmp 2), _, _, _, _⟩) ?e1 24 (.tmp 2) ?e2 ⟨w.heap.size, 0, none⟩ ?e3 _ M17.out ?_); (case e1 => rfl); (case e2 => rfl); (case e3 => rfl)))
 refine C18.out.mono ?_
 rintro e w19 ⟨rfl, hb20⟩
 have T21 := Lib.hid (T12.out.below hb20 T12.out.lt)
 have T22 := Lib.hid (T13.out.below hb20 T13.out.lt)
 have F23 := Lib.hid (F14.out.below hb20 (Nat.le_refl _))
 have F24 := Lib.hid (F15.out.below hb20 (Nat.le_refl _))
 have B25 := Lib.hid (B16.out.trans (hb20.mono B16.out.size))
 clear hb20
 have M26 := Lib.hid (T22.out.load)
 have C27 := Lib.hid (fewB_any b w19 F24.out)
 rw [PB.out] at C27
 go_wp2_with (first | ((with_reducible refine wpList_load_by (o := ⟨some 24, .load 24 (.tmp 3), _, _, _, _⟩) ?e1 24 (.tmp 3) ?e2 ⟨(w.heap.size + 1), 0, none⟩ ?e3 _ M26.out ?_); (case e1 => rfl); (case e2 => rfl); (case e3 => rfl)))
 refine C27.out.mono ?_
 rintro e w28 ⟨rfl, hb29⟩
 have T30 := Lib.hid (T21.out.below hb29 T21.out.lt)
 have T31 := Lib.hid (T22.out.below hb29 T22.out.lt)
 have F32 := Lib.hid (F23.out.below hb29 (Nat.le_refl _))
 have F33 := Lib.hid (F24.out.below hb29 (Nat.le_refl _))
 have B34 := Lib.hid (B25.out.trans (hb29.mono B25.out.size))
 clear hb29
 have M38 := Lib.hid (T31.out.load)
 have C39 := Lib.hid ((show Calls Tryz.prog 21 #[.agg #[.slice b.A b.xs.length b.c]] w28 (fun e w' => ∃ m : MnA, e = .returned (.tuple #[.agg m.cs.toArray, .bool true]) ∧ m.m = MB ∧ m.Ok w' ∧ Below (w28).heap.size w28 w') from by have h := pof12_any b w28 (HLA.out _ B34.out) F33.out; unfold MofPost at h; rw [HM1.out] at h; exact h))
 go_wp2_with (first | ((with_reducible refine wpList_load_by (o := ⟨some 27, .load 24 (.tmp 3), _, _, _, _⟩) ?e1 24 (.tmp 3) ?e2 ⟨(w.heap.size + 1), 0, none⟩ ?e3 _ M38.out ?_); (case e1 => rfl); (case e2 => rfl); (case e3 => rfl)))
 refine C39.out.mono ?_
 rintro e w40 ⟨d35, rfl, hd36, hk37, hb41⟩
 have T42 := Lib.hid (T30.out.below hb41 T30.out.lt)
 have T43 := Lib.hid (T31.out.below hb41 T31.out.lt)
 have F44 := Lib.hid (F32.out.below hb41 (Nat.le_refl _))
 have F45 := Lib.hid (F33.out.below hb41 (Nat.le_refl _))
 have B46 := Lib.hid (B34.out.trans (hb41.mono B34.out.size))
 clear hb41
 have E47 := Lib.hid (hd36)
 have F48 := Lib.hid (hk37)
 clear hd36 hk37
 have SZ48 := Lib.hid (mn_size F48.out)
 have SQ48 := Lib.hid (show mnA0.cs.toArray.size = d35.cs.toArray.size by rw [mnA0_size, List.size_toArray]; exact (MnA.len F48.out).symm)
 have SO48 := Lib.hid (mn_ones d35)
 have L50 := Lib.hid (MnA.len F48.out)
 have hb51 := (Below.refl w40.heap.size w40).alloc (Nat.le_refl _) (.cells d35.cs.toArray 29)
 have T52 := Lib.hid (RowAt.new w40 d35.cs.toArray 29)
 have T53 := Lib.hid (T42.out.below hb51 T42.out.lt)
 have T54 := Lib.hid (T43.out.below hb51 T43.out.lt)
 have F55 := Lib.hid (F44.out.below hb51 (Nat.le_refl _))
 have F56 := Lib.hid (F45.out.below hb51 (Nat.le_refl _))
 have F57 := Lib.hid (F48.out.below hb51 (Nat.le_refl _))
 have B58 := Lib.hid (B46.out.trans (hb51.mono B46.out.size))
 clear hb51
 have M62 := Lib.hid (T53.out.load)
 have M63 := Lib.hid (T54.out.load)
 have C64 := Lib.hid (bjoin_any a b (w40.alloc (.cells d35.cs.toArray 29)) (HLA.out _ B58.out) F55.out F56.out)
 unfold BJoinPost at C64
 rw [JJ.out] at C64
 dsimp only at C64
 go_wp2_with (first | ((with_reducible refine wpList_load_by (o := ⟨some 32, .load 24 (.tmp 2), _, _, _, _⟩) ?e1 24 (.tmp 2) ?e2 ⟨w.heap.size, 0, none⟩ ?e3 _ M62.out ?_); (case e1 => rfl); (case e2 => rfl); (case e3 => rfl)) | ((with_reducible refine wpList_load_by (o := ⟨some 33, .load 24 (.tmp 3), _, _, _, _⟩) ?e1 24 (.tmp 3) ?e2 ⟨(w.heap.size + 1), 0, none⟩ ?e3 _ M63.out ?_); (case e1 => rfl); (case e2 => rfl); (case e3 => rfl)) | ((with_reducible refine wpList_store_new (o := ⟨none, .store 29 (.tmp 8) (.tmp 29), _, _, _, _⟩) ?e1 29 (.tmp 8) (.tmp 29) ?e2 ?e3 mnA0.cs.toArray d35.cs.toArray ?e4 SZ48.out SQ48.out SO48.out ?_); (case e1 => rfl); (case e2 => rfl); (case e3 => (first | rfl | exact congrArg (fun q => Value.pointer (some ⟨q, 0, none⟩)) (World.size_alloc _ _).symm)); (case e4 => rfl)))
 refine C64.out.mono ?_
 rintro e w65 ⟨d59, rfl, hd60, hk61, hb66⟩
 have T67 := Lib.hid (T53.out.below hb66 T53.out.lt)
 have T68 := Lib.hid (T54.out.below hb66 T54.out.lt)
 have T69 := Lib.hid (T52.out.below hb66 T52.out.lt)
 have F70 := Lib.hid (F55.out.below hb66 (Nat.le_refl _))
 have F71 := Lib.hid (F56.out.below hb66 (Nat.le_refl _))
 have F72 := Lib.hid (F57.out.below hb66 (Nat.le_refl _))
 have B73 := Lib.hid (B58.out.trans (hb66.mono B58.out.size))
 clear hb66
 have E74 := Lib.hid (hd60)
 have F75 := Lib.hid (hk61)
 clear hd60 hk61
 have hb76 := (Below.refl w65.heap.size w65).alloc (Nat.le_refl _) (.cells #[(.slice d59.A d59.xs.length d59.c)] 24)
 have T77 := Lib.hid (BoAt.new w65 (.slice d59.A d59.xs.length d59.c))
 have T78 := Lib.hid (T67.out.below hb76 T67.out.lt)
 have T79 := Lib.hid (T68.out.below hb76 T68.out.lt)
 have T80 := Lib.hid (T69.out.below hb76 T69.out.lt)
 have F81 := Lib.hid (F70.out.below hb76 (Nat.le_refl _))
 have F82 := Lib.hid (F71.out.below hb76 (Nat.le_refl _))
 have F83 := Lib.hid (F72.out.below hb76 (Nat.le_refl _))
 have F84 := Lib.hid (F75.out.below hb76 (Nat.le_refl _))
 have B85 := Lib.hid (B73.out.trans (hb76.mono B73.out.size))
 clear hb76
 have M89 := Lib.hid (T77.out.load)
 have C90 := Lib.hid ((show Calls Tryz.prog 21 #[.agg #[.slice d59.A d59.xs.length d59.c]] (w65.alloc (.cells #[(.slice d59.A d59.xs.length d59.c)] 24)) (fun e w' => ∃ m : MnA, e = .returned (.tuple #[.agg m.cs.toArray, .bool true]) ∧ m.m = MJ ∧ m.Ok w' ∧ Below ((w65.alloc (.cells #[(.slice d59.A d59.xs.length d59.c)] 24))).heap.size (w65.alloc (.cells #[(.slice d59.A d59.xs.length d59.c)] 24)) w') from by have h := pof12_any d59 (w65.alloc (.cells #[(.slice d59.A d59.xs.length d59.c)] 24)) (HLA.out _ B85.out) F84.out; unfold MofPost at h; rw [E74.out, HM2.out] at h; exact h))
 go_wp2_with (first | ((with_reducible refine wpList_load_by (o := ⟨some 38, .load 24 (.tmp 10), _, _, _, _⟩) ?e1 24 (.tmp 10) ?e2 ⟨w65.heap.size, 0, none⟩ ?e3 _ M89.out ?_); (case e1 => rfl); (case e2 => rfl); (case e3 => rfl)))
 refine C90.out.mono ?_
 rintro e w91 ⟨d86, rfl, hd87, hk88, hb92⟩
 have T93 := Lib.hid (T78.out.below hb92 T78.out.lt)
 have T94 := Lib.hid (T79.out.below hb92 T79.out.lt)
 have T95 := Lib.hid (T80.out.below hb92 T80.out.lt)
 have T96 := Lib.hid (T77.out.below hb92 T77.out.lt)
 have F97 := Lib.hid (F81.out.below hb92 (Nat.le_refl _))
 have F98 := Lib.hid (F82.out.below hb92 (Nat.le_refl _))
 have F99 := Lib.hid (F83.out.below hb92 (Nat.le_refl _))
 have F100 := Lib.hid (F84.out.below hb92 (Nat.le_refl _))
 have B101 := Lib.hid (B85.out.trans (hb92.mono B85.out.size))
 clear hb92
 have E102 := Lib.hid (hd87)
 have F103 := Lib.hid (hk88)
 clear hd87 hk88
 have SZ103 := Lib.hid (mn_size F103.out)
 have SQ103 := Lib.hid (show mnA0.cs.toArray.size = d86.cs.toArray.size by rw [mnA0_size, List.size_toArray]; exact (MnA.len F103.out).symm)
 have SO103 := Lib.hid (mn_ones d86)
 have L105 := Lib.hid (MnA.len F103.out)
 have hb106 := (Below.refl w91.heap.size w91).alloc (Nat.le_refl _) (.cells d86.cs.toArray 29)
 have T107 := Lib.hid (RowAt.new w91 d86.cs.toArray 29)
 have T108 := Lib.hid (T93.out.below hb106 T93.out.lt)
 have T109 := Lib.hid (T94.out.below hb106 T94.out.lt)
 have T110 := Lib.hid (T95.out.below hb106 T95.out.lt)
 have T111 := Lib.hid (T96.out.below hb106 T96.out.lt)
 have F112 := Lib.hid (F97.out.below hb106 (Nat.le_refl _))
 have F113 := Lib.hid (F98.out.below hb106 (Nat.le_refl _))
 have F114 := Lib.hid (F99.out.below hb106 (Nat.le_refl _))
 have F115 := Lib.hid (F100.out.below hb106 (Nat.le_refl _))
 have F116 := Lib.hid (F103.out.below hb106 (Nat.le_refl _))
 have B117 := Lib.hid (B101.out.trans (hb106.mono B101.out.size))
 clear hb106
 have M124 := Lib.hid (T110.out.mn L50.out)
 have M125 := Lib.hid (T108.out.load)
 have C126 := Lib.hid ((show Calls Tryz.prog 16 #[.agg #[.slice a.A a.xs.length a.c], .agg d35.cs.toArray] (w91.alloc (.cells d86.cs.toArray 29)) (fun e w' => ∃ l : Bk, e = .returned (.slice l.A l.xs.length l.c) ∧ l.rs = V ∧ BkAt w' l ∧ (∀ x ∈ l.xs, FTag w' x.A) ∧ Below ((w91.alloc (.cells d86.cs.toArray 29))).heap.size (w91.alloc (.cells d86.cs.toArray 29)) w') from by have h := parts14_any a d35 (w91.alloc (.cells d86.cs.toArray 29)) (HLA.out _ B117.out) F112.out F114.out; unfold PartsPost at h; rw [E47.out, HP1.out] at h; exact h))
 go_wp2_with (first | ((with_reducible refine wpList_load_at (o := ⟨some 66, .load 29 (.tmp 8), _, _, _, _⟩) ?e1 29 (.tmp 8) ?e2 ⟨w40.heap.size, 0, none⟩ ?e3 _ M124.out ?_); (case e1 => rfl); (case e2 => rfl); (case e3 => rfl)) | ((with_reducible refine wpList_load_by (o := ⟨some 65, .load 24 (.tmp 2), _, _, _, _⟩) ?e1 24 (.tmp 2) ?e2 ⟨w.heap.size, 0, none⟩ ?e3 _ M125.out ?_); (case e1 => rfl); (case e2 => rfl); (case e3 => rfl)) | ((with_reducible refine wpList_store_new (o := ⟨none, .store 29 (.tmp 12) (.tmp 40), _, _, _, _⟩) ?e1 29 (.tmp 12) (.tmp 40) ?e2 ?e3 mnA0.cs.toArray d86.cs.toArray ?e4 SZ103.out SQ103.out SO103.out ?_); (case e1 => rfl); (case e2 => rfl); (case e3 => (first | rfl | exact congrArg (fun q => Value.pointer (some ⟨q, 0, none⟩)) (World.size_alloc _ _).symm)); (case e4 => rfl)))
 refine C126.out.mono ?_
 rintro e w127 ⟨l118, he119, hr120, hk121, ht122, hb128⟩
 have hl123 : l118.xs.length = n := (len_rsL hr120).trans HN.out
 rw [hl123] at he119
 subst he119
 have T129 := Lib.hid (T108.out.below hb128 T108.out.lt)
 have T130 := Lib.hid (T109.out.below hb128 T109.out.lt)
 have T131 := Lib.hid (T110.out.below hb128 T110.out.lt)
 have T132 := Lib.hid (T111.out.below hb128 T111.out.lt)
 have T133 := Lib.hid (T107.out.below hb128 T107.out.lt)
 have F134 := Lib.hid (F112.out.below hb128 (Nat.le_refl _))
 have F135 := Lib.hid (F113.out.below hb128 (Nat.le_refl _))
 have F136 := Lib.hid (F114.out.below hb128 (Nat.le_refl _))
 have F137 := Lib.hid (F115.out.below hb128 (Nat.le_refl _))
 have F138 := Lib.hid (F116.out.below hb128 (Nat.le_refl _))
 have B139 := Lib.hid (B117.out.trans (hb128.mono B117.out.size))
 clear hb128
 have E140 := Lib.hid (hr120)
 have L141 := Lib.hid (hl123)
 have F142 := Lib.hid (hk121)
 clear hr120 hk121 ht122 hl123
 have HQL : Hid (∀ k, k < n → ∃ R, bat a.rs (l118.xs.getD k rcA0).R.z = some R ∧ (((l118.xs.getD k rcA0).R.n = R.n ∧ (l118.xs.getD k rcA0).R.r = R.r) ∨ (¬ ((l118.xs.getD k rcA0).R.n = R.n ∧ (l118.xs.getD k rcA0).R.r = R.r) ∧ (l118.xs.getD k rcA0).R.n = 0 ∧ (l118.xs.getD k rcA0).R.r = 0)) ∧ (l118.xs.getD k rcA0).R.fs.length ≤ R.fs.length ∧ ∀ f ∈ (l118.xs.getD k rcA0).R.fs, rfind R.fs f.no = some f.c) := Lib.hid (fun k hk => HQ.out _ (by rw [← E140.out]; unfold Bk.rs; refine List.mem_map_of_mem ?_; rw [List.getD, List.getElem?_eq_getElem (by rw [L141.out]; exact hk)]; exact List.getElem_mem _))
 have HRV := Lib.hid (fun k (hk : k < n) => RsAt.rv (show RsAt w127 l118.A l118.c l118.xs from F142.out) (by rw [L141.out]; exact hk))
 have HRC : Hid (0 < n → ∃ b0 off, l118.A = some ⟨b0, off, none⟩ ∧ b0 < w127.heap.size ∧ ∀ k, k < n → RecAt w127 b0 (off + k * 19) (l118.xs.getD k rcA0)) := Lib.hid (fun h0 => by
  obtain ⟨_, _, _, h4, _⟩ := (show RsAt w127 l118.A l118.c l118.xs from F142.out)
  rw [L141.out] at h4
  exact h4 h0)
 go_wp2
 go_loopw [15] (fun i wr => ∃ k : Nat, k ≤ n ∧ i = .int .i64 k ∧ Below w127.heap.size w127 wr) (fun i _ => n - (intOf i).toNat)
 case atStart => exact ⟨0, Nat.zero_le _, rfl, Below.refl _ _⟩
 case round =>
  obtain ⟨k, hk, rfl, hb⟩ := hrel
  have HB := Lib.hid hb
  clear hb
  by_cases hlt : k < n
  ·have t1 : (k : Int) < (n : Int) := by omega
   obtain ⟨b0, off, hA, hb0, hcc⟩ := HRC.out (by omega)
   have HX1 := Lib.hid (hcc k hlt)
   have IXX := Lib.hid (fun w9 => ix_rec b0 off n l118.c k hlt k rfl w9)
   rw [← hA] at IXX
   have HFS := Lib.hid (HRV.out k hlt).2
   have HZB := Lib.hid (HRV.out k hlt).1
   obtain ⟨R, hr1, hr2, hr3, hr4⟩ := HQL.out k hlt
   have HBA := Lib.hid hr1
   have HDD := Lib.hid hr2
   have HRF := Lib.hid hr4
   have hrl := HAL.out _ (bat_memL hr1)
   clear hr1 hr2 hr4 hcc hA
   generalize l118.xs.getD k rcA0 = x at *
   generalize off + k * 19 = ox at *
   have t3 : ¬ (R.fs.length : Int) < (x.R.fs.length : Int) := by omega
   have t4 : decide (R.fs.length < x.R.fs.length) = false := by rw [decide_eq_false_iff_not]; omega
   have HX2 := Lib.hid (HX1.out.same (HB.out.block b0 hb0))
   have hb02 := Nat.lt_of_lt_of_le hb0 HB.out.size
   have FW := Lib.hid (Below.refl w127.heap.size w127)
   have D2 := Lib.hid (T129.out.below HB.out T129.out.lt)
   have HJ := Lib.hid (fun (X9 : World) (hX : Below wr.heap.size wr X9) => (show Calls Tryz.prog 25 #[.agg #[.slice a.A a.xs.length a.c], .agg (bvals x.R.z)] X9 (fun e w' => ∃ y : RcA, e = .returned (.tuple #[.agg y.cells, .bool true]) ∧ y.R = R ∧ RvAt w' y ∧ Below X9.heap.size X9 w') from by have h := bfind_any a x.R.z X9 (F134.out.below (HB.out.trans (hX.mono HB.out.size)) (Nat.le_refl _)) HZB.out.1 HZB.out.2 HSA.out; unfold BFindPost at h; rw [HBA.out] at h; exact h))
   go_wp2_with fail
   refine wp_region_held_drew (S := fun X9 => Below wr.heap.size wr X9) (by kernel_rfl) ((Below.refl wr.heap.size wr).drew) (fun hS => ?_)
   refine wpHv (i := 0) (oi := ⟨some 75, _, _, _, _, _⟩) (v := (.agg #[.slice a.A a.xs.length a.c])) rfl ?_ hS ?_; (focus (intro w9 hSw; exact exec_load_by 24 _ rfl ⟨w.heap.size, 0, none⟩ rfl (D2.out.below hSw D2.out.lt).load)); simp only [Act.put, Z2, Z3, Z4]
   refine wpHv (i := 1) (oi := ⟨some 76, _, _, _, _, _⟩) (v := ?_) rfl ?_ hS ?_; rotate_left; (focus (intro w9 hSw; go_simp; try with_reducible rfl)); simp only [Act.put, Z2, Z3, Z4]
   refine wpHv (i := 2) (oi := ⟨some 77, _, _, _, _, _⟩) (v := ?_) rfl ?_ hS ?_; rotate_left; (focus (intro w9 hSw; go_simp; try with_reducible rfl)); simp only [Act.put, Z2, Z3, Z4]
   refine wpHv (i := 3) (oi := ⟨some 78, _, _, _, _, _⟩) (v := ?_) rfl ?_ hS ?_; rotate_left; (focus (intro w9 hSw; have q0 := IXX.out w9; go_simp; try with_reducible rfl)); simp only [Act.put, Z2, Z3, Z4]
   refine wpHv (i := 4) (oi := ⟨some 79, _, _, _, _, _⟩) (v := ?_) rfl ?_ hS ?_; rotate_left; (focus (intro w9 hSw; go_simp; try with_reducible rfl)); simp only [Act.put, Z2, Z3, Z4]
   refine wpHv (i := 5) (oi := ⟨some 80, _, _, _, _, _⟩) (v := (.agg (bvals x.R.z))) rfl ?_ hS ?_; (focus (intro w9 hSw; exact exec_load_at 31 _ rfl _ rfl (HX2.out.same (hSw.block b0 hb02)).load_id)); simp only [Act.put, Z2, Z3, Z4]
   refine wpAnyH_ready (rs := [6, 10]) (by kernel_rfl) (by simp) (AllReadyH.cons (o := ⟨some 81, _, _, _, _, _⟩) rfl (fun K hK => ?_) (AllReadyH.cons (o := ⟨some 16, _, _, _, _, _⟩) rfl (fun K hK => ?_) AllReadyH.nil))
   ·go_simp
    refine (HJ.out _ hS).mono ?_
    rintro e x0 ⟨y, rfl, hy, hvy, hb0x⟩
    have HYR := Lib.hid hy
    have HVY0 := Lib.hid hvy
    have HBX := Lib.hid (hS.trans (hb0x.mono hS.size))
    clear hS hb0x hy hvy
    refine hK.out _ _ HBX.out (fun hS => ?_)
    clear hK K
    try simp only [Act.put, Z2, Z3, Z4]
    refine wpHv (i := 7) (oi := ⟨some 74, _, _, _, _, _⟩) (v := ?_) rfl ?_ hS ?_; rotate_left; (focus (intro w9 hSw; go_simp; try with_reducible rfl)); simp only [Act.put, Z2, Z3, Z4]
    refine wpHv (i := 8) (oi := ⟨some 82, _, _, _, _, _⟩) (v := ?_) rfl ?_ hS ?_; rotate_left; (focus (intro w9 hSw; go_simp; try with_reducible rfl)); simp only [Act.put, Z2, Z3, Z4]
    refine wpHv (i := 9) (oi := ⟨some 83, _, _, _, _, _⟩) (v := ?_) rfl ?_ hS ?_; rotate_left; (focus (intro w9 hSw; go_simp; try with_reducible rfl)); simp only [Act.put, Z2, Z3, Z4]
    refine wpAnyH_ready (rs := [10]) (by kernel_rfl) (by simp) (AllReadyH.cons (o := ⟨some 16, _, _, _, _, _⟩) rfl (fun K hK => ?_) AllReadyH.nil)
    go_simp
    have HBX2 := Lib.hid (HBX.out.alloc HBX.out.size (.cells rcA0.cells 36))
    have G0 := Lib.hid (XAt.new (x := rcA0) x0 z16_len)
    have HVY1 := Lib.hid (HVY0.out.below ((Below.refl x0.heap.size x0).alloc (Nat.le_refl _) (.cells rcA0.cells 36)) (Nat.le_refl _))
    have HGE := Lib.hid HBX.out.size
    refine hK.out _ _ HBX2.out (fun hS => ?_)
    clear hK K
    try simp only [Act.put, Z2, Z3, Z4]
    refine wpAnyH_ready (rs := [11]) (by kernel_rfl) (by simp) (AllReadyH.cons (o := ⟨none, _, _, _, _, _⟩) rfl (fun K hK => ?_) AllReadyH.nil)
    refine in_storeL rfl 36 (.tmp 16) (.tmp 82) rfl x0.heap.size rfl y rfl rcA0 G0.out HVY0.out.len ?_
    intro X hg2 G9x
    have EB := Lib.hid (HBX2.out.grown hg2 HBX2.out.size (fun k9 e9 => by have := Option.some.inj e9; have := HGE.out; omega))
    have G9 := Lib.hid G9x
    have HVY := Lib.hid (HVY1.out.kept_x hg2 G0.out)
    clear hg2 G9x HBX HBX2 HVY0 HVY1 G0
    refine hK.out _ _ EB.out (fun hS => ?_)
    clear hK K
    try simp only [Act.put, Z2, Z3, Z4]
    refine wpHv (i := 12) (oi := ⟨some 17, _, _, _, _, _⟩) (v := ?_) rfl ?_ hS ?_; rotate_left; (focus (intro w9 hSw; go_simp; try with_reducible rfl)); simp only [Act.put, Z2, Z3, Z4]
    refine wpAnyH_done (by kernel_rfl) ?_ _
    clear hS
    generalize x0.heap.size = g at *
    have EX := Lib.hid (HB.out.trans (EB.out.mono HB.out.size))
    have RX := Lib.hid (fun (X9 : World) (hX : Below (X).heap.size (X) X9) => HX1.out.same ((EX.out.trans (hX.mono EX.out.size)).block b0 hb0))
    have GX := Lib.hid (fun (X9 : World) (hX : Below (X).heap.size (X) X9) => G9.out.below hX G9.out.lt)
    have GY := Lib.hid (fun (X9 : World) (hX : Below (X).heap.size (X) X9) => show X9.cell? ⟨g, 16, none⟩ = some (.int .i64 R.n) ∧ X9.cell? ⟨g, 17, none⟩ = some (.int .i64 R.r) ∧ X9.cell? ⟨g, 18, none⟩ = some (.slice y.A R.fs.length y.c) from ⟨by rw [← HYR.out]; exact (GX.out X9 hX).c16, by rw [← HYR.out]; exact (GX.out X9 hX).c17, by rw [← HYR.out]; exact (GX.out X9 hX).c18⟩)
    rcases HDD.out with hd9 | hd9
    ·have QD := Lib.hid (fun X9 : World => show (Op.equalIn 10000 33 (.agg #[.int .i64 x.R.n, .int .i64 x.R.r]) (.agg #[.int .i64 R.n, .int .i64 R.r])).run Tryz.prog X9 = .ok true X9 from by rw [eq_st, decide_eq_true hd9])
     clear hd9
     go_wp2_with fail
     refine wp_region_G _ (by kernel_rfl) ?_
     refine wpGv (i := 0) (oi := ⟨some 84, _, _, _, _, _⟩) (v := ?_) rfl ?_ ?_; rotate_left; (focus (intro w9 hSw; go_simp; try with_reducible rfl)); simp only [Act.put, Z2, Z3, Z4]
     refine wpGv (i := 1) (oi := ⟨some 85, _, _, _, _, _⟩) (v := ?_) rfl ?_ ?_; rotate_left; (focus (intro w9 hSw; go_simp; try with_reducible rfl)); simp only [Act.put, Z2, Z3, Z4]
     refine wpGv (i := 2) (oi := ⟨some 86, _, _, _, _, _⟩) (v := ?_) rfl ?_ ?_; rotate_left; (focus (intro w9 hSw; go_simp; try with_reducible rfl)); simp only [Act.put, Z2, Z3, Z4]
     refine wpGv (i := 3) (oi := ⟨some 87, _, _, _, _, _⟩) (v := ?_) rfl ?_ ?_; rotate_left; (focus (intro w9 hSw; go_simp; try with_reducible rfl)); simp only [Act.put, Z2, Z3, Z4]
     refine wpGv (i := 4) (oi := ⟨some 88, _, _, _, _, _⟩) (v := ?_) rfl ?_ ?_; rotate_left; (focus (intro w9 hSw; go_simp; try with_reducible rfl)); simp only [Act.put, Z2, Z3, Z4]
     refine wpGv (i := 5) (oi := ⟨some 89, _, _, _, _, _⟩) (v := ?_) rfl ?_ ?_; rotate_left; (focus (intro w9 hSw; have q0 := IXX.out w9; go_simp; try with_reducible rfl)); simp only [Act.put, Z2, Z3, Z4]
     refine wpGv (i := 6) (oi := ⟨some 90, _, _, _, _, _⟩) (v := ?_) rfl ?_ ?_; rotate_left; (focus (intro w9 hSw; go_simp; try with_reducible rfl)); simp only [Act.put, Z2, Z3, Z4]
     refine wpGv (i := 7) (oi := ⟨some 91, _, _, _, _, _⟩) (v := ?_) rfl ?_ ?_; rotate_left; (focus (intro w9 hSw; have q0 := (RX.out w9 hSw).c16; have q1 : w9.cell? ⟨b0, ox + 16 + 1, none⟩ = _ := (RX.out w9 hSw).c17; go_simp; try with_reducible rfl)); simp only [Act.put, Z2, Z3, Z4]
     refine wpGv (i := 8) (oi := ⟨some 92, _, _, _, _, _⟩) (v := ?_) rfl ?_ ?_; rotate_left; (focus (intro w9 hSw; go_simp; try with_reducible rfl)); simp only [Act.put, Z2, Z3, Z4]
     refine wpGv (i := 9) (oi := ⟨some 93, _, _, _, _, _⟩) (v := ?_) rfl ?_ ?_; rotate_left; (focus (intro w9 hSw; have q0 := (GY.out w9 hSw).1; have q1 : w9.cell? ⟨g, 16 + 1, none⟩ = _ := (GY.out w9 hSw).2.1; go_simp; try with_reducible rfl)); simp only [Act.put, Z2, Z3, Z4]
     refine wpGv (i := 10) (oi := ⟨some 94, _, _, _, _, _⟩) (v := (.bool false)) rfl ?_ ?_; (focus (intro w9 hSw; have q0 := QD.out w9; exact exec_neq_at 33 _ _ _ rfl rfl rfl guardStM q0)); simp only [Act.put, Z2, Z3, Z4]
     refine wpGv (i := 11) (oi := ⟨some 95, _, _, _, _, _⟩) (v := ?_) rfl ?_ ?_; rotate_left; (focus (intro w9 hSw; go_simp; try with_reducible rfl)); simp only [Act.put, Z2, Z3, Z4]
     refine wpGo (i := 12) (oi := ⟨some 96, _, _, _, _, _⟩) rfl ?_; simp only [Act.put, Z2, Z3, Z4]
     refine wpGo (i := 13) (oi := ⟨some 97, _, _, _, _, _⟩) rfl ?_; simp only [Act.put, Z2, Z3, Z4]
     refine wpGo (i := 14) (oi := ⟨some 98, _, _, _, _, _⟩) rfl ?_; simp only [Act.put, Z2, Z3, Z4]
     refine wpGo (i := 15) (oi := ⟨some 99, _, _, _, _, _⟩) rfl ?_; simp only [Act.put, Z2, Z3, Z4]
     refine wpGo (i := 16) (oi := ⟨some 100, _, _, _, _, _⟩) rfl ?_; simp only [Act.put, Z2, Z3, Z4]
     refine wpGo (i := 17) (oi := ⟨some 101, _, _, _, _, _⟩) rfl ?_; simp only [Act.put, Z2, Z3, Z4]
     refine wpGo (i := 18) (oi := ⟨some 102, _, _, _, _, _⟩) rfl ?_; simp only [Act.put, Z2, Z3, Z4]
     refine wpGv (i := 19) (oi := ⟨some 103, _, _, _, _, _⟩) (v := ?_) rfl ?_ ?_; rotate_left; (focus (intro w9 hSw; go_simp; try with_reducible rfl)); simp only [Act.put, Z2, Z3, Z4]
     refine wpGv (i := 20) (oi := ⟨some 104, _, _, _, _, _⟩) (v := ?_) rfl ?_ ?_; rotate_left; (focus (intro w9 hSw; go_simp; try with_reducible rfl)); simp only [Act.put, Z2, Z3, Z4]
     refine wpGv (i := 21) (oi := ⟨some 105, _, _, _, _, _⟩) (v := ?_) rfl ?_ ?_; rotate_left; (focus (intro w9 hSw; go_simp; try with_reducible rfl)); simp only [Act.put, Z2, Z3, Z4]
     refine wpGv (i := 22) (oi := ⟨some 106, _, _, _, _, _⟩) (v := ?_) rfl ?_ ?_; rotate_left; (focus (intro w9 hSw; go_simp; try with_reducible rfl)); simp only [Act.put, Z2, Z3, Z4]
     refine wpGv (i := 23) (oi := ⟨some 107, _, _, _, _, _⟩) (v := ?_) rfl ?_ ?_; rotate_left; (focus (intro w9 hSw; go_simp; try with_reducible rfl)); simp only [Act.put, Z2, Z3, Z4]
     refine wpGv (i := 24) (oi := ⟨some 108, _, _, _, _, _⟩) (v := ?_) rfl ?_ ?_; rotate_left; (focus (intro w9 hSw; have q0 := IXX.out w9; go_simp; try with_reducible rfl)); simp only [Act.put, Z2, Z3, Z4]
     refine wpGv (i := 25) (oi := ⟨some 109, _, _, _, _, _⟩) (v := ?_) rfl ?_ ?_; rotate_left; (focus (intro w9 hSw; go_simp; try with_reducible rfl)); simp only [Act.put, Z2, Z3, Z4]
     refine wpGv (i := 26) (oi := ⟨some 110, _, _, _, _, _⟩) (v := ?_) rfl ?_ ?_; rotate_left; (focus (intro w9 hSw; have q0 := (RX.out w9 hSw).c18; go_simp; try with_reducible rfl)); simp only [Act.put, Z2, Z3, Z4]
     refine wpGv (i := 27) (oi := ⟨some 111, _, _, _, _, _⟩) (v := ?_) rfl ?_ ?_; rotate_left; (focus (intro w9 hSw; go_simp; try with_reducible rfl)); simp only [Act.put, Z2, Z3, Z4]
     refine wpGv (i := 28) (oi := ⟨some 112, _, _, _, _, _⟩) (v := ?_) rfl ?_ ?_; rotate_left; (focus (intro w9 hSw; go_simp; try with_reducible rfl)); simp only [Act.put, Z2, Z3, Z4]
     refine wpGv (i := 29) (oi := ⟨some 113, _, _, _, _, _⟩) (v := ?_) rfl ?_ ?_; rotate_left; (focus (intro w9 hSw; have q0 := (GY.out w9 hSw).2.2; go_simp; try with_reducible rfl)); simp only [Act.put, Z2, Z3, Z4]
     refine wpGv (i := 30) (oi := ⟨some 114, _, _, _, _, _⟩) (v := ?_) rfl ?_ ?_; rotate_left; (focus (intro w9 hSw; go_simp; try with_reducible rfl)); simp only [Act.put, Z2, Z3, Z4]
     refine wpGv (i := 31) (oi := ⟨some 115, _, _, _, _, _⟩) (v := (.bool false)) rfl ?_ ?_; (focus (intro w9 hSw; first | (go_simp; done) | (go_simp; rw [t4]) | (go_simp; exact t4) | (go_simp; omega))); simp only [Act.put, Z2, Z3, Z4]
     refine wpGv (i := 32) (oi := ⟨some 116, _, _, _, _, _⟩) (v := ?_) rfl ?_ ?_; rotate_left; (focus (intro w9 hSw; go_simp; try with_reducible rfl)); simp only [Act.put, Z2, Z3, Z4]
     refine wpG_done (by kernel_rfl) ?_ _
     intro w9 hSw _
     have E9 := Lib.hid hSw
     clear hSw
     go_wp2
     go_loopw [18] (fun i wi => ∃ j : Nat, j ≤ x.R.fs.length ∧ i = .int .i64 j ∧ Below (X).heap.size (X) wi) (fun i _ => x.R.fs.length - (intOf i).toNat)
     case atStart => exact ⟨0, Nat.zero_le _, rfl, E9.out⟩
     case round =>
      obtain ⟨j, hj, rfl, hbi⟩ := hrel
      have HBI := Lib.hid hbi
      have x18 := (RX.out wr hbi).c18
      have ix0 := IXX.out wr
      clear hbi
      by_cases hlt2 : j < x.R.fs.length
      ·have t2 : (j : Int) < (x.R.fs.length : Int) := by omega
       obtain ⟨hq1, hq2, hq3, hq4⟩ := HFS.out
       obtain ⟨b1, o1, hA1, hb1, hcc⟩ := hq4 (by omega)
       have hkf := (FsAt.kfl HFS.out).2.2.2.1 (by omega)
       obtain ⟨b1', o1', hA1', _, hkf⟩ := hkf
       have he9 := Option.some.inj (hA1.symm.trans hA1')
       injection he9 with e1 e2 _
       subst e1
       subst e2
       have HKF := Lib.hid (hkf j hlt2)
       have IXF := Lib.hid (fun w9 => ix_fld b1 o1 x.R.fs.length x.c j hlt2 j rfl w9)
       rw [← hA1] at IXF
       have HR2 := Lib.hid (HRF.out (x.R.fs.getD j fld0) (by rw [List.getD, List.getElem?_eq_getElem hlt2]; exact List.getElem_mem hlt2))
       rw [show KFl.d = fld0 from rfl] at HKF
       clear hcc hq1 hq2 hq3 hq4 hA1 hA1' hkf
       generalize x.R.fs.getD j fld0 = f at *
       generalize ho5 : o1 + j * 4 = o5 at *
       rw [show o1 + j * KFl.n = o5 from ho5] at HKF
       have FK := Lib.hid (fun (X9 : World) (hX : Below wr.heap.size wr X9) => Kind.at_same HKF.out ((FW.out.trans ((EX.out.trans ((HBI.out.trans (hX.mono HBI.out.size)).mono EX.out.size)).mono FW.out.size)).block b1 hb1))
       have XI := Lib.hid (fun (X9 : World) (hX : Below wr.heap.size wr X9) => show Below (X).heap.size (X) X9 from HBI.out.trans (hX.mono HBI.out.size))
       have CF := Lib.hid (fun (X9 : World) (hX : Below wr.heap.size wr X9) => (show Calls Tryz.prog 26 #[.agg y.cells, .int .i64 f.no] X9 (fun e w' => e = .returned (.tuple #[.agg #[.int .i64 f.c.n, .int .i64 f.c.r, .string f.c.s], .bool true]) ∧ Below X9.heap.size X9 w') from by have h := xfind_any y f.no X9 (HVY.out.below (XI.out X9 hX) (Nat.le_refl _)); rw [HYR.out, HR2.out] at h; exact h))
       clear ho5
       go_wp2_with fail
       refine wp_region_G _ (by kernel_rfl) ?_
       refine wpGv (i := 0) (oi := ⟨some 128, _, _, _, _, _⟩) (v := (.agg y.cells)) rfl ?_ ?_; (focus (intro w9 hSw; exact exec_load_at 36 _ rfl _ rfl (loadRcL (GX.out w9 (XI.out w9 hSw))))); simp only [Act.put, Z2, Z3, Z4]
       refine wpGv (i := 1) (oi := ⟨some 129, _, _, _, _, _⟩) (v := ?_) rfl ?_ ?_; rotate_left; (focus (intro w9 hSw; go_simp; try with_reducible rfl)); simp only [Act.put, Z2, Z3, Z4]
       refine wpGv (i := 2) (oi := ⟨some 130, _, _, _, _, _⟩) (v := ?_) rfl ?_ ?_; rotate_left; (focus (intro w9 hSw; go_simp; try with_reducible rfl)); simp only [Act.put, Z2, Z3, Z4]
       refine wpGv (i := 3) (oi := ⟨some 131, _, _, _, _, _⟩) (v := ?_) rfl ?_ ?_; rotate_left; (focus (intro w9 hSw; have q0 := IXX.out w9; go_simp; try with_reducible rfl)); simp only [Act.put, Z2, Z3, Z4]
       refine wpGv (i := 4) (oi := ⟨some 132, _, _, _, _, _⟩) (v := ?_) rfl ?_ ?_; rotate_left; (focus (intro w9 hSw; go_simp; try with_reducible rfl)); simp only [Act.put, Z2, Z3, Z4]
       refine wpGv (i := 5) (oi := ⟨some 133, _, _, _, _, _⟩) (v := ?_) rfl ?_ ?_; rotate_left; (focus (intro w9 hSw; have q0 := (RX.out w9 (XI.out w9 hSw)).c18; go_simp; try with_reducible rfl)); simp only [Act.put, Z2, Z3, Z4]
       refine wpGv (i := 6) (oi := ⟨some 134, _, _, _, _, _⟩) (v := ?_) rfl ?_ ?_; rotate_left; (focus (intro w9 hSw; go_simp; try with_reducible rfl)); simp only [Act.put, Z2, Z3, Z4]
       refine wpGv (i := 7) (oi := ⟨some 135, _, _, _, _, _⟩) (v := ?_) rfl ?_ ?_; rotate_left; (focus (intro w9 hSw; have q0 := IXF.out w9; go_simp; try with_reducible rfl)); simp only [Act.put, Z2, Z3, Z4]
       refine wpGv (i := 8) (oi := ⟨some 136, _, _, _, _, _⟩) (v := ?_) rfl ?_ ?_; rotate_left; (focus (intro w9 hSw; go_simp; try with_reducible rfl)); simp only [Act.put, Z2, Z3, Z4]
       refine wpGv (i := 9) (oi := ⟨some 137, _, _, _, _, _⟩) (v := ?_) rfl ?_ ?_; rotate_left; (focus (intro w9 hSw; have q0 := fl_no (FK.out w9 hSw); go_simp; try with_reducible rfl)); simp only [Act.put, Z2, Z3, Z4]
       refine wpG_take (i := 10) (oi := ⟨some 138, _, _, _, _, _⟩) rfl (by kernel_rfl) (by kernel_rfl) (by kernel_rfl) (Or.inl ⟨by rfl, unib_call_if ?_ CF.out⟩) ?_; (focus (intro w9 hSw; go_simp; try with_reducible rfl)); simp only [Act.put, Z2, Z3, Z4]
       refine wpGv (i := 11) (oi := ⟨some 127, _, _, _, _, _⟩) (v := ?_) rfl ?_ ?_; rotate_left; (focus (intro w9 hSw; go_simp; try with_reducible rfl)); simp only [Act.put, Z2, Z3, Z4]
       refine wpGv (i := 12) (oi := ⟨some 139, _, _, _, _, _⟩) (v := ?_) rfl ?_ ?_; rotate_left; (focus (intro w9 hSw; go_simp; try with_reducible rfl)); simp only [Act.put, Z2, Z3, Z4]
       refine wpGv (i := 13) (oi := ⟨some 140, _, _, _, _, _⟩) (v := ?_) rfl ?_ ?_; rotate_left; (focus (intro w9 hSw; go_simp; try with_reducible rfl)); simp only [Act.put, Z2, Z3, Z4]
       refine wpG_alloc (i := 14) (oi := ⟨some 19, _, _, _, _, _⟩) (z := #[.int .i64 0, .int .i64 0, .string ⟨#[]⟩]) (t := 38) (by kernel_rfl) rfl ⟨by rfl, fun w9 hSw => by go_simp; try rfl⟩ ?_; intro g9 hg9 ng9; simp only [Act.put, Z2, Z3, Z4]
       refine wpG_store (i := 15) (oi := ⟨none, _, _, _, _, _⟩) (v := undef) [(g9, #[.int .i64 f.c.n, .int .i64 f.c.r, .string f.c.s], 38)] (by kernel_rfl) rfl ⟨by rfl, fun w9 hSw hO => ?_⟩ ?_; (focus (have q9 : ClAt w9 g9 cel00 := hO _ (.head _); have q0 := q9.c0; have q1 := q9.c1; have q2 := q9.c2; have f0 := q9.fz 0; have f1 := q9.fz 1; have f2 := q9.fz 2; refine ⟨_, Or.inr ⟨by go_simp; try rfl, rfl⟩, below_put3 hSw hg9 _ _ _, ?_⟩; intro x hx; obtain rfl := List.mem_singleton.1 hx; exact q9.put f.c)); simp only [Act.put]
       refine wpGv (i := 16) (oi := ⟨some 20, _, _, _, _, _⟩) (v := ?_) rfl ?_ ?_; rotate_left; (focus (intro w9 hSw; go_simp; try with_reducible rfl)); simp only [Act.put, Z2, Z3, Z4]
       refine wpG_done (by kernel_rfl) ?_ _
       intro w8 hSw hO
       have hC8 : ClAt w8 g9 f.c := hO _ (.head _)
       have C8 := Lib.hid hC8
       have E8 := Lib.hid hSw
       have CG := Lib.hid (fun (X9 : World) (hX : Below w8.heap.size w8 X9) => load_clL (C8.out.below hX C8.out.lt))
       have X8 := Lib.hid (fun (X9 : World) (hX : Below w8.heap.size w8 X9) => show Below wr.heap.size wr X9 from E8.out.trans (hX.mono E8.out.size))
       clear hC8 hO hSw x18 ix0
       go_wp2_with fail
       refine wp_region_G _ (by kernel_rfl) ?_
       refine wpGv (i := 0) (oi := ⟨some 141, _, _, _, _, _⟩) (v := ?_) rfl ?_ ?_; rotate_left; (focus (intro w9 hSw; go_simp; try with_reducible rfl)); simp only [Act.put, Z2, Z3, Z4]
       refine wpGv (i := 1) (oi := ⟨some 142, _, _, _, _, _⟩) (v := ?_) rfl ?_ ?_; rotate_left; (focus (intro w9 hSw; go_simp; try with_reducible rfl)); simp only [Act.put, Z2, Z3, Z4]
       refine wpGv (i := 2) (oi := ⟨some 143, _, _, _, _, _⟩) (v := ?_) rfl ?_ ?_; rotate_left; (focus (intro w9 hSw; go_simp; try with_reducible rfl)); simp only [Act.put, Z2, Z3, Z4]
       refine wpGv (i := 3) (oi := ⟨some 144, _, _, _, _, _⟩) (v := (.agg #[.int .i64 f.c.n, .int .i64 f.c.r, .string f.c.s])) rfl ?_ ?_; (focus (intro w9 hSw; exact exec_load_at 38 _ rfl _ rfl (CG.out w9 hSw))); simp only [Act.put, Z2, Z3, Z4]
       refine wpGv (i := 4) (oi := ⟨some 145, _, _, _, _, _⟩) (v := ?_) rfl ?_ ?_; rotate_left; (focus (intro w9 hSw; go_simp; try with_reducible rfl)); simp only [Act.put, Z2, Z3, Z4]
       refine wpGv (i := 5) (oi := ⟨some 146, _, _, _, _, _⟩) (v := ?_) rfl ?_ ?_; rotate_left; (focus (intro w9 hSw; go_simp; try with_reducible rfl)); simp only [Act.put, Z2, Z3, Z4]
       refine wpGv (i := 6) (oi := ⟨some 147, _, _, _, _, _⟩) (v := ?_) rfl ?_ ?_; rotate_left; (focus (intro w9 hSw; have q0 := IXX.out w9; go_simp; try with_reducible rfl)); simp only [Act.put, Z2, Z3, Z4]
       refine wpGv (i := 7) (oi := ⟨some 148, _, _, _, _, _⟩) (v := ?_) rfl ?_ ?_; rotate_left; (focus (intro w9 hSw; go_simp; try with_reducible rfl)); simp only [Act.put, Z2, Z3, Z4]
       refine wpGv (i := 8) (oi := ⟨some 149, _, _, _, _, _⟩) (v := ?_) rfl ?_ ?_; rotate_left; (focus (intro w9 hSw; have q0 := (RX.out w9 (XI.out w9 (X8.out w9 hSw))).c18; go_simp; try with_reducible rfl)); simp only [Act.put, Z2, Z3, Z4]
       refine wpGv (i := 9) (oi := ⟨some 150, _, _, _, _, _⟩) (v := ?_) rfl ?_ ?_; rotate_left; (focus (intro w9 hSw; go_simp; try with_reducible rfl)); simp only [Act.put, Z2, Z3, Z4]
       refine wpGv (i := 10) (oi := ⟨some 151, _, _, _, _, _⟩) (v := ?_) rfl ?_ ?_; rotate_left; (focus (intro w9 hSw; have q0 := IXF.out w9; go_simp; try with_reducible rfl)); simp only [Act.put, Z2, Z3, Z4]
       refine wpGv (i := 11) (oi := ⟨some 152, _, _, _, _, _⟩) (v := ?_) rfl ?_ ?_; rotate_left; (focus (intro w9 hSw; go_simp; try with_reducible rfl)); simp only [Act.put, Z2, Z3, Z4]
       refine wpGv (i := 12) (oi := ⟨some 153, _, _, _, _, _⟩) (v := (.agg #[.int .i64 f.c.n, .int .i64 f.c.r, .string f.c.s])) rfl ?_ ?_; (focus (intro w9 hSw; exact exec_load_at 38 _ rfl _ rfl (load_fcell (FK.out w9 (X8.out w9 hSw))))); simp only [Act.put, Z2, Z3, Z4]
       refine wpGv (i := 13) (oi := ⟨some 154, _, _, _, _, _⟩) (v := (.bool false)) rfl ?_ ?_; (focus (intro w9 hSw; have q0 := cl_same f.c w9; exact exec_neq_at 38 _ _ _ rfl rfl rfl guardClL q0)); simp only [Act.put, Z2, Z3, Z4]
       refine wpGv (i := 14) (oi := ⟨some 155, _, _, _, _, _⟩) (v := ?_) rfl ?_ ?_; rotate_left; (focus (intro w9 hSw; go_simp; try with_reducible rfl)); simp only [Act.put, Z2, Z3, Z4]
       refine wpG_done (by kernel_rfl) ?_ _
       intro w7 hSw _
       have E7 := Lib.hid (XI.out w7 (X8.out w7 hSw))
       clear hSw
       go_wp2
       go_roundw
       case rel => exact ⟨j + 1, by omega, by go_num, E7.out⟩
       case measure => simp [intOf]; omega
      ·have t2 : ¬ (j : Int) < (x.R.fs.length : Int) := by omega
       go_wp2
       go_roundw
       case rel => exact ⟨k + 1, by omega, by go_num, HB.out.trans ((EB.out.trans (HBI.out.mono EB.out.size)).mono HB.out.size)⟩
       case measure => simp [intOf]; omega
    ·have QD := Lib.hid (fun X9 : World => show (Op.equalIn 10000 33 (.agg #[.int .i64 x.R.n, .int .i64 x.R.r]) (.agg #[.int .i64 R.n, .int .i64 R.r])).run Tryz.prog X9 = .ok false X9 from by rw [eq_st, decide_eq_false hd9.1])
     have QZ := Lib.hid (fun X9 : World => show (Op.equalIn 10000 33 (.agg #[.int .i64 x.R.n, .int .i64 x.R.r]) (.agg #[.int .i64 0, .int .i64 0])).run Tryz.prog X9 = .ok true X9 from by rw [eq_st, decide_eq_true hd9.2])
     clear hd9
     go_wp2_with fail
     refine wp_region_G _ (by kernel_rfl) ?_
     refine wpGv (i := 0) (oi := ⟨some 84, _, _, _, _, _⟩) (v := ?_) rfl ?_ ?_; rotate_left; (focus (intro w9 hSw; go_simp; try with_reducible rfl)); simp only [Act.put, Z2, Z3, Z4]
     refine wpGv (i := 1) (oi := ⟨some 85, _, _, _, _, _⟩) (v := ?_) rfl ?_ ?_; rotate_left; (focus (intro w9 hSw; go_simp; try with_reducible rfl)); simp only [Act.put, Z2, Z3, Z4]
     refine wpGv (i := 2) (oi := ⟨some 86, _, _, _, _, _⟩) (v := ?_) rfl ?_ ?_; rotate_left; (focus (intro w9 hSw; go_simp; try with_reducible rfl)); simp only [Act.put, Z2, Z3, Z4]
     refine wpGv (i := 3) (oi := ⟨some 87, _, _, _, _, _⟩) (v := ?_) rfl ?_ ?_; rotate_left; (focus (intro w9 hSw; go_simp; try with_reducible rfl)); simp only [Act.put, Z2, Z3, Z4]
     refine wpGv (i := 4) (oi := ⟨some 88, _, _, _, _, _⟩) (v := ?_) rfl ?_ ?_; rotate_left; (focus (intro w9 hSw; go_simp; try with_reducible rfl)); simp only [Act.put, Z2, Z3, Z4]
     refine wpGv (i := 5) (oi := ⟨some 89, _, _, _, _, _⟩) (v := ?_) rfl ?_ ?_; rotate_left; (focus (intro w9 hSw; have q0 := IXX.out w9; go_simp; try with_reducible rfl)); simp only [Act.put, Z2, Z3, Z4]
     refine wpGv (i := 6) (oi := ⟨some 90, _, _, _, _, _⟩) (v := ?_) rfl ?_ ?_; rotate_left; (focus (intro w9 hSw; go_simp; try with_reducible rfl)); simp only [Act.put, Z2, Z3, Z4]
     refine wpGv (i := 7) (oi := ⟨some 91, _, _, _, _, _⟩) (v := ?_) rfl ?_ ?_; rotate_left; (focus (intro w9 hSw; have q0 := (RX.out w9 hSw).c16; have q1 : w9.cell? ⟨b0, ox + 16 + 1, none⟩ = _ := (RX.out w9 hSw).c17; go_simp; try with_reducible rfl)); simp only [Act.put, Z2, Z3, Z4]
     refine wpGv (i := 8) (oi := ⟨some 92, _, _, _, _, _⟩) (v := ?_) rfl ?_ ?_; rotate_left; (focus (intro w9 hSw; go_simp; try with_reducible rfl)); simp only [Act.put, Z2, Z3, Z4]
     refine wpGv (i := 9) (oi := ⟨some 93, _, _, _, _, _⟩) (v := ?_) rfl ?_ ?_; rotate_left; (focus (intro w9 hSw; have q0 := (GY.out w9 hSw).1; have q1 : w9.cell? ⟨g, 16 + 1, none⟩ = _ := (GY.out w9 hSw).2.1; go_simp; try with_reducible rfl)); simp only [Act.put, Z2, Z3, Z4]
     refine wpGv (i := 10) (oi := ⟨some 94, _, _, _, _, _⟩) (v := (.bool true)) rfl ?_ ?_; (focus (intro w9 hSw; have q0 := QD.out w9; exact exec_neq_at 33 _ _ _ rfl rfl rfl guardStM q0)); simp only [Act.put, Z2, Z3, Z4]
     refine wpGv (i := 11) (oi := ⟨some 95, _, _, _, _, _⟩) (v := ?_) rfl ?_ ?_; rotate_left; (focus (intro w9 hSw; go_simp; try with_reducible rfl)); simp only [Act.put, Z2, Z3, Z4]
     refine wpGv (i := 12) (oi := ⟨some 96, _, _, _, _, _⟩) (v := ?_) rfl ?_ ?_; rotate_left; (focus (intro w9 hSw; go_simp; try with_reducible rfl)); simp only [Act.put, Z2, Z3, Z4]
     refine wpGv (i := 13) (oi := ⟨some 97, _, _, _, _, _⟩) (v := ?_) rfl ?_ ?_; rotate_left; (focus (intro w9 hSw; go_simp; try with_reducible rfl)); simp only [Act.put, Z2, Z3, Z4]
     refine wpGv (i := 14) (oi := ⟨some 98, _, _, _, _, _⟩) (v := ?_) rfl ?_ ?_; rotate_left; (focus (intro w9 hSw; have q0 := IXX.out w9; go_simp; try with_reducible rfl)); simp only [Act.put, Z2, Z3, Z4]
     refine wpGv (i := 15) (oi := ⟨some 99, _, _, _, _, _⟩) (v := ?_) rfl ?_ ?_; rotate_left; (focus (intro w9 hSw; go_simp; try with_reducible rfl)); simp only [Act.put, Z2, Z3, Z4]
     refine wpGv (i := 16) (oi := ⟨some 100, _, _, _, _, _⟩) (v := ?_) rfl ?_ ?_; rotate_left; (focus (intro w9 hSw; have q0 := (RX.out w9 hSw).c16; have q1 : w9.cell? ⟨b0, ox + 16 + 1, none⟩ = _ := (RX.out w9 hSw).c17; go_simp; try with_reducible rfl)); simp only [Act.put, Z2, Z3, Z4]
     refine wpGv (i := 17) (oi := ⟨some 101, _, _, _, _, _⟩) (v := (.agg #[.int .i64 0, .int .i64 0])) rfl ?_ ?_; (focus (intro w9 hSw; exact exec_build_at 33 #[] rfl #[] (by simp) (build_stL w9))); simp only [Act.put, Z2, Z3, Z4]
     refine wpGv (i := 18) (oi := ⟨some 102, _, _, _, _, _⟩) (v := (.bool false)) rfl ?_ ?_; (focus (intro w9 hSw; have q0 := QZ.out w9; exact exec_neq_at 33 _ _ _ rfl rfl rfl guardStM q0)); simp only [Act.put, Z2, Z3, Z4]
     refine wpGv (i := 19) (oi := ⟨some 103, _, _, _, _, _⟩) (v := ?_) rfl ?_ ?_; rotate_left; (focus (intro w9 hSw; go_simp; try with_reducible rfl)); simp only [Act.put, Z2, Z3, Z4]
     refine wpGv (i := 20) (oi := ⟨some 104, _, _, _, _, _⟩) (v := ?_) rfl ?_ ?_; rotate_left; (focus (intro w9 hSw; go_simp; try with_reducible rfl)); simp only [Act.put, Z2, Z3, Z4]
     refine wpGv (i := 21) (oi := ⟨some 105, _, _, _, _, _⟩) (v := ?_) rfl ?_ ?_; rotate_left; (focus (intro w9 hSw; go_simp; try with_reducible rfl)); simp only [Act.put, Z2, Z3, Z4]
     refine wpGv (i := 22) (oi := ⟨some 106, _, _, _, _, _⟩) (v := ?_) rfl ?_ ?_; rotate_left; (focus (intro w9 hSw; go_simp; try with_reducible rfl)); simp only [Act.put, Z2, Z3, Z4]
     refine wpGv (i := 23) (oi := ⟨some 107, _, _, _, _, _⟩) (v := ?_) rfl ?_ ?_; rotate_left; (focus (intro w9 hSw; go_simp; try with_reducible rfl)); simp only [Act.put, Z2, Z3, Z4]
     refine wpGv (i := 24) (oi := ⟨some 108, _, _, _, _, _⟩) (v := ?_) rfl ?_ ?_; rotate_left; (focus (intro w9 hSw; have q0 := IXX.out w9; go_simp; try with_reducible rfl)); simp only [Act.put, Z2, Z3, Z4]
     refine wpGv (i := 25) (oi := ⟨some 109, _, _, _, _, _⟩) (v := ?_) rfl ?_ ?_; rotate_left; (focus (intro w9 hSw; go_simp; try with_reducible rfl)); simp only [Act.put, Z2, Z3, Z4]
     refine wpGv (i := 26) (oi := ⟨some 110, _, _, _, _, _⟩) (v := ?_) rfl ?_ ?_; rotate_left; (focus (intro w9 hSw; have q0 := (RX.out w9 hSw).c18; go_simp; try with_reducible rfl)); simp only [Act.put, Z2, Z3, Z4]
     refine wpGv (i := 27) (oi := ⟨some 111, _, _, _, _, _⟩) (v := ?_) rfl ?_ ?_; rotate_left; (focus (intro w9 hSw; go_simp; try with_reducible rfl)); simp only [Act.put, Z2, Z3, Z4]
     refine wpGv (i := 28) (oi := ⟨some 112, _, _, _, _, _⟩) (v := ?_) rfl ?_ ?_; rotate_left; (focus (intro w9 hSw; go_simp; try with_reducible rfl)); simp only [Act.put, Z2, Z3, Z4]
     refine wpGv (i := 29) (oi := ⟨some 113, _, _, _, _, _⟩) (v := ?_) rfl ?_ ?_; rotate_left; (focus (intro w9 hSw; have q0 := (GY.out w9 hSw).2.2; go_simp; try with_reducible rfl)); simp only [Act.put, Z2, Z3, Z4]
     refine wpGv (i := 30) (oi := ⟨some 114, _, _, _, _, _⟩) (v := ?_) rfl ?_ ?_; rotate_left; (focus (intro w9 hSw; go_simp; try with_reducible rfl)); simp only [Act.put, Z2, Z3, Z4]
     refine wpGv (i := 31) (oi := ⟨some 115, _, _, _, _, _⟩) (v := (.bool false)) rfl ?_ ?_; (focus (intro w9 hSw; first | (go_simp; done) | (go_simp; rw [t4]) | (go_simp; exact t4) | (go_simp; omega))); simp only [Act.put, Z2, Z3, Z4]
     refine wpGv (i := 32) (oi := ⟨some 116, _, _, _, _, _⟩) (v := ?_) rfl ?_ ?_; rotate_left; (focus (intro w9 hSw; go_simp; try with_reducible rfl)); simp only [Act.put, Z2, Z3, Z4]
     refine wpG_done (by kernel_rfl) ?_ _
     intro w9 hSw _
     have E9 := Lib.hid hSw
     clear hSw
     go_wp2
     go_loopw [18] (fun i wi => ∃ j : Nat, j ≤ x.R.fs.length ∧ i = .int .i64 j ∧ Below (X).heap.size (X) wi) (fun i _ => x.R.fs.length - (intOf i).toNat)
     case atStart => exact ⟨0, Nat.zero_le _, rfl, E9.out⟩
     case round =>
      obtain ⟨j, hj, rfl, hbi⟩ := hrel
      have HBI := Lib.hid hbi
      have x18 := (RX.out wr hbi).c18
      have ix0 := IXX.out wr
      clear hbi
      by_cases hlt2 : j < x.R.fs.length
      ·have t2 : (j : Int) < (x.R.fs.length : Int) := by omega
       obtain ⟨hq1, hq2, hq3, hq4⟩ := HFS.out
       obtain ⟨b1, o1, hA1, hb1, hcc⟩ := hq4 (by omega)
       have hkf := (FsAt.kfl HFS.out).2.2.2.1 (by omega)
       obtain ⟨b1', o1', hA1', _, hkf⟩ := hkf
       have he9 := Option.some.inj (hA1.symm.trans hA1')
       injection he9 with e1 e2 _
       subst e1
       subst e2
       have HKF := Lib.hid (hkf j hlt2)
       have IXF := Lib.hid (fun w9 => ix_fld b1 o1 x.R.fs.length x.c j hlt2 j rfl w9)
       rw [← hA1] at IXF
       have HR2 := Lib.hid (HRF.out (x.R.fs.getD j fld0) (by rw [List.getD, List.getElem?_eq_getElem hlt2]; exact List.getElem_mem hlt2))
       rw [show KFl.d = fld0 from rfl] at HKF
       clear hcc hq1 hq2 hq3 hq4 hA1 hA1' hkf
       generalize x.R.fs.getD j fld0 = f at *
       generalize ho5 : o1 + j * 4 = o5 at *
       rw [show o1 + j * KFl.n = o5 from ho5] at HKF
       have FK := Lib.hid (fun (X9 : World) (hX : Below wr.heap.size wr X9) => Kind.at_same HKF.out ((FW.out.trans ((EX.out.trans ((HBI.out.trans (hX.mono HBI.out.size)).mono EX.out.size)).mono FW.out.size)).block b1 hb1))
       have XI := Lib.hid (fun (X9 : World) (hX : Below wr.heap.size wr X9) => show Below (X).heap.size (X) X9 from HBI.out.trans (hX.mono HBI.out.size))
       have CF := Lib.hid (fun (X9 : World) (hX : Below wr.heap.size wr X9) => (show Calls Tryz.prog 26 #[.agg y.cells, .int .i64 f.no] X9 (fun e w' => e = .returned (.tuple #[.agg #[.int .i64 f.c.n, .int .i64 f.c.r, .string f.c.s], .bool true]) ∧ Below X9.heap.size X9 w') from by have h := xfind_any y f.no X9 (HVY.out.below (XI.out X9 hX) (Nat.le_refl _)); rw [HYR.out, HR2.out] at h; exact h))
       clear ho5
       go_wp2_with fail
       refine wp_region_G _ (by kernel_rfl) ?_
       refine wpGv (i := 0) (oi := ⟨some 128, _, _, _, _, _⟩) (v := (.agg y.cells)) rfl ?_ ?_; (focus (intro w9 hSw; exact exec_load_at 36 _ rfl _ rfl (loadRcL (GX.out w9 (XI.out w9 hSw))))); simp only [Act.put, Z2, Z3, Z4]
       refine wpGv (i := 1) (oi := ⟨some 129, _, _, _, _, _⟩) (v := ?_) rfl ?_ ?_; rotate_left; (focus (intro w9 hSw; go_simp; try with_reducible rfl)); simp only [Act.put, Z2, Z3, Z4]
       refine wpGv (i := 2) (oi := ⟨some 130, _, _, _, _, _⟩) (v := ?_) rfl ?_ ?_; rotate_left; (focus (intro w9 hSw; go_simp; try with_reducible rfl)); simp only [Act.put, Z2, Z3, Z4]
       refine wpGv (i := 3) (oi := ⟨some 131, _, _, _, _, _⟩) (v := ?_) rfl ?_ ?_; rotate_left; (focus (intro w9 hSw; have q0 := IXX.out w9; go_simp; try with_reducible rfl)); simp only [Act.put, Z2, Z3, Z4]
       refine wpGv (i := 4) (oi := ⟨some 132, _, _, _, _, _⟩) (v := ?_) rfl ?_ ?_; rotate_left; (focus (intro w9 hSw; go_simp; try with_reducible rfl)); simp only [Act.put, Z2, Z3, Z4]
       refine wpGv (i := 5) (oi := ⟨some 133, _, _, _, _, _⟩) (v := ?_) rfl ?_ ?_; rotate_left; (focus (intro w9 hSw; have q0 := (RX.out w9 (XI.out w9 hSw)).c18; go_simp; try with_reducible rfl)); simp only [Act.put, Z2, Z3, Z4]
       refine wpGv (i := 6) (oi := ⟨some 134, _, _, _, _, _⟩) (v := ?_) rfl ?_ ?_; rotate_left; (focus (intro w9 hSw; go_simp; try with_reducible rfl)); simp only [Act.put, Z2, Z3, Z4]
       refine wpGv (i := 7) (oi := ⟨some 135, _, _, _, _, _⟩) (v := ?_) rfl ?_ ?_; rotate_left; (focus (intro w9 hSw; have q0 := IXF.out w9; go_simp; try with_reducible rfl)); simp only [Act.put, Z2, Z3, Z4]
       refine wpGv (i := 8) (oi := ⟨some 136, _, _, _, _, _⟩) (v := ?_) rfl ?_ ?_; rotate_left; (focus (intro w9 hSw; go_simp; try with_reducible rfl)); simp only [Act.put, Z2, Z3, Z4]
       refine wpGv (i := 9) (oi := ⟨some 137, _, _, _, _, _⟩) (v := ?_) rfl ?_ ?_; rotate_left; (focus (intro w9 hSw; have q0 := fl_no (FK.out w9 hSw); go_simp; try with_reducible rfl)); simp only [Act.put, Z2, Z3, Z4]
       refine wpG_take (i := 10) (oi := ⟨some 138, _, _, _, _, _⟩) rfl (by kernel_rfl) (by kernel_rfl) (by kernel_rfl) (Or.inl ⟨by rfl, unib_call_if ?_ CF.out⟩) ?_; (focus (intro w9 hSw; go_simp; try with_reducible rfl)); simp only [Act.put, Z2, Z3, Z4]
       refine wpGv (i := 11) (oi := ⟨some 127, _, _, _, _, _⟩) (v := ?_) rfl ?_ ?_; rotate_left; (focus (intro w9 hSw; go_simp; try with_reducible rfl)); simp only [Act.put, Z2, Z3, Z4]
       refine wpGv (i := 12) (oi := ⟨some 139, _, _, _, _, _⟩) (v := ?_) rfl ?_ ?_; rotate_left; (focus (intro w9 hSw; go_simp; try with_reducible rfl)); simp only [Act.put, Z2, Z3, Z4]
       refine wpGv (i := 13) (oi := ⟨some 140, _, _, _, _, _⟩) (v := ?_) rfl ?_ ?_; rotate_left; (focus (intro w9 hSw; go_simp; try with_reducible rfl)); simp only [Act.put, Z2, Z3, Z4]
       refine wpG_alloc (i := 14) (oi := ⟨some 19, _, _, _, _, _⟩) (z := #[.int .i64 0, .int .i64 0, .string ⟨#[]⟩]) (t := 38) (by kernel_rfl) rfl ⟨by rfl, fun w9 hSw => by go_simp; try rfl⟩ ?_; intro g9 hg9 ng9; simp only [Act.put, Z2, Z3, Z4]
       refine wpG_store (i := 15) (oi := ⟨none, _, _, _, _, _⟩) (v := undef) [(g9, #[.int .i64 f.c.n, .int .i64 f.c.r, .string f.c.s], 38)] (by kernel_rfl) rfl ⟨by rfl, fun w9 hSw hO => ?_⟩ ?_; (focus (have q9 : ClAt w9 g9 cel00 := hO _ (.head _); have q0 := q9.c0; have q1 := q9.c1; have q2 := q9.c2; have f0 := q9.fz 0; have f1 := q9.fz 1; have f2 := q9.fz 2; refine ⟨_, Or.inr ⟨by go_simp; try rfl, rfl⟩, below_put3 hSw hg9 _ _ _, ?_⟩; intro x hx; obtain rfl := List.mem_singleton.1 hx; exact q9.put f.c)); simp only [Act.put]
       refine wpGv (i := 16) (oi := ⟨some 20, _, _, _, _, _⟩) (v := ?_) rfl ?_ ?_; rotate_left; (focus (intro w9 hSw; go_simp; try with_reducible rfl)); simp only [Act.put, Z2, Z3, Z4]
       refine wpG_done (by kernel_rfl) ?_ _
       intro w8 hSw hO
       have hC8 : ClAt w8 g9 f.c := hO _ (.head _)
       have C8 := Lib.hid hC8
       have E8 := Lib.hid hSw
       have CG := Lib.hid (fun (X9 : World) (hX : Below w8.heap.size w8 X9) => load_clL (C8.out.below hX C8.out.lt))
       have X8 := Lib.hid (fun (X9 : World) (hX : Below w8.heap.size w8 X9) => show Below wr.heap.size wr X9 from E8.out.trans (hX.mono E8.out.size))
       clear hC8 hO hSw x18 ix0
       go_wp2_with fail
       refine wp_region_G _ (by kernel_rfl) ?_
       refine wpGv (i := 0) (oi := ⟨some 141, _, _, _, _, _⟩) (v := ?_) rfl ?_ ?_; rotate_left; (focus (intro w9 hSw; go_simp; try with_reducible rfl)); simp only [Act.put, Z2, Z3, Z4]
       refine wpGv (i := 1) (oi := ⟨some 142, _, _, _, _, _⟩) (v := ?_) rfl ?_ ?_; rotate_left; (focus (intro w9 hSw; go_simp; try with_reducible rfl)); simp only [Act.put, Z2, Z3, Z4]
       refine wpGv (i := 2) (oi := ⟨some 143, _, _, _, _, _⟩) (v := ?_) rfl ?_ ?_; rotate_left; (focus (intro w9 hSw; go_simp; try with_reducible rfl)); simp only [Act.put, Z2, Z3, Z4]
       refine wpGv (i := 3) (oi := ⟨some 144, _, _, _, _, _⟩) (v := (.agg #[.int .i64 f.c.n, .int .i64 f.c.r, .string f.c.s])) rfl ?_ ?_; (focus (intro w9 hSw; exact exec_load_at 38 _ rfl _ rfl (CG.out w9 hSw))); simp only [Act.put, Z2, Z3, Z4]
       refine wpGv (i := 4) (oi := ⟨some 145, _, _, _, _, _⟩) (v := ?_) rfl ?_ ?_; rotate_left; (focus (intro w9 hSw; go_simp; try with_reducible rfl)); simp only [Act.put, Z2, Z3, Z4]
       refine wpGv (i := 5) (oi := ⟨some 146, _, _, _, _, _⟩) (v := ?_) rfl ?_ ?_; rotate_left; (focus (intro w9 hSw; go_simp; try with_reducible rfl)); simp only [Act.put, Z2, Z3, Z4]
       refine wpGv (i := 6) (oi := ⟨some 147, _, _, _, _, _⟩) (v := ?_) rfl ?_ ?_; rotate_left; (focus (intro w9 hSw; have q0 := IXX.out w9; go_simp; try with_reducible rfl)); simp only [Act.put, Z2, Z3, Z4]
       refine wpGv (i := 7) (oi := ⟨some 148, _, _, _, _, _⟩) (v := ?_) rfl ?_ ?_; rotate_left; (focus (intro w9 hSw; go_simp; try with_reducible rfl)); simp only [Act.put, Z2, Z3, Z4]
       refine wpGv (i := 8) (oi := ⟨some 149, _, _, _, _, _⟩) (v := ?_) rfl ?_ ?_; rotate_left; (focus (intro w9 hSw; have q0 := (RX.out w9 (XI.out w9 (X8.out w9 hSw))).c18; go_simp; try with_reducible rfl)); simp only [Act.put, Z2, Z3, Z4]
       refine wpGv (i := 9) (oi := ⟨some 150, _, _, _, _, _⟩) (v := ?_) rfl ?_ ?_; rotate_left; (focus (intro w9 hSw; go_simp; try with_reducible rfl)); simp only [Act.put, Z2, Z3, Z4]
       refine wpGv (i := 10) (oi := ⟨some 151, _, _, _, _, _⟩) (v := ?_) rfl ?_ ?_; rotate_left; (focus (intro w9 hSw; have q0 := IXF.out w9; go_simp; try with_reducible rfl)); simp only [Act.put, Z2, Z3, Z4]
       refine wpGv (i := 11) (oi := ⟨some 152, _, _, _, _, _⟩) (v := ?_) rfl ?_ ?_; rotate_left; (focus (intro w9 hSw; go_simp; try with_reducible rfl)); simp only [Act.put, Z2, Z3, Z4]
       refine wpGv (i := 12) (oi := ⟨some 153, _, _, _, _, _⟩) (v := (.agg #[.int .i64 f.c.n, .int .i64 f.c.r, .string f.c.s])) rfl ?_ ?_; (focus (intro w9 hSw; exact exec_load_at 38 _ rfl _ rfl (load_fcell (FK.out w9 (X8.out w9 hSw))))); simp only [Act.put, Z2, Z3, Z4]
       refine wpGv (i := 13) (oi := ⟨some 154, _, _, _, _, _⟩) (v := (.bool false)) rfl ?_ ?_; (focus (intro w9 hSw; have q0 := cl_same f.c w9; exact exec_neq_at 38 _ _ _ rfl rfl rfl guardClL q0)); simp only [Act.put, Z2, Z3, Z4]
       refine wpGv (i := 14) (oi := ⟨some 155, _, _, _, _, _⟩) (v := ?_) rfl ?_ ?_; rotate_left; (focus (intro w9 hSw; go_simp; try with_reducible rfl)); simp only [Act.put, Z2, Z3, Z4]
       refine wpG_done (by kernel_rfl) ?_ _
       intro w7 hSw _
       have E7 := Lib.hid (XI.out w7 (X8.out w7 hSw))
       clear hSw
       go_wp2
       go_roundw
       case rel => exact ⟨j + 1, by omega, by go_num, E7.out⟩
       case measure => simp [intOf]; omega
      ·have t2 : ¬ (j : Int) < (x.R.fs.length : Int) := by omega
       go_wp2
       go_roundw
       case rel => exact ⟨k + 1, by omega, by go_num, HB.out.trans ((EB.out.trans (HBI.out.mono EB.out.size)).mono HB.out.size)⟩
       case measure => simp [intOf]; omega
   ·go_simp
    have HBX := Lib.hid (hS.alloc hS.size (.cells rcA0.cells 36))
    have G00 := Lib.hid (XAt.new (x := rcA0) wr.drew z16_len)
    clear hS
    refine hK.out _ _ HBX.out (fun hS => ?_)
    clear hK K
    try simp only [Act.put, Z2, Z3, Z4]
    refine wpAnyH_ready (rs := [6]) (by kernel_rfl) (by simp) (AllReadyH.cons (o := ⟨some 81, _, _, _, _, _⟩) rfl (fun K hK => ?_) AllReadyH.nil)
    go_simp
    refine (HJ.out _ HBX.out).mono ?_
    rintro e x0 ⟨y, rfl, hy, hvy, hb0x⟩
    have HYR := Lib.hid hy
    have HVY0 := Lib.hid hvy
    have HVY1 := Lib.hid hvy
    have HBX2 := Lib.hid (HBX.out.trans (hb0x.mono HBX.out.size))
    have G0 := Lib.hid (show XAt x0 wr.heap.size rcA0 from G00.out.below hb0x G00.out.lt)
    have HGE := Lib.hid (Nat.le_refl wr.heap.size)
    clear hS hb0x hy hvy G00
    refine hK.out _ _ HBX2.out (fun hS => ?_)
    clear hK K
    try simp only [Act.put, Z2, Z3, Z4]
    refine wpHv (i := 7) (oi := ⟨some 74, _, _, _, _, _⟩) (v := ?_) rfl ?_ hS ?_; rotate_left; (focus (intro w9 hSw; go_simp; try with_reducible rfl)); simp only [Act.put, Z2, Z3, Z4]
    refine wpHv (i := 8) (oi := ⟨some 82, _, _, _, _, _⟩) (v := ?_) rfl ?_ hS ?_; rotate_left; (focus (intro w9 hSw; go_simp; try with_reducible rfl)); simp only [Act.put, Z2, Z3, Z4]
    refine wpHv (i := 9) (oi := ⟨some 83, _, _, _, _, _⟩) (v := ?_) rfl ?_ hS ?_; rotate_left; (focus (intro w9 hSw; go_simp; try with_reducible rfl)); simp only [Act.put, Z2, Z3, Z4]
    refine wpAnyH_ready (rs := [11]) (by kernel_rfl) (by simp) (AllReadyH.cons (o := ⟨none, _, _, _, _, _⟩) rfl (fun K hK => ?_) AllReadyH.nil)
    refine in_storeL rfl 36 (.tmp 16) (.tmp 82) rfl wr.heap.size rfl y rfl rcA0 G0.out HVY0.out.len ?_
    intro X hg2 G9x
    have EB := Lib.hid (HBX2.out.grown hg2 HBX2.out.size (fun k9 e9 => by have := Option.some.inj e9; have := HGE.out; omega))
    have G9 := Lib.hid G9x
    have HVY := Lib.hid (HVY1.out.kept_x hg2 G0.out)
    clear hg2 G9x HBX HBX2 HVY0 HVY1 G0
    refine hK.out _ _ EB.out (fun hS => ?_)
    clear hK K
    try simp only [Act.put, Z2, Z3, Z4]
    refine wpHv (i := 12) (oi := ⟨some 17, _, _, _, _, _⟩) (v := ?_) rfl ?_ hS ?_; rotate_left; (focus (intro w9 hSw; go_simp; try with_reducible rfl)); simp only [Act.put, Z2, Z3, Z4]
    refine wpAnyH_done (by kernel_rfl) ?_ _
    clear hS
    obtain ⟨g, hg7⟩ : ∃ g, g = wr.heap.size := ⟨_, rfl⟩
    rw [← hg7] at G9 ⊢
    clear hg7
    have EX := Lib.hid (HB.out.trans (EB.out.mono HB.out.size))
    have RX := Lib.hid (fun (X9 : World) (hX : Below (X).heap.size (X) X9) => HX1.out.same ((EX.out.trans (hX.mono EX.out.size)).block b0 hb0))
    have GX := Lib.hid (fun (X9 : World) (hX : Below (X).heap.size (X) X9) => G9.out.below hX G9.out.lt)
    have GY := Lib.hid (fun (X9 : World) (hX : Below (X).heap.size (X) X9) => show X9.cell? ⟨g, 16, none⟩ = some (.int .i64 R.n) ∧ X9.cell? ⟨g, 17, none⟩ = some (.int .i64 R.r) ∧ X9.cell? ⟨g, 18, none⟩ = some (.slice y.A R.fs.length y.c) from ⟨by rw [← HYR.out]; exact (GX.out X9 hX).c16, by rw [← HYR.out]; exact (GX.out X9 hX).c17, by rw [← HYR.out]; exact (GX.out X9 hX).c18⟩)
    rcases HDD.out with hd9 | hd9
    ·have QD := Lib.hid (fun X9 : World => show (Op.equalIn 10000 33 (.agg #[.int .i64 x.R.n, .int .i64 x.R.r]) (.agg #[.int .i64 R.n, .int .i64 R.r])).run Tryz.prog X9 = .ok true X9 from by rw [eq_st, decide_eq_true hd9])
     clear hd9
     go_wp2_with fail
     refine wp_region_G _ (by kernel_rfl) ?_
     refine wpGv (i := 0) (oi := ⟨some 84, _, _, _, _, _⟩) (v := ?_) rfl ?_ ?_; rotate_left; (focus (intro w9 hSw; go_simp; try with_reducible rfl)); simp only [Act.put, Z2, Z3, Z4]
     refine wpGv (i := 1) (oi := ⟨some 85, _, _, _, _, _⟩) (v := ?_) rfl ?_ ?_; rotate_left; (focus (intro w9 hSw; go_simp; try with_reducible rfl)); simp only [Act.put, Z2, Z3, Z4]
     refine wpGv (i := 2) (oi := ⟨some 86, _, _, _, _, _⟩) (v := ?_) rfl ?_ ?_; rotate_left; (focus (intro w9 hSw; go_simp; try with_reducible rfl)); simp only [Act.put, Z2, Z3, Z4]
     refine wpGv (i := 3) (oi := ⟨some 87, _, _, _, _, _⟩) (v := ?_) rfl ?_ ?_; rotate_left; (focus (intro w9 hSw; go_simp; try with_reducible rfl)); simp only [Act.put, Z2, Z3, Z4]
     refine wpGv (i := 4) (oi := ⟨some 88, _, _, _, _, _⟩) (v := ?_) rfl ?_ ?_; rotate_left; (focus (intro w9 hSw; go_simp; try with_reducible rfl)); simp only [Act.put, Z2, Z3, Z4]
     refine wpGv (i := 5) (oi := ⟨some 89, _, _, _, _, _⟩) (v := ?_) rfl ?_ ?_; rotate_left; (focus (intro w9 hSw; have q0 := IXX.out w9; go_simp; try with_reducible rfl)); simp only [Act.put, Z2, Z3, Z4]
     refine wpGv (i := 6) (oi := ⟨some 90, _, _, _, _, _⟩) (v := ?_) rfl ?_ ?_; rotate_left; (focus (intro w9 hSw; go_simp; try with_reducible rfl)); simp only [Act.put, Z2, Z3, Z4]
     refine wpGv (i := 7) (oi := ⟨some 91, _, _, _, _, _⟩) (v := ?_) rfl ?_ ?_; rotate_left; (focus (intro w9 hSw; have q0 := (RX.out w9 hSw).c16; have q1 : w9.cell? ⟨b0, ox + 16 + 1, none⟩ = _ := (RX.out w9 hSw).c17; go_simp; try with_reducible rfl)); simp only [Act.put, Z2, Z3, Z4]
     refine wpGv (i := 8) (oi := ⟨some 92, _, _, _, _, _⟩) (v := ?_) rfl ?_ ?_; rotate_left; (focus (intro w9 hSw; go_simp; try with_reducible rfl)); simp only [Act.put, Z2, Z3, Z4]
     refine wpGv (i := 9) (oi := ⟨some 93, _, _, _, _, _⟩) (v := ?_) rfl ?_ ?_; rotate_left; (focus (intro w9 hSw; have q0 := (GY.out w9 hSw).1; have q1 : w9.cell? ⟨g, 16 + 1, none⟩ = _ := (GY.out w9 hSw).2.1; go_simp; try with_reducible rfl)); simp only [Act.put, Z2, Z3, Z4]
     refine wpGv (i := 10) (oi := ⟨some 94, _, _, _, _, _⟩) (v := (.bool false)) rfl ?_ ?_; (focus (intro w9 hSw; have q0 := QD.out w9; exact exec_neq_at 33 _ _ _ rfl rfl rfl guardStM q0)); simp only [Act.put, Z2, Z3, Z4]
     refine wpGv (i := 11) (oi := ⟨some 95, _, _, _, _, _⟩) (v := ?_) rfl ?_ ?_; rotate_left; (focus (intro w9 hSw; go_simp; try with_reducible rfl)); simp only [Act.put, Z2, Z3, Z4]
     refine wpGo (i := 12) (oi := ⟨some 96, _, _, _, _, _⟩) rfl ?_; simp only [Act.put, Z2, Z3, Z4]
     refine wpGo (i := 13) (oi := ⟨some 97, _, _, _, _, _⟩) rfl ?_; simp only [Act.put, Z2, Z3, Z4]
     refine wpGo (i := 14) (oi := ⟨some 98, _, _, _, _, _⟩) rfl ?_; simp only [Act.put, Z2, Z3, Z4]
     refine wpGo (i := 15) (oi := ⟨some 99, _, _, _, _, _⟩) rfl ?_; simp only [Act.put, Z2, Z3, Z4]
     refine wpGo (i := 16) (oi := ⟨some 100, _, _, _, _, _⟩) rfl ?_; simp only [Act.put, Z2, Z3, Z4]
     refine wpGo (i := 17) (oi := ⟨some 101, _, _, _, _, _⟩) rfl ?_; simp only [Act.put, Z2, Z3, Z4]
     refine wpGo (i := 18) (oi := ⟨some 102, _, _, _, _, _⟩) rfl ?_; simp only [Act.put, Z2, Z3, Z4]
     refine wpGv (i := 19) (oi := ⟨some 103, _, _, _, _, _⟩) (v := ?_) rfl ?_ ?_; rotate_left; (focus (intro w9 hSw; go_simp; try with_reducible rfl)); simp only [Act.put, Z2, Z3, Z4]
     refine wpGv (i := 20) (oi := ⟨some 104, _, _, _, _, _⟩) (v := ?_) rfl ?_ ?_; rotate_left; (focus (intro w9 hSw; go_simp; try with_reducible rfl)); simp only [Act.put, Z2, Z3, Z4]
     refine wpGv (i := 21) (oi := ⟨some 105, _, _, _, _, _⟩) (v := ?_) rfl ?_ ?_; rotate_left; (focus (intro w9 hSw; go_simp; try with_reducible rfl)); simp only [Act.put, Z2, Z3, Z4]
     refine wpGv (i := 22) (oi := ⟨some 106, _, _, _, _, _⟩) (v := ?_) rfl ?_ ?_; rotate_left; (focus (intro w9 hSw; go_simp; try with_reducible rfl)); simp only [Act.put, Z2, Z3, Z4]
     refine wpGv (i := 23) (oi := ⟨some 107, _, _, _, _, _⟩) (v := ?_) rfl ?_ ?_; rotate_left; (focus (intro w9 hSw; go_simp; try with_reducible rfl)); simp only [Act.put, Z2, Z3, Z4]
     refine wpGv (i := 24) (oi := ⟨some 108, _, _, _, _, _⟩) (v := ?_) rfl ?_ ?_; rotate_left; (focus (intro w9 hSw; have q0 := IXX.out w9; go_simp; try with_reducible rfl)); simp only [Act.put, Z2, Z3, Z4]
     refine wpGv (i := 25) (oi := ⟨some 109, _, _, _, _, _⟩) (v := ?_) rfl ?_ ?_; rotate_left; (focus (intro w9 hSw; go_simp; try with_reducible rfl)); simp only [Act.put, Z2, Z3, Z4]
     refine wpGv (i := 26) (oi := ⟨some 110, _, _, _, _, _⟩) (v := ?_) rfl ?_ ?_; rotate_left; (focus (intro w9 hSw; have q0 := (RX.out w9 hSw).c18; go_simp; try with_reducible rfl)); simp only [Act.put, Z2, Z3, Z4]
     refine wpGv (i := 27) (oi := ⟨some 111, _, _, _, _, _⟩) (v := ?_) rfl ?_ ?_; rotate_left; (focus (intro w9 hSw; go_simp; try with_reducible rfl)); simp only [Act.put, Z2, Z3, Z4]
     refine wpGv (i := 28) (oi := ⟨some 112, _, _, _, _, _⟩) (v := ?_) rfl ?_ ?_; rotate_left; (focus (intro w9 hSw; go_simp; try with_reducible rfl)); simp only [Act.put, Z2, Z3, Z4]
     refine wpGv (i := 29) (oi := ⟨some 113, _, _, _, _, _⟩) (v := ?_) rfl ?_ ?_; rotate_left; (focus (intro w9 hSw; have q0 := (GY.out w9 hSw).2.2; go_simp; try with_reducible rfl)); simp only [Act.put, Z2, Z3, Z4]
     refine wpGv (i := 30) (oi := ⟨some 114, _, _, _, _, _⟩) (v := ?_) rfl ?_ ?_; rotate_left; (focus (intro w9 hSw; go_simp; try with_reducible rfl)); simp only [Act.put, Z2, Z3, Z4]
     refine wpGv (i := 31) (oi := ⟨some 115, _, _, _, _, _⟩) (v := (.bool false)) rfl ?_ ?_; (focus (intro w9 hSw; first | (go_simp; done) | (go_simp; rw [t4]) | (go_simp; exact t4) | (go_simp; omega))); simp only [Act.put, Z2, Z3, Z4]
     refine wpGv (i := 32) (oi := ⟨some 116, _, _, _, _, _⟩) (v := ?_) rfl ?_ ?_; rotate_left; (focus (intro w9 hSw; go_simp; try with_reducible rfl)); simp only [Act.put, Z2, Z3, Z4]
     refine wpG_done (by kernel_rfl) ?_ _
     intro w9 hSw _
     have E9 := Lib.hid hSw
     clear hSw
     go_wp2
     go_loopw [18] (fun i wi => ∃ j : Nat, j ≤ x.R.fs.length ∧ i = .int .i64 j ∧ Below (X).heap.size (X) wi) (fun i _ => x.R.fs.length - (intOf i).toNat)
     case atStart => exact ⟨0, Nat.zero_le _, rfl, E9.out⟩
     case round =>
      obtain ⟨j, hj, rfl, hbi⟩ := hrel
      have HBI := Lib.hid hbi
      have x18 := (RX.out wr hbi).c18
      have ix0 := IXX.out wr
      clear hbi
      by_cases hlt2 : j < x.R.fs.length
      ·have t2 : (j : Int) < (x.R.fs.length : Int) := by omega
       obtain ⟨hq1, hq2, hq3, hq4⟩ := HFS.out
       obtain ⟨b1, o1, hA1, hb1, hcc⟩ := hq4 (by omega)
       have hkf := (FsAt.kfl HFS.out).2.2.2.1 (by omega)
       obtain ⟨b1', o1', hA1', _, hkf⟩ := hkf
       have he9 := Option.some.inj (hA1.symm.trans hA1')
       injection he9 with e1 e2 _
       subst e1
       subst e2
       have HKF := Lib.hid (hkf j hlt2)
       have IXF := Lib.hid (fun w9 => ix_fld b1 o1 x.R.fs.length x.c j hlt2 j rfl w9)
       rw [← hA1] at IXF
       have HR2 := Lib.hid (HRF.out (x.R.fs.getD j fld0) (by rw [List.getD, List.getElem?_eq_getElem hlt2]; exact List.getElem_mem hlt2))
       rw [show KFl.d = fld0 from rfl] at HKF
       clear hcc hq1 hq2 hq3 hq4 hA1 hA1' hkf
       generalize x.R.fs.getD j fld0 = f at *
       generalize ho5 : o1 + j * 4 = o5 at *
       rw [show o1 + j * KFl.n = o5 from ho5] at HKF
       have FK := Lib.hid (fun (X9 : World) (hX : Below wr.heap.size wr X9) => Kind.at_same HKF.out ((FW.out.trans ((EX.out.trans ((HBI.out.trans (hX.mono HBI.out.size)).mono EX.out.size)).mono FW.out.size)).block b1 hb1))
       have XI := Lib.hid (fun (X9 : World) (hX : Below wr.heap.size wr X9) => show Below (X).heap.size (X) X9 from HBI.out.trans (hX.mono HBI.out.size))
       have CF := Lib.hid (fun (X9 : World) (hX : Below wr.heap.size wr X9) => (show Calls Tryz.prog 26 #[.agg y.cells, .int .i64 f.no] X9 (fun e w' => e = .returned (.tuple #[.agg #[.int .i64 f.c.n, .int .i64 f.c.r, .string f.c.s], .bool true]) ∧ Below X9.heap.size X9 w') from by have h := xfind_any y f.no X9 (HVY.out.below (XI.out X9 hX) (Nat.le_refl _)); rw [HYR.out, HR2.out] at h; exact h))
       clear ho5
       go_wp2_with fail
       refine wp_region_G _ (by kernel_rfl) ?_
       refine wpGv (i := 0) (oi := ⟨some 128, _, _, _, _, _⟩) (v := (.agg y.cells)) rfl ?_ ?_; (focus (intro w9 hSw; exact exec_load_at 36 _ rfl _ rfl (loadRcL (GX.out w9 (XI.out w9 hSw))))); simp only [Act.put, Z2, Z3, Z4]
       refine wpGv (i := 1) (oi := ⟨some 129, _, _, _, _, _⟩) (v := ?_) rfl ?_ ?_; rotate_left; (focus (intro w9 hSw; go_simp; try with_reducible rfl)); simp only [Act.put, Z2, Z3, Z4]
       refine wpGv (i := 2) (oi := ⟨some 130, _, _, _, _, _⟩) (v := ?_) rfl ?_ ?_; rotate_left; (focus (intro w9 hSw; go_simp; try with_reducible rfl)); simp only [Act.put, Z2, Z3, Z4]
       refine wpGv (i := 3) (oi := ⟨some 131, _, _, _, _, _⟩) (v := ?_) rfl ?_ ?_; rotate_left; (focus (intro w9 hSw; have q0 := IXX.out w9; go_simp; try with_reducible rfl)); simp only [Act.put, Z2, Z3, Z4]
       refine wpGv (i := 4) (oi := ⟨some 132, _, _, _, _, _⟩) (v := ?_) rfl ?_ ?_; rotate_left; (focus (intro w9 hSw; go_simp; try with_reducible rfl)); simp only [Act.put, Z2, Z3, Z4]
       refine wpGv (i := 5) (oi := ⟨some 133, _, _, _, _, _⟩) (v := ?_) rfl ?_ ?_; rotate_left; (focus (intro w9 hSw; have q0 := (RX.out w9 (XI.out w9 hSw)).c18; go_simp; try with_reducible rfl)); simp only [Act.put, Z2, Z3, Z4]
       refine wpGv (i := 6) (oi := ⟨some 134, _, _, _, _, _⟩) (v := ?_) rfl ?_ ?_; rotate_left; (focus (intro w9 hSw; go_simp; try with_reducible rfl)); simp only [Act.put, Z2, Z3, Z4]
       refine wpGv (i := 7) (oi := ⟨some 135, _, _, _, _, _⟩) (v := ?_) rfl ?_ ?_; rotate_left; (focus (intro w9 hSw; have q0 := IXF.out w9; go_simp; try with_reducible rfl)); simp only [Act.put, Z2, Z3, Z4]
       refine wpGv (i := 8) (oi := ⟨some 136, _, _, _, _, _⟩) (v := ?_) rfl ?_ ?_; rotate_left; (focus (intro w9 hSw; go_simp; try with_reducible rfl)); simp only [Act.put, Z2, Z3, Z4]
       refine wpGv (i := 9) (oi := ⟨some 137, _, _, _, _, _⟩) (v := ?_) rfl ?_ ?_; rotate_left; (focus (intro w9 hSw; have q0 := fl_no (FK.out w9 hSw); go_simp; try with_reducible rfl)); simp only [Act.put, Z2, Z3, Z4]
       refine wpG_take (i := 10) (oi := ⟨some 138, _, _, _, _, _⟩) rfl (by kernel_rfl) (by kernel_rfl) (by kernel_rfl) (Or.inl ⟨by rfl, unib_call_if ?_ CF.out⟩) ?_; (focus (intro w9 hSw; go_simp; try with_reducible rfl)); simp only [Act.put, Z2, Z3, Z4]
       refine wpGv (i := 11) (oi := ⟨some 127, _, _, _, _, _⟩) (v := ?_) rfl ?_ ?_; rotate_left; (focus (intro w9 hSw; go_simp; try with_reducible rfl)); simp only [Act.put, Z2, Z3, Z4]
       refine wpGv (i := 12) (oi := ⟨some 139, _, _, _, _, _⟩) (v := ?_) rfl ?_ ?_; rotate_left; (focus (intro w9 hSw; go_simp; try with_reducible rfl)); simp only [Act.put, Z2, Z3, Z4]
       refine wpGv (i := 13) (oi := ⟨some 140, _, _, _, _, _⟩) (v := ?_) rfl ?_ ?_; rotate_left; (focus (intro w9 hSw; go_simp; try with_reducible rfl)); simp only [Act.put, Z2, Z3, Z4]
       refine wpG_alloc (i := 14) (oi := ⟨some 19, _, _, _, _, _⟩) (z := #[.int .i64 0, .int .i64 0, .string ⟨#[]⟩]) (t := 38) (by kernel_rfl) rfl ⟨by rfl, fun w9 hSw => by go_simp; try rfl⟩ ?_; intro g9 hg9 ng9; simp only [Act.put, Z2, Z3, Z4]
       refine wpG_store (i := 15) (oi := ⟨none, _, _, _, _, _⟩) (v := undef) [(g9, #[.int .i64 f.c.n, .int .i64 f.c.r, .string f.c.s], 38)] (by kernel_rfl) rfl ⟨by rfl, fun w9 hSw hO => ?_⟩ ?_; (focus (have q9 : ClAt w9 g9 cel00 := hO _ (.head _); have q0 := q9.c0; have q1 := q9.c1; have q2 := q9.c2; have f0 := q9.fz 0; have f1 := q9.fz 1; have f2 := q9.fz 2; refine ⟨_, Or.inr ⟨by go_simp; try rfl, rfl⟩, below_put3 hSw hg9 _ _ _, ?_⟩; intro x hx; obtain rfl := List.mem_singleton.1 hx; exact q9.put f.c)); simp only [Act.put]
       refine wpGv (i := 16) (oi := ⟨some 20, _, _, _, _, _⟩) (v := ?_) rfl ?_ ?_; rotate_left; (focus (intro w9 hSw; go_simp; try with_reducible rfl)); simp only [Act.put, Z2, Z3, Z4]
       refine wpG_done (by kernel_rfl) ?_ _
       intro w8 hSw hO
       have hC8 : ClAt w8 g9 f.c := hO _ (.head _)
       have C8 := Lib.hid hC8
       have E8 := Lib.hid hSw
       have CG := Lib.hid (fun (X9 : World) (hX : Below w8.heap.size w8 X9) => load_clL (C8.out.below hX C8.out.lt))
       have X8 := Lib.hid (fun (X9 : World) (hX : Below w8.heap.size w8 X9) => show Below wr.heap.size wr X9 from E8.out.trans (hX.mono E8.out.size))
       clear hC8 hO hSw x18 ix0
       go_wp2_with fail
       refine wp_region_G _ (by kernel_rfl) ?_
       refine wpGv (i := 0) (oi := ⟨some 141, _, _, _, _, _⟩) (v := ?_) rfl ?_ ?_; rotate_left; (focus (intro w9 hSw; go_simp; try with_reducible rfl)); simp only [Act.put, Z2, Z3, Z4]
       refine wpGv (i := 1) (oi := ⟨some 142, _, _, _, _, _⟩) (v := ?_) rfl ?_ ?_; rotate_left; (focus (intro w9 hSw; go_simp; try with_reducible rfl)); simp only [Act.put, Z2, Z3, Z4]
       refine wpGv (i := 2) (oi := ⟨some 143, _, _, _, _, _⟩) (v := ?_) rfl ?_ ?_; rotate_left; (focus (intro w9 hSw; go_simp; try with_reducible rfl)); simp only [Act.put, Z2, Z3, Z4]
       refine wpGv (i := 3) (oi := ⟨some 144, _, _, _, _, _⟩) (v := (.agg #[.int .i64 f.c.n, .int .i64 f.c.r, .string f.c.s])) rfl ?_ ?_; (focus (intro w9 hSw; exact exec_load_at 38 _ rfl _ rfl (CG.out w9 hSw))); simp only [Act.put, Z2, Z3, Z4]
       refine wpGv (i := 4) (oi := ⟨some 145, _, _, _, _, _⟩) (v := ?_) rfl ?_ ?_; rotate_left; (focus (intro w9 hSw; go_simp; try with_reducible rfl)); simp only [Act.put, Z2, Z3, Z4]
       refine wpGv (i := 5) (oi := ⟨some 146, _, _, _, _, _⟩) (v := ?_) rfl ?_ ?_; rotate_left; (focus (intro w9 hSw; go_simp; try with_reducible rfl)); simp only [Act.put, Z2, Z3, Z4]
       refine wpGv (i := 6) (oi := ⟨some 147, _, _, _, _, _⟩) (v := ?_) rfl ?_ ?_; rotate_left; (focus (intro w9 hSw; have q0 := IXX.out w9; go_simp; try with_reducible rfl)); simp only [Act.put, Z2, Z3, Z4]
       refine wpGv (i := 7) (oi := ⟨some 148, _, _, _, _, _⟩) (v := ?_) rfl ?_ ?_; rotate_left; (focus (intro w9 hSw; go_simp; try with_reducible rfl)); simp only [Act.put, Z2, Z3, Z4]
       refine wpGv (i := 8) (oi := ⟨some 149, _, _, _, _, _⟩) (v := ?_) rfl ?_ ?_; rotate_left; (focus (intro w9 hSw; have q0 := (RX.out w9 (XI.out w9 (X8.out w9 hSw))).c18; go_simp; try with_reducible rfl)); simp only [Act.put, Z2, Z3, Z4]
       refine wpGv (i := 9) (oi := ⟨some 150, _, _, _, _, _⟩) (v := ?_) rfl ?_ ?_; rotate_left; (focus (intro w9 hSw; go_simp; try with_reducible rfl)); simp only [Act.put, Z2, Z3, Z4]
       refine wpGv (i := 10) (oi := ⟨some 151, _, _, _, _, _⟩) (v := ?_) rfl ?_ ?_; rotate_left; (focus (intro w9 hSw; have q0 := IXF.out w9; go_simp; try with_reducible rfl)); simp only [Act.put, Z2, Z3, Z4]
       refine wpGv (i := 11) (oi := ⟨some 152, _, _, _, _, _⟩) (v := ?_) rfl ?_ ?_; rotate_left; (focus (intro w9 hSw; go_simp; try with_reducible rfl)); simp only [Act.put, Z2, Z3, Z4]
       refine wpGv (i := 12) (oi := ⟨some 153, _, _, _, _, _⟩) (v := (.agg #[.int .i64 f.c.n, .int .i64 f.c.r, .string f.c.s])) rfl ?_ ?_; (focus (intro w9 hSw; exact exec_load_at 38 _ rfl _ rfl (load_fcell (FK.out w9 (X8.out w9 hSw))))); simp only [Act.put, Z2, Z3, Z4]
       refine wpGv (i := 13) (oi := ⟨some 154, _, _, _, _, _⟩) (v := (.bool false)) rfl ?_ ?_; (focus (intro w9 hSw; have q0 := cl_same f.c w9; exact exec_neq_at 38 _ _ _ rfl rfl rfl guardClL q0)); simp only [Act.put, Z2, Z3, Z4]
       refine wpGv (i := 14) (oi := ⟨some 155, _, _, _, _, _⟩) (v := ?_) rfl ?_ ?_; rotate_left; (focus (intro w9 hSw; go_simp; try with_reducible rfl)); simp only [Act.put, Z2, Z3, Z4]
       refine wpG_done (by kernel_rfl) ?_ _
       intro w7 hSw _
       have E7 := Lib.hid (XI.out w7 (X8.out w7 hSw))
       clear hSw
       go_wp2
       go_roundw
       case rel => exact ⟨j + 1, by omega, by go_num, E7.out⟩
       case measure => simp [intOf]; omega
      ·have t2 : ¬ (j : Int) < (x.R.fs.length : Int) := by omega
       go_wp2
       go_roundw
       case rel => exact ⟨k + 1, by omega, by go_num, HB.out.trans ((EB.out.trans (HBI.out.mono EB.out.size)).mono HB.out.size)⟩
       case measure => simp [intOf]; omega
    ·have QD := Lib.hid (fun X9 : World => show (Op.equalIn 10000 33 (.agg #[.int .i64 x.R.n, .int .i64 x.R.r]) (.agg #[.int .i64 R.n, .int .i64 R.r])).run Tryz.prog X9 = .ok false X9 from by rw [eq_st, decide_eq_false hd9.1])
     have QZ := Lib.hid (fun X9 : World => show (Op.equalIn 10000 33 (.agg #[.int .i64 x.R.n, .int .i64 x.R.r]) (.agg #[.int .i64 0, .int .i64 0])).run Tryz.prog X9 = .ok true X9 from by rw [eq_st, decide_eq_true hd9.2])
     clear hd9
     go_wp2_with fail
     refine wp_region_G _ (by kernel_rfl) ?_
     refine wpGv (i := 0) (oi := ⟨some 84, _, _, _, _, _⟩) (v := ?_) rfl ?_ ?_; rotate_left; (focus (intro w9 hSw; go_simp; try with_reducible rfl)); simp only [Act.put, Z2, Z3, Z4]
     refine wpGv (i := 1) (oi := ⟨some 85, _, _, _, _, _⟩) (v := ?_) rfl ?_ ?_; rotate_left; (focus (intro w9 hSw; go_simp; try with_reducible rfl)); simp only [Act.put, Z2, Z3, Z4]
     refine wpGv (i := 2) (oi := ⟨some 86, _, _, _, _, _⟩) (v := ?_) rfl ?_ ?_; rotate_left; (focus (intro w9 hSw; go_simp; try with_reducible rfl)); simp only [Act.put, Z2, Z3, Z4]
     refine wpGv (i := 3) (oi := ⟨some 87, _, _, _, _, _⟩) (v := ?_) rfl ?_ ?_; rotate_left; (focus (intro w9 hSw; go_simp; try with_reducible rfl)); simp only [Act.put, Z2, Z3, Z4]
     refine wpGv (i := 4) (oi := ⟨some 88, _, _, _, _, _⟩) (v := ?_) rfl ?_ ?_; rotate_left; (focus (intro w9 hSw; go_simp; try with_reducible rfl)); simp only [Act.put, Z2, Z3, Z4]
     refine wpGv (i := 5) (oi := ⟨some 89, _, _, _, _, _⟩) (v := ?_) rfl ?_ ?_; rotate_left; (focus (intro w9 hSw; have q0 := IXX.out w9; go_simp; try with_reducible rfl)); simp only [Act.put, Z2, Z3, Z4]
     refine wpGv (i := 6) (oi := ⟨some 90, _, _, _, _, _⟩) (v := ?_) rfl ?_ ?_; rotate_left; (focus (intro w9 hSw; go_simp; try with_reducible rfl)); simp only [Act.put, Z2, Z3, Z4]
     refine wpGv (i := 7) (oi := ⟨some 91, _, _, _, _, _⟩) (v := ?_) rfl ?_ ?_; rotate_left; (focus (intro w9 hSw; have q0 := (RX.out w9 hSw).c16; have q1 : w9.cell? ⟨b0, ox + 16 + 1, none⟩ = _ := (RX.out w9 hSw).c17; go_simp; try with_reducible rfl)); simp only [Act.put, Z2, Z3, Z4]
     refine wpGv (i := 8) (oi := ⟨some 92, _, _, _, _, _⟩) (v := ?_) rfl ?_ ?_; rotate_left; (focus (intro w9 hSw; go_simp; try with_reducible rfl)); simp only [Act.put, Z2, Z3, Z4]
     refine wpGv (i := 9) (oi := ⟨some 93, _, _, _, _, _⟩) (v := ?_) rfl ?_ ?_; rotate_left; (focus (intro w9 hSw; have q0 := (GY.out w9 hSw).1; have q1 : w9.cell? ⟨g, 16 + 1, none⟩ = _ := (GY.out w9 hSw).2.1; go_simp; try with_reducible rfl)); simp only [Act.put, Z2, Z3, Z4]
     refine wpGv (i := 10) (oi := ⟨some 94, _, _, _, _, _⟩) (v := (.bool true)) rfl ?_ ?_; (focus (intro w9 hSw; have q0 := QD.out w9; exact exec_neq_at 33 _ _ _ rfl rfl rfl guardStM q0)); simp only [Act.put, Z2, Z3, Z4]
     refine wpGv (i := 11) (oi := ⟨some 95, _, _, _, _, _⟩) (v := ?_) rfl ?_ ?_; rotate_left; (focus (intro w9 hSw; go_simp; try with_reducible rfl)); simp only [Act.put, Z2, Z3, Z4]
     refine wpGv (i := 12) (oi := ⟨some 96, _, _, _, _, _⟩) (v := ?_) rfl ?_ ?_; rotate_left; (focus (intro w9 hSw; go_simp; try with_reducible rfl)); simp only [Act.put, Z2, Z3, Z4]
     refine wpGv (i := 13) (oi := ⟨some 97, _, _, _, _, _⟩) (v := ?_) rfl ?_ ?_; rotate_left; (focus (intro w9 hSw; go_simp; try with_reducible rfl)); simp only [Act.put, Z2, Z3, Z4]
     refine wpGv (i := 14) (oi := ⟨some 98, _, _, _, _, _⟩) (v := ?_) rfl ?_ ?_; rotate_left; (focus (intro w9 hSw; have q0 := IXX.out w9; go_simp; try with_reducible rfl)); simp only [Act.put, Z2, Z3, Z4]
     refine wpGv (i := 15) (oi := ⟨some 99, _, _, _, _, _⟩) (v := ?_) rfl ?_ ?_; rotate_left; (focus (intro w9 hSw; go_simp; try with_reducible rfl)); simp only [Act.put, Z2, Z3, Z4]
     refine wpGv (i := 16) (oi := ⟨some 100, _, _, _, _, _⟩) (v := ?_) rfl ?_ ?_; rotate_left; (focus (intro w9 hSw; have q0 := (RX.out w9 hSw).c16; have q1 : w9.cell? ⟨b0, ox + 16 + 1, none⟩ = _ := (RX.out w9 hSw).c17; go_simp; try with_reducible rfl)); simp only [Act.put, Z2, Z3, Z4]
     refine wpGv (i := 17) (oi := ⟨some 101, _, _, _, _, _⟩) (v := (.agg #[.int .i64 0, .int .i64 0])) rfl ?_ ?_; (focus (intro w9 hSw; exact exec_build_at 33 #[] rfl #[] (by simp) (build_stL w9))); simp only [Act.put, Z2, Z3, Z4]
     refine wpGv (i := 18) (oi := ⟨some 102, _, _, _, _, _⟩) (v := (.bool false)) rfl ?_ ?_; (focus (intro w9 hSw; have q0 := QZ.out w9; exact exec_neq_at 33 _ _ _ rfl rfl rfl guardStM q0)); simp only [Act.put, Z2, Z3, Z4]
     refine wpGv (i := 19) (oi := ⟨some 103, _, _, _, _, _⟩) (v := ?_) rfl ?_ ?_; rotate_left; (focus (intro w9 hSw; go_simp; try with_reducible rfl)); simp only [Act.put, Z2, Z3, Z4]
     refine wpGv (i := 20) (oi := ⟨some 104, _, _, _, _, _⟩) (v := ?_) rfl ?_ ?_; rotate_left; (focus (intro w9 hSw; go_simp; try with_reducible rfl)); simp only [Act.put, Z2, Z3, Z4]
     refine wpGv (i := 21) (oi := ⟨some 105, _, _, _, _, _⟩) (v := ?_) rfl ?_ ?_; rotate_left; (focus (intro w9 hSw; go_simp; try with_reducible rfl)); simp only [Act.put, Z2, Z3, Z4]
     refine wpGv (i := 22) (oi := ⟨some 106, _, _, _, _, _⟩) (v := ?_) rfl ?_ ?_; rotate_left; (focus (intro w9 hSw; go_simp; try with_reducible rfl)); simp only [Act.put, Z2, Z3, Z4]
     refine wpGv (i := 23) (oi := ⟨some 107, _, _, _, _, _⟩) (v := ?_) rfl ?_ ?_; rotate_left; (focus (intro w9 hSw; go_simp; try with_reducible rfl)); simp only [Act.put, Z2, Z3, Z4]
     refine wpGv (i := 24) (oi := ⟨some 108, _, _, _, _, _⟩) (v := ?_) rfl ?_ ?_; rotate_left; (focus (intro w9 hSw; have q0 := IXX.out w9; go_simp; try with_reducible rfl)); simp only [Act.put, Z2, Z3, Z4]
     refine wpGv (i := 25) (oi := ⟨some 109, _, _, _, _, _⟩) (v := ?_) rfl ?_ ?_; rotate_left; (focus (intro w9 hSw; go_simp; try with_reducible rfl)); simp only [Act.put, Z2, Z3, Z4]
     refine wpGv (i := 26) (oi := ⟨some 110, _, _, _, _, _⟩) (v := ?_) rfl ?_ ?_; rotate_left; (focus (intro w9 hSw; have q0 := (RX.out w9 hSw).c18; go_simp; try with_reducible rfl)); simp only [Act.put, Z2, Z3, Z4]
     refine wpGv (i := 27) (oi := ⟨some 111, _, _, _, _, _⟩) (v := ?_) rfl ?_ ?_; rotate_left; (focus (intro w9 hSw; go_simp; try with_reducible rfl)); simp only [Act.put, Z2, Z3, Z4]
     refine wpGv (i := 28) (oi := ⟨some 112, _, _, _, _, _⟩) (v := ?_) rfl ?_ ?_; rotate_left; (focus (intro w9 hSw; go_simp; try with_reducible rfl)); simp only [Act.put, Z2, Z3, Z4]
     refine wpGv (i := 29) (oi := ⟨some 113, _, _, _, _, _⟩) (v := ?_) rfl ?_ ?_; rotate_left; (focus (intro w9 hSw; have q0 := (GY.out w9 hSw).2.2; go_simp; try with_reducible rfl)); simp only [Act.put, Z2, Z3, Z4]
     refine wpGv (i := 30) (oi := ⟨some 114, _, _, _, _, _⟩) (v := ?_) rfl ?_ ?_; rotate_left; (focus (intro w9 hSw; go_simp; try with_reducible rfl)); simp only [Act.put, Z2, Z3, Z4]
     refine wpGv (i := 31) (oi := ⟨some 115, _, _, _, _, _⟩) (v := (.bool false)) rfl ?_ ?_; (focus (intro w9 hSw; first | (go_simp; done) | (go_simp; rw [t4]) | (go_simp; exact t4) | (go_simp; omega))); simp only [Act.put, Z2, Z3, Z4]
     refine wpGv (i := 32) (oi := ⟨some 116, _, _, _, _, _⟩) (v := ?_) rfl ?_ ?_; rotate_left; (focus (intro w9 hSw; go_simp; try with_reducible rfl)); simp only [Act.put, Z2, Z3, Z4]
     refine wpG_done (by kernel_rfl) ?_ _
     intro w9 hSw _
     have E9 := Lib.hid hSw
     clear hSw
     go_wp2
     go_loopw [18] (fun i wi => ∃ j : Nat, j ≤ x.R.fs.length ∧ i = .int .i64 j ∧ Below (X).heap.size (X) wi) (fun i _ => x.R.fs.length - (intOf i).toNat)
     case atStart => exact ⟨0, Nat.zero_le _, rfl, E9.out⟩
     case round =>
      obtain ⟨j, hj, rfl, hbi⟩ := hrel
      have HBI := Lib.hid hbi
      have x18 := (RX.out wr hbi).c18
      have ix0 := IXX.out wr
      clear hbi
      by_cases hlt2 : j < x.R.fs.length
      ·have t2 : (j : Int) < (x.R.fs.length : Int) := by omega
       obtain ⟨hq1, hq2, hq3, hq4⟩ := HFS.out
       obtain ⟨b1, o1, hA1, hb1, hcc⟩ := hq4 (by omega)
       have hkf := (FsAt.kfl HFS.out).2.2.2.1 (by omega)
       obtain ⟨b1', o1', hA1', _, hkf⟩ := hkf
       have he9 := Option.some.inj (hA1.symm.trans hA1')
       injection he9 with e1 e2 _
       subst e1
       subst e2
       have HKF := Lib.hid (hkf j hlt2)
       have IXF := Lib.hid (fun w9 => ix_fld b1 o1 x.R.fs.length x.c j hlt2 j rfl w9)
       rw [← hA1] at IXF
       have HR2 := Lib.hid (HRF.out (x.R.fs.getD j fld0) (by rw [List.getD, List.getElem?_eq_getElem hlt2]; exact List.getElem_mem hlt2))
       rw [show KFl.d = fld0 from rfl] at HKF
       clear hcc hq1 hq2 hq3 hq4 hA1 hA1' hkf
       generalize x.R.fs.getD j fld0 = f at *
       generalize ho5 : o1 + j * 4 = o5 at *
       rw [show o1 + j * KFl.n = o5 from ho5] at HKF
       have FK := Lib.hid (fun (X9 : World) (hX : Below wr.heap.size wr X9) => Kind.at_same HKF.out ((FW.out.trans ((EX.out.trans ((HBI.out.trans (hX.mono HBI.out.size)).mono EX.out.size)).mono FW.out.size)).block b1 hb1))
       have XI := Lib.hid (fun (X9 : World) (hX : Below wr.heap.size wr X9) => show Below (X).heap.size (X) X9 from HBI.out.trans (hX.mono HBI.out.size))
       have CF := Lib.hid (fun (X9 : World) (hX : Below wr.heap.size wr X9) => (show Calls Tryz.prog 26 #[.agg y.cells, .int .i64 f.no] X9 (fun e w' => e = .returned (.tuple #[.agg #[.int .i64 f.c.n, .int .i64 f.c.r, .string f.c.s], .bool true]) ∧ Below X9.heap.size X9 w') from by have h := xfind_any y f.no X9 (HVY.out.below (XI.out X9 hX) (Nat.le_refl _)); rw [HYR.out, HR2.out] at h; exact h))
       clear ho5
       go_wp2_with fail
       refine wp_region_G _ (by kernel_rfl) ?_
       refine wpGv (i := 0) (oi := ⟨some 128, _, _, _, _, _⟩) (v := (.agg y.cells)) rfl ?_ ?_; (focus (intro w9 hSw; exact exec_load_at 36 _ rfl _ rfl (loadRcL (GX.out w9 (XI.out w9 hSw))))); simp only [Act.put, Z2, Z3, Z4]
       refine wpGv (i := 1) (oi := ⟨some 129, _, _, _, _, _⟩) (v := ?_) rfl ?_ ?_; rotate_left; (focus (intro w9 hSw; go_simp; try with_reducible rfl)); simp only [Act.put, Z2, Z3, Z4]
       refine wpGv (i := 2) (oi := ⟨some 130, _, _, _, _, _⟩) (v := ?_) rfl ?_ ?_; rotate_left; (focus (intro w9 hSw; go_simp; try with_reducible rfl)); simp only [Act.put, Z2, Z3, Z4]
       refine wpGv (i := 3) (oi := ⟨some 131, _, _, _, _, _⟩) (v := ?_) rfl ?_ ?_; rotate_left; (focus (intro w9 hSw; have q0 := IXX.out w9; go_simp; try with_reducible rfl)); simp only [Act.put, Z2, Z3, Z4]
       refine wpGv (i := 4) (oi := ⟨some 132, _, _, _, _, _⟩) (v := ?_) rfl ?_ ?_; rotate_left; (focus (intro w9 hSw; go_simp; try with_reducible rfl)); simp only [Act.put, Z2, Z3, Z4]
       refine wpGv (i := 5) (oi := ⟨some 133, _, _, _, _, _⟩) (v := ?_) rfl ?_ ?_; rotate_left; (focus (intro w9 hSw; have q0 := (RX.out w9 (XI.out w9 hSw)).c18; go_simp; try with_reducible rfl)); simp only [Act.put, Z2, Z3, Z4]
       refine wpGv (i := 6) (oi := ⟨some 134, _, _, _, _, _⟩) (v := ?_) rfl ?_ ?_; rotate_left; (focus (intro w9 hSw; go_simp; try with_reducible rfl)); simp only [Act.put, Z2, Z3, Z4]
       refine wpGv (i := 7) (oi := ⟨some 135, _, _, _, _, _⟩) (v := ?_) rfl ?_ ?_; rotate_left; (focus (intro w9 hSw; have q0 := IXF.out w9; go_simp; try with_reducible rfl)); simp only [Act.put, Z2, Z3, Z4]
       refine wpGv (i := 8) (oi := ⟨some 136, _, _, _, _, _⟩) (v := ?_) rfl ?_ ?_; rotate_left; (focus (intro w9 hSw; go_simp; try with_reducible rfl)); simp only [Act.put, Z2, Z3, Z4]
       refine wpGv (i := 9) (oi := ⟨some 137, _, _, _, _, _⟩) (v := ?_) rfl ?_ ?_; rotate_left; (focus (intro w9 hSw; have q0 := fl_no (FK.out w9 hSw); go_simp; try with_reducible rfl)); simp only [Act.put, Z2, Z3, Z4]
       refine wpG_take (i := 10) (oi := ⟨some 138, _, _, _, _, _⟩) rfl (by kernel_rfl) (by kernel_rfl) (by kernel_rfl) (Or.inl ⟨by rfl, unib_call_if ?_ CF.out⟩) ?_; (focus (intro w9 hSw; go_simp; try with_reducible rfl)); simp only [Act.put, Z2, Z3, Z4]
       refine wpGv (i := 11) (oi := ⟨some 127, _, _, _, _, _⟩) (v := ?_) rfl ?_ ?_; rotate_left; (focus (intro w9 hSw; go_simp; try with_reducible rfl)); simp only [Act.put, Z2, Z3, Z4]
       refine wpGv (i := 12) (oi := ⟨some 139, _, _, _, _, _⟩) (v := ?_) rfl ?_ ?_; rotate_left; (focus (intro w9 hSw; go_simp; try with_reducible rfl)); simp only [Act.put, Z2, Z3, Z4]
       refine wpGv (i := 13) (oi := ⟨some 140, _, _, _, _, _⟩) (v := ?_) rfl ?_ ?_; rotate_left; (focus (intro w9 hSw; go_simp; try with_reducible rfl)); simp only [Act.put, Z2, Z3, Z4]
       refine wpG_alloc (i := 14) (oi := ⟨some 19, _, _, _, _, _⟩) (z := #[.int .i64 0, .int .i64 0, .string ⟨#[]⟩]) (t := 38) (by kernel_rfl) rfl ⟨by rfl, fun w9 hSw => by go_simp; try rfl⟩ ?_; intro g9 hg9 ng9; simp only [Act.put, Z2, Z3, Z4]
       refine wpG_store (i := 15) (oi := ⟨none, _, _, _, _, _⟩) (v := undef) [(g9, #[.int .i64 f.c.n, .int .i64 f.c.r, .string f.c.s], 38)] (by kernel_rfl) rfl ⟨by rfl, fun w9 hSw hO => ?_⟩ ?_; (focus (have q9 : ClAt w9 g9 cel00 := hO _ (.head _); have q0 := q9.c0; have q1 := q9.c1; have q2 := q9.c2; have f0 := q9.fz 0; have f1 := q9.fz 1; have f2 := q9.fz 2; refine ⟨_, Or.inr ⟨by go_simp; try rfl, rfl⟩, below_put3 hSw hg9 _ _ _, ?_⟩; intro x hx; obtain rfl := List.mem_singleton.1 hx; exact q9.put f.c)); simp only [Act.put]
       refine wpGv (i := 16) (oi := ⟨some 20, _, _, _, _, _⟩) (v := ?_) rfl ?_ ?_; rotate_left; (focus (intro w9 hSw; go_simp; try with_reducible rfl)); simp only [Act.put, Z2, Z3, Z4]
       refine wpG_done (by kernel_rfl) ?_ _
       intro w8 hSw hO
       have hC8 : ClAt w8 g9 f.c := hO _ (.head _)
       have C8 := Lib.hid hC8
       have E8 := Lib.hid hSw
       have CG := Lib.hid (fun (X9 : World) (hX : Below w8.heap.size w8 X9) => load_clL (C8.out.below hX C8.out.lt))
       have X8 := Lib.hid (fun (X9 : World) (hX : Below w8.heap.size w8 X9) => show Below wr.heap.size wr X9 from E8.out.trans (hX.mono E8.out.size))
       clear hC8 hO hSw x18 ix0
       go_wp2_with fail
       refine wp_region_G _ (by kernel_rfl) ?_
       refine wpGv (i := 0) (oi := ⟨some 141, _, _, _, _, _⟩) (v := ?_) rfl ?_ ?_; rotate_left; (focus (intro w9 hSw; go_simp; try with_reducible rfl)); simp only [Act.put, Z2, Z3, Z4]
       refine wpGv (i := 1) (oi := ⟨some 142, _, _, _, _, _⟩) (v := ?_) rfl ?_ ?_; rotate_left; (focus (intro w9 hSw; go_simp; try with_reducible rfl)); simp only [Act.put, Z2, Z3, Z4]
       refine wpGv (i := 2) (oi := ⟨some 143, _, _, _, _, _⟩) (v := ?_) rfl ?_ ?_; rotate_left; (focus (intro w9 hSw; go_simp; try with_reducible rfl)); simp only [Act.put, Z2, Z3, Z4]
       refine wpGv (i := 3) (oi := ⟨some 144, _, _, _, _, _⟩) (v := (.agg #[.int .i64 f.c.n, .int .i64 f.c.r, .string f.c.s])) rfl ?_ ?_; (focus (intro w9 hSw; exact exec_load_at 38 _ rfl _ rfl (CG.out w9 hSw))); simp only [Act.put, Z2, Z3, Z4]
       refine wpGv (i := 4) (oi := ⟨some 145, _, _, _, _, _⟩) (v := ?_) rfl ?_ ?_; rotate_left; (focus (intro w9 hSw; go_simp; try with_reducible rfl)); simp only [Act.put, Z2, Z3, Z4]
       refine wpGv (i := 5) (oi := ⟨some 146, _, _, _, _, _⟩) (v := ?_) rfl ?_ ?_; rotate_left; (focus (intro w9 hSw; go_simp; try with_reducible rfl)); simp only [Act.put, Z2, Z3, Z4]
       refine wpGv (i := 6) (oi := ⟨some 147, _, _, _, _, _⟩) (v := ?_) rfl ?_ ?_; rotate_left; (focus (intro w9 hSw; have q0 := IXX.out w9; go_simp; try with_reducible rfl)); simp only [Act.put, Z2, Z3, Z4]
       refine wpGv (i := 7) (oi := ⟨some 148, _, _, _, _, _⟩) (v := ?_) rfl ?_ ?_; rotate_left; (focus (intro w9 hSw; go_simp; try with_reducible rfl)); simp only [Act.put, Z2, Z3, Z4]
       refine wpGv (i := 8) (oi := ⟨some 149, _, _, _, _, _⟩) (v := ?_) rfl ?_ ?_; rotate_left; (focus (intro w9 hSw; have q0 := (RX.out w9 (XI.out w9 (X8.out w9 hSw))).c18; go_simp; try with_reducible rfl)); simp only [Act.put, Z2, Z3, Z4]
       refine wpGv (i := 9) (oi := ⟨some 150, _, _, _, _, _⟩) (v := ?_) rfl ?_ ?_; rotate_left; (focus (intro w9 hSw; go_simp; try with_reducible rfl)); simp only [Act.put, Z2, Z3, Z4]
       refine wpGv (i := 10) (oi := ⟨some 151, _, _, _, _, _⟩) (v := ?_) rfl ?_ ?_; rotate_left; (focus (intro w9 hSw; have q0 := IXF.out w9; go_simp; try with_reducible rfl)); simp only [Act.put, Z2, Z3, Z4]
       refine wpGv (i := 11) (oi := ⟨some 152, _, _, _, _, _⟩) (v := ?_) rfl ?_ ?_; rotate_left; (focus (intro w9 hSw; go_simp; try with_reducible rfl)); simp only [Act.put, Z2, Z3, Z4]
       refine wpGv (i := 12) (oi := ⟨some 153, _, _, _, _, _⟩) (v := (.agg #[.int .i64 f.c.n, .int .i64 f.c.r, .string f.c.s])) rfl ?_ ?_; (focus (intro w9 hSw; exact exec_load_at 38 _ rfl _ rfl (load_fcell (FK.out w9 (X8.out w9 hSw))))); simp only [Act.put, Z2, Z3, Z4]
       refine wpGv (i := 13) (oi := ⟨some 154, _, _, _, _, _⟩) (v := (.bool false)) rfl ?_ ?_; (focus (intro w9 hSw; have q0 := cl_same f.c w9; exact exec_neq_at 38 _ _ _ rfl rfl rfl guardClL q0)); simp only [Act.put, Z2, Z3, Z4]
       refine wpGv (i := 14) (oi := ⟨some 155, _, _, _, _, _⟩) (v := ?_) rfl ?_ ?_; rotate_left; (focus (intro w9 hSw; go_simp; try with_reducible rfl)); simp only [Act.put, Z2, Z3, Z4]
       refine wpG_done (by kernel_rfl) ?_ _
       intro w7 hSw _
       have E7 := Lib.hid (XI.out w7 (X8.out w7 hSw))
       clear hSw
       go_wp2
       go_roundw
       case rel => exact ⟨j + 1, by omega, by go_num, E7.out⟩
       case measure => simp [intOf]; omega
      ·have t2 : ¬ (j : Int) < (x.R.fs.length : Int) := by omega
       go_wp2
       go_roundw
       case rel => exact ⟨k + 1, by omega, by go_num, HB.out.trans ((EB.out.trans (HBI.out.mono EB.out.size)).mono HB.out.size)⟩
       case measure => simp [intOf]; omega
  ·have t1 : ¬ (k : Int) < (n : Int) := by omega
   clear hk HRC HRV HQL
   have hb143 := HB.out
   have T144 := Lib.hid (T129.out.below hb143 T129.out.lt)
   have T145 := Lib.hid (T130.out.below hb143 T130.out.lt)
   have T146 := Lib.hid (T131.out.below hb143 T131.out.lt)
   have T147 := Lib.hid (T132.out.below hb143 T132.out.lt)
   have T148 := Lib.hid (T133.out.below hb143 T133.out.lt)
   have F149 := Lib.hid (F134.out.below hb143 (Nat.le_refl _))
   have F150 := Lib.hid (F135.out.below hb143 (Nat.le_refl _))
   have F151 := Lib.hid (F136.out.below hb143 (Nat.le_refl _))
   have F152 := Lib.hid (F137.out.below hb143 (Nat.le_refl _))
   have F153 := Lib.hid (F138.out.below hb143 (Nat.le_refl _))
   have F154 := Lib.hid (F142.out.below hb143 (Nat.le_refl _))
   have B155 := Lib.hid (B139.out.trans (hb143.mono B139.out.size))
   clear hb143
   have M162 := Lib.hid (T148.out.mn L105.out)
   have M163 := Lib.hid (T144.out.load)
   have C164 := Lib.hid ((show Calls Tryz.prog 16 #[.agg #[.slice a.A a.xs.length a.c], .agg d86.cs.toArray] wr (fun e w' => ∃ l : Bk, e = .returned (.slice l.A l.xs.length l.c) ∧ l.rs = [] ∧ BkAt w' l ∧ (∀ x ∈ l.xs, FTag w' x.A) ∧ Below (wr).heap.size wr w') from by have h := parts14_any a d86 wr (HLA.out _ B155.out) F149.out F153.out; unfold PartsPost at h; rw [E102.out, HP2.out] at h; exact h))
   go_wp2_with (first | ((with_reducible refine wpList_load_at (o := ⟨some 157, .load 29 (.tmp 12), _, _, _, _⟩) ?e1 29 (.tmp 12) ?e2 ⟨w91.heap.size, 0, none⟩ ?e3 _ M162.out ?_); (case e1 => rfl); (case e2 => rfl); (case e3 => rfl)) | ((with_reducible refine wpList_load_by (o := ⟨some 156, .load 24 (.tmp 2), _, _, _, _⟩) ?e1 24 (.tmp 2) ?e2 ⟨w.heap.size, 0, none⟩ ?e3 _ M163.out ?_); (case e1 => rfl); (case e2 => rfl); (case e3 => rfl)))
   refine C164.out.mono ?_
   rintro e w165 ⟨l156, he157, hr158, hk159, ht160, hb166⟩
   have hl161 : l156.xs.length = 0 := len_rsL hr158
   rw [hl161] at he157
   subst he157
   have T167 := Lib.hid (T144.out.below hb166 T144.out.lt)
   have T168 := Lib.hid (T145.out.below hb166 T145.out.lt)
   have T169 := Lib.hid (T146.out.below hb166 T146.out.lt)
   have T170 := Lib.hid (T147.out.below hb166 T147.out.lt)
   have T171 := Lib.hid (T148.out.below hb166 T148.out.lt)
   have F172 := Lib.hid (F149.out.below hb166 (Nat.le_refl _))
   have F173 := Lib.hid (F150.out.below hb166 (Nat.le_refl _))
   have F174 := Lib.hid (F151.out.below hb166 (Nat.le_refl _))
   have F175 := Lib.hid (F152.out.below hb166 (Nat.le_refl _))
   have F176 := Lib.hid (F153.out.below hb166 (Nat.le_refl _))
   have F177 := Lib.hid (F154.out.below hb166 (Nat.le_refl _))
   have B178 := Lib.hid (B155.out.trans (hb166.mono B155.out.size))
   clear hb166
   have E179 := Lib.hid (hr158)
   have L180 := Lib.hid (hl161)
   have F181 := Lib.hid (hk159)
   clear hr158 hk159 ht160 hl161
   have M188 := Lib.hid (T171.out.mn L105.out)
   have M189 := Lib.hid (T168.out.load)
   have C190 := Lib.hid ((show Calls Tryz.prog 16 #[.agg #[.slice b.A b.xs.length b.c], .agg d86.cs.toArray] w165 (fun e w' => ∃ l : Bk, e = .returned (.slice l.A l.xs.length l.c) ∧ l.rs = [] ∧ BkAt w' l ∧ (∀ x ∈ l.xs, FTag w' x.A) ∧ Below (w165).heap.size w165 w') from by have h := parts14_any b d86 w165 (HLA.out _ B178.out) F173.out F176.out; unfold PartsPost at h; rw [E102.out, HP3.out] at h; exact h))
   go_wp2_with (first | ((with_reducible refine wpList_load_at (o := ⟨some 163, .load 29 (.tmp 12), _, _, _, _⟩) ?e1 29 (.tmp 12) ?e2 ⟨w91.heap.size, 0, none⟩ ?e3 _ M188.out ?_); (case e1 => rfl); (case e2 => rfl); (case e3 => rfl)) | ((with_reducible refine wpList_load_by (o := ⟨some 162, .load 24 (.tmp 3), _, _, _, _⟩) ?e1 24 (.tmp 3) ?e2 ⟨(w.heap.size + 1), 0, none⟩ ?e3 _ M189.out ?_); (case e1 => rfl); (case e2 => rfl); (case e3 => rfl)))
   refine C190.out.mono ?_
   rintro e w191 ⟨l182, he183, hr184, hk185, ht186, hb192⟩
   have hl187 : l182.xs.length = 0 := len_rsL hr184
   rw [hl187] at he183
   subst he183
   have T193 := Lib.hid (T167.out.below hb192 T167.out.lt)
   have T194 := Lib.hid (T168.out.below hb192 T168.out.lt)
   have T195 := Lib.hid (T169.out.below hb192 T169.out.lt)
   have T196 := Lib.hid (T170.out.below hb192 T170.out.lt)
   have T197 := Lib.hid (T171.out.below hb192 T171.out.lt)
   have F198 := Lib.hid (F172.out.below hb192 (Nat.le_refl _))
   have F199 := Lib.hid (F173.out.below hb192 (Nat.le_refl _))
   have F200 := Lib.hid (F174.out.below hb192 (Nat.le_refl _))
   have F201 := Lib.hid (F175.out.below hb192 (Nat.le_refl _))
   have F202 := Lib.hid (F176.out.below hb192 (Nat.le_refl _))
   have F203 := Lib.hid (F177.out.below hb192 (Nat.le_refl _))
   have F204 := Lib.hid (F181.out.below hb192 (Nat.le_refl _))
   have B205 := Lib.hid (B178.out.trans (hb192.mono B178.out.size))
   clear hb192
   have E206 := Lib.hid (hr184)
   have L207 := Lib.hid (hl187)
   have F208 := Lib.hid (hk185)
   clear hr184 hk185 ht186 hl187
   have M215 := Lib.hid (T195.out.mn L50.out)
   have M216 := Lib.hid (T194.out.load)
   have C217 := Lib.hid ((show Calls Tryz.prog 16 #[.agg #[.slice b.A b.xs.length b.c], .agg d35.cs.toArray] w191 (fun e w' => ∃ l : Bk, e = .returned (.slice l.A l.xs.length l.c) ∧ l.rs = [] ∧ BkAt w' l ∧ (∀ x ∈ l.xs, FTag w' x.A) ∧ Below (w191).heap.size w191 w') from by have h := parts14_any b d35 w191 (HLA.out _ B205.out) F199.out F200.out; unfold PartsPost at h; rw [E47.out, HP4.out] at h; exact h))
   go_wp2_with (first | ((with_reducible refine wpList_load_at (o := ⟨some 170, .load 29 (.tmp 8), _, _, _, _⟩) ?e1 29 (.tmp 8) ?e2 ⟨w40.heap.size, 0, none⟩ ?e3 _ M215.out ?_); (case e1 => rfl); (case e2 => rfl); (case e3 => rfl)) | ((with_reducible refine wpList_load_by (o := ⟨some 169, .load 24 (.tmp 3), _, _, _, _⟩) ?e1 24 (.tmp 3) ?e2 ⟨(w.heap.size + 1), 0, none⟩ ?e3 _ M216.out ?_); (case e1 => rfl); (case e2 => rfl); (case e3 => rfl)))
   refine C217.out.mono ?_
   rintro e w218 ⟨l209, he210, hr211, hk212, ht213, hb219⟩
   have hl214 : l209.xs.length = 0 := len_rsL hr211
   rw [hl214] at he210
   subst he210
   have T220 := Lib.hid (T193.out.below hb219 T193.out.lt)
   have T221 := Lib.hid (T194.out.below hb219 T194.out.lt)
   have T222 := Lib.hid (T195.out.below hb219 T195.out.lt)
   have T223 := Lib.hid (T196.out.below hb219 T196.out.lt)
   have T224 := Lib.hid (T197.out.below hb219 T197.out.lt)
   have F225 := Lib.hid (F198.out.below hb219 (Nat.le_refl _))
   have F226 := Lib.hid (F199.out.below hb219 (Nat.le_refl _))
   have F227 := Lib.hid (F200.out.below hb219 (Nat.le_refl _))
   have F228 := Lib.hid (F201.out.below hb219 (Nat.le_refl _))
   have F229 := Lib.hid (F202.out.below hb219 (Nat.le_refl _))
   have F230 := Lib.hid (F203.out.below hb219 (Nat.le_refl _))
   have F231 := Lib.hid (F204.out.below hb219 (Nat.le_refl _))
   have F232 := Lib.hid (F208.out.below hb219 (Nat.le_refl _))
   have B233 := Lib.hid (B205.out.trans (hb219.mono B205.out.size))
   clear hb219
   have E234 := Lib.hid (hr211)
   have L235 := Lib.hid (hl214)
   have F236 := Lib.hid (hk212)
   clear hr211 hk212 ht213 hl214
   go_wp2
   go_ret
   exact ⟨rfl, B233.out⟩
theorem walk_aboveLess (a b : Bk) (w : World) (hlaid : Laid w) (wa : BkAt w a) (wb : BkAt w b) : Calls Tryz.prog 5 #[.agg #[.slice a.A a.xs.length a.c], .agg #[.slice b.A b.xs.length b.c]] w fun e w' => e = .returned (.bool true) ∧ Below w.heap.size w w' := by
 have hmo : ∀ X : List Rc, bmay X = true → mofB X = some (mof SH.sum (SH.sum (bbs X)) X) := fun X h => if_pos h
 cases p : fewB a.rs with
 | false => exact abl_few1 a b w hlaid wa wb _ _ _ _ p _ rfl rfl (Prod.ext rfl rfl) rfl
 | true =>
  cases q : fewB b.rs with
  | false => exact abl_few2 a b w hlaid wa wb _ _ _ _ p q rfl (Prod.ext rfl rfl) rfl
  | true =>
   cases h1 : (mofB b.rs).isSome with
   | false => exact abl_is a b w hlaid wa wb _ _ _ p q h1 (Prod.ext rfl rfl) rfl
   | true =>
    cases h2 : (mofB (bjE a.rs b.rs).2).isSome with
    | false => exact abl_was a b w hlaid wa wb _ _ p q h1 (Prod.ext rfl rfl) h2
    | true =>
     by_cases h0 : (bjE a.rs b.rs).1 = 0
     ·obtain ⟨m1, m2, hl, he⟩ := bjE_ok h0
      have hx : ∀ X : List Rc, X.filterMap (apart (mof SH.sum (SH.sum (bbs (bjoin a.rs b.rs))) (bjoin a.rs b.rs))) = [] → aparts X (mof SH.sum (SH.sum (bbs (bjoin a.rs b.rs))) (bjoin a.rs b.rs)) = [] := fun X h => by
       unfold aparts
       split
       ·exact h
       ·rfl
      have hz := parts_join (base := SH.sum (bbs (bjoin a.rs b.rs))) m1 m2 hl
      have hla : a.rs.length ≤ 14 := by unfold Bk.rs; rw [List.length_map]; exact (fewB_fs p).1
      exact abl_all a b w hlaid wa wb p q _ _ _ _ _ (hmo b.rs m2) (Prod.ext h0 he) (hmo _ (bjoin_bmay m1 m2 hl)) rfl rfl (Nat.le_trans less_len hla) (hx _ hz.1) (hx _ hz.2) (aparts_own m2) (less_part m1 rfl)
     ·have he : (bjE a.rs b.rs).1 = 1 ∨ (bjE a.rs b.rs).1 = 4 := by
       unfold bjE at h0 ⊢
       split at h0
       ·rename_i hm
        rw [if_pos hm]
        split at h0
        ·rename_i hl
         rw [if_pos hl]
         exact .inr rfl
        ·exact absurd rfl h0
       ·rename_i hm
        rw [if_neg hm]
        exact .inl rfl
      rcases he with e | e
      ·exact abl_e1 a b w hlaid wa wb p q _ h1 (Prod.ext e rfl) h2
      ·exact abl_e4 a b w hlaid wa wb p q _ h1 (Prod.ext e rfl) h2
end
end Go.Proofs.YtnlhkpmgbpfjmaaGreatDoor
