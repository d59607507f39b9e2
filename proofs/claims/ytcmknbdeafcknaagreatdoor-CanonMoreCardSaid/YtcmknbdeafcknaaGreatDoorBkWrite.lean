import Derived.Test.YtcmknbdeafcknaaGreatDoorBkWith
/-
  What book.Write answers. Nothing that was there is written.
-/
namespace Go.Proofs.YtcmknbdeafcknaaGreatDoor
open Go.RowKit WM
set_option linter.unusedVariables false
set_option maxRecDepth 100000
set_option maxHeartbeats 16000000 in
theorem bwrite_any (b : Bk) (z : List Int) (no q : Int) (s : ByteArray) (w : World) (hlaid : Laid w) (h1 : BkAt w b) (hz16 : z.length = 16) (hzb : AllBytes z) :
    Calls Tryz.prog 26 #[.agg #[.slice b.A b.xs.length b.c], .agg (bvals z), .int .i64 no, .int .i64 q, .string s] w (BJoinPost w (bwrite b.rs z no q s)) := by
  have s0 := ((BoAt.new w (.slice b.A b.xs.length b.c)).old (.cells (bvals z) 26)).old (.cells #[.slice none 0 0] 24)
  have i1 := (IdAt.new (w.alloc (.cells #[.slice b.A b.xs.length b.c] 24)) hz16).old (.cells #[.slice none 0 0] 24)
  rw [World.size_alloc] at i1
  have s2 := BoAt.new ((w.alloc (.cells #[.slice b.A b.xs.length b.c] 24)).alloc (.cells (bvals z) 26)) (.slice none 0 0)
  rw [World.size_alloc, World.size_alloc] at s2
  have S0 := Lib.hid s0
  have I1 := Lib.hid i1
  have S2 := Lib.hid s2
  have HB := Lib.hid ((((Below.refl w.heap.size w).alloc (Nat.le_refl _) (.cells #[.slice b.A b.xs.length b.c] 24)).alloc (by simp) (.cells (bvals z) 26)).alloc (by simp; omega) (.cells #[.slice none 0 0] 24))
  have LA := Lib.hid S0.out.load
  have HM := Lib.hid (bmay_any b _ (h1.below HB.out (Nat.le_refl _)))
  have H1 := Lib.hid h1
  have HZ := Lib.hid (And.intro hz16 hzb)
  have hz : ∀ w : World, (zeroValue 24).run Tryz.prog w = .ok (.agg #[.slice none 0 0]) w := zeroBook
  have hb0 := build_book0
  have HLA := Lib.hid (fun (X : World) (hX : Below w.heap.size w X) => hlaid.below hX (Nat.le_refl _))
  have HR := Lib.hid (fun w => bmayRep_any q w)
  have HN := Lib.hid (fun w => next_any (blast b.rs).1 (blast b.rs).2 q w)
  have HTT : Hid (nxt (blast b.rs).1 (blast b.rs).2 q = bnext b.rs q) := Lib.hid rfl
  rw [HTT.out] at HN
  unfold st nxtV st at HN
  clear s0 i1 s2 h1 hlaid hz16 hzb
  cases hm : bmay b.rs
  · have HE := Lib.hid (show bwrite b.rs z no q s = (1, []) by unfold bwrite bwok; rw [hm]; rfl)
    rw [hm] at HM
    clear hm
    go_enter Tryz.func26, Tryz.ntmps26
    go_wp2_with (first | ((with_reducible refine wpList_load_by (o := ⟨some 15, .load 24 (.tmp 5), _, _, _, _⟩) ?e1 24 (.tmp 5) ?e2 ⟨w.heap.size, 0, none⟩ ?e3 _ LA.out ?_); (case e1 => rfl); (case e2 => rfl); (case e3 => rfl)))
    refine HM.out.mono ?_
    rintro e w1 ⟨rfl, hb⟩
    have S01 := Lib.hid (S0.out.below hb S0.out.lt)
    have I11 := Lib.hid (I1.out.below hb I1.out.lt)
    have S21 := Lib.hid (S2.out.below hb S2.out.lt)
    have B1 := Lib.hid (HB.out.trans (hb.mono HB.out.size))
    clear hb
    go_wp2_with (first | ((with_reducible refine wpList_store_oldb (o := ⟨none, .store 24 (.tmp 10) (.tmp 36), _, _, _, _⟩) ?e1 (.tmp 10) (.tmp 36) ?e2 (w.heap.size + 1 + 1) _ S21.out ?e3 (.slice none 0 0) ?e4 ?e5 ?_); (case e1 => rfl); (case e2 => rfl); (case e3 => rfl); (case e4 => rfl); (case e5 => rfl); intro w2 hg2 hx2; have G9 := Lib.hid hg2; have X9 := Lib.hid hx2; clear hg2 hx2))
    refine bodyPost_ret (v := .tuple #[.agg #[.slice none 0 0], .int .i64 1]) ?_ rfl ?_
    · exact res_bk2 Tryz.results26 rfl X9.out
    · rw [HE.out]
      exact ⟨bk0, rfl, rfl, BkAt.zero _, B1.out.grown G9.out B1.out.size (fun k e => by have := Option.some.inj e; omega)⟩
  · rw [hm] at HM
    by_cases t1 : no < 0
    · have HE := Lib.hid (show bwrite b.rs z no q s = (1, []) by unfold bwrite bwok; rw [hm, decide_eq_false (show ¬ 0 ≤ no by omega)]; rfl)
      clear hm
      go_enter Tryz.func26, Tryz.ntmps26
      go_wp2_with (first | ((with_reducible refine wpList_load_by (o := ⟨some 15, .load 24 (.tmp 5), _, _, _, _⟩) ?e1 24 (.tmp 5) ?e2 ⟨w.heap.size, 0, none⟩ ?e3 _ LA.out ?_); (case e1 => rfl); (case e2 => rfl); (case e3 => rfl)))
      refine HM.out.mono ?_
      rintro e w1 ⟨rfl, hb⟩
      have S01 := Lib.hid (S0.out.below hb S0.out.lt)
      have I11 := Lib.hid (I1.out.below hb I1.out.lt)
      have S21 := Lib.hid (S2.out.below hb S2.out.lt)
      have B1 := Lib.hid (HB.out.trans (hb.mono HB.out.size))
      clear hb
      go_wp2_with (first | ((with_reducible refine wpList_store_oldb (o := ⟨none, .store 24 (.tmp 10) (.tmp 36), _, _, _, _⟩) ?e1 (.tmp 10) (.tmp 36) ?e2 (w.heap.size + 1 + 1) _ S21.out ?e3 (.slice none 0 0) ?e4 ?e5 ?_); (case e1 => rfl); (case e2 => rfl); (case e3 => rfl); (case e4 => rfl); (case e5 => rfl); intro w2 hg2 hx2; have G9 := Lib.hid hg2; have X9 := Lib.hid hx2; clear hg2 hx2))
      refine bodyPost_ret (v := .tuple #[.agg #[.slice none 0 0], .int .i64 1]) ?_ rfl ?_
      · exact res_bk2 Tryz.results26 rfl X9.out
      · rw [HE.out]
        exact ⟨bk0, rfl, rfl, BkAt.zero _, B1.out.grown G9.out B1.out.size (fun k e => by have := Option.some.inj e; omega)⟩
    · by_cases t2 : 8 ≤ no
      · have HE := Lib.hid (show bwrite b.rs z no q s = (1, []) by unfold bwrite bwok; rw [hm, decide_eq_false (show ¬ no < 8 by omega), Bool.and_false]; rfl)
        clear hm
        go_enter Tryz.func26, Tryz.ntmps26
        go_wp2_with (first | ((with_reducible refine wpList_load_by (o := ⟨some 15, .load 24 (.tmp 5), _, _, _, _⟩) ?e1 24 (.tmp 5) ?e2 ⟨w.heap.size, 0, none⟩ ?e3 _ LA.out ?_); (case e1 => rfl); (case e2 => rfl); (case e3 => rfl)))
        refine HM.out.mono ?_
        rintro e w1 ⟨rfl, hb⟩
        have S01 := Lib.hid (S0.out.below hb S0.out.lt)
        have I11 := Lib.hid (I1.out.below hb I1.out.lt)
        have S21 := Lib.hid (S2.out.below hb S2.out.lt)
        have B1 := Lib.hid (HB.out.trans (hb.mono HB.out.size))
        clear hb
        go_wp2_with (first | ((with_reducible refine wpList_store_oldb (o := ⟨none, .store 24 (.tmp 10) (.tmp 36), _, _, _, _⟩) ?e1 (.tmp 10) (.tmp 36) ?e2 (w.heap.size + 1 + 1) _ S21.out ?e3 (.slice none 0 0) ?e4 ?e5 ?_); (case e1 => rfl); (case e2 => rfl); (case e3 => rfl); (case e4 => rfl); (case e5 => rfl); intro w2 hg2 hx2; have G9 := Lib.hid hg2; have X9 := Lib.hid hx2; clear hg2 hx2))
        refine bodyPost_ret (v := .tuple #[.agg #[.slice none 0 0], .int .i64 1]) ?_ rfl ?_
        · exact res_bk2 Tryz.results26 rfl X9.out
        · rw [HE.out]
          exact ⟨bk0, rfl, rfl, BkAt.zero _, B1.out.grown G9.out B1.out.size (fun k e => by have := Option.some.inj e; omega)⟩
      · cases hq : mayR q
        · have HE := Lib.hid (show bwrite b.rs z no q s = (1, []) by unfold bwrite bwok; rw [hq, Bool.and_false]; rfl)
          rw [hq] at HR
          clear hm hq
          go_enter Tryz.func26, Tryz.ntmps26
          go_wp2_with (first | ((with_reducible refine wpList_load_by (o := ⟨some 15, .load 24 (.tmp 5), _, _, _, _⟩) ?e1 24 (.tmp 5) ?e2 ⟨w.heap.size, 0, none⟩ ?e3 _ LA.out ?_); (case e1 => rfl); (case e2 => rfl); (case e3 => rfl)))
          refine HM.out.mono ?_
          rintro e w1 ⟨rfl, hb⟩
          have S01 := Lib.hid (S0.out.below hb S0.out.lt)
          have I11 := Lib.hid (I1.out.below hb I1.out.lt)
          have S21 := Lib.hid (S2.out.below hb S2.out.lt)
          have B1 := Lib.hid (HB.out.trans (hb.mono HB.out.size))
          clear hb
          go_wp2_with fail
          refine (HR.out _).mono ?_
          rintro e w2 ⟨rfl, hb⟩
          have S02 := Lib.hid (S01.out.below hb S01.out.lt)
          have I12 := Lib.hid (I11.out.below hb I11.out.lt)
          have S22 := Lib.hid (S21.out.below hb S21.out.lt)
          have B2 := Lib.hid (B1.out.trans (hb.mono B1.out.size))
          clear hb
          go_wp2_with (first | ((with_reducible refine wpList_store_oldb (o := ⟨none, .store 24 (.tmp 10) (.tmp 36), _, _, _, _⟩) ?e1 (.tmp 10) (.tmp 36) ?e2 (w.heap.size + 1 + 1) _ S22.out ?e3 (.slice none 0 0) ?e4 ?e5 ?_); (case e1 => rfl); (case e2 => rfl); (case e3 => rfl); (case e4 => rfl); (case e5 => rfl); intro w2 hg2 hx2; have G9 := Lib.hid hg2; have X9 := Lib.hid hx2; clear hg2 hx2))
          refine bodyPost_ret (v := .tuple #[.agg #[.slice none 0 0], .int .i64 1]) ?_ rfl ?_
          · exact res_bk2 Tryz.results26 rfl X9.out
          · rw [HE.out]
            exact ⟨bk0, rfl, rfl, BkAt.zero _, B2.out.grown G9.out B2.out.size (fun k e => by have := Option.some.inj e; omega)⟩
        · rw [hq] at HR
          by_cases t3 : 200 < (s.size : Int)
          · have HE := Lib.hid (show bwrite b.rs z no q s = (1, []) by unfold bwrite bwok; rw [decide_eq_false (show ¬ s.size ≤ 200 by omega), Bool.and_false]; rfl)
            clear hm hq
            go_enter Tryz.func26, Tryz.ntmps26
            go_wp2_with (first | ((with_reducible refine wpList_load_by (o := ⟨some 15, .load 24 (.tmp 5), _, _, _, _⟩) ?e1 24 (.tmp 5) ?e2 ⟨w.heap.size, 0, none⟩ ?e3 _ LA.out ?_); (case e1 => rfl); (case e2 => rfl); (case e3 => rfl)))
            refine HM.out.mono ?_
            rintro e w1 ⟨rfl, hb⟩
            have S01 := Lib.hid (S0.out.below hb S0.out.lt)
            have I11 := Lib.hid (I1.out.below hb I1.out.lt)
            have S21 := Lib.hid (S2.out.below hb S2.out.lt)
            have B1 := Lib.hid (HB.out.trans (hb.mono HB.out.size))
            clear hb
            go_wp2_with fail
            refine (HR.out _).mono ?_
            rintro e w2 ⟨rfl, hb⟩
            have S02 := Lib.hid (S01.out.below hb S01.out.lt)
            have I12 := Lib.hid (I11.out.below hb I11.out.lt)
            have S22 := Lib.hid (S21.out.below hb S21.out.lt)
            have B2 := Lib.hid (B1.out.trans (hb.mono B1.out.size))
            clear hb
            go_wp2_with (first | ((with_reducible refine wpList_store_oldb (o := ⟨none, .store 24 (.tmp 10) (.tmp 36), _, _, _, _⟩) ?e1 (.tmp 10) (.tmp 36) ?e2 (w.heap.size + 1 + 1) _ S22.out ?e3 (.slice none 0 0) ?e4 ?e5 ?_); (case e1 => rfl); (case e2 => rfl); (case e3 => rfl); (case e4 => rfl); (case e5 => rfl); intro w2 hg2 hx2; have G9 := Lib.hid hg2; have X9 := Lib.hid hx2; clear hg2 hx2))
            refine bodyPost_ret (v := .tuple #[.agg #[.slice none 0 0], .int .i64 1]) ?_ rfl ?_
            · exact res_bk2 Tryz.results26 rfl X9.out
            · rw [HE.out]
              exact ⟨bk0, rfl, rfl, BkAt.zero _, B2.out.grown G9.out B2.out.size (fun k e => by have := Option.some.inj e; omega)⟩
          · have HOK : bwok b.rs no q s = true := by unfold bwok; rw [hm, hq, decide_eq_true (show 0 ≤ no by omega), decide_eq_true (show no < 8 by omega), decide_eq_true (show s.size ≤ 200 by omega)]; rfl
            have HEE : bwrite b.rs z no q s = if (bnext b.rs q).2.2 = 0 then bjE b.rs [wrec z no (bnext b.rs q) s] else ((bnext b.rs q).2.2, []) := by unfold bwrite; rw [HOK, if_pos rfl]
            clear hm hq HOK HTT
            generalize bnext b.rs q = t at *
            by_cases t4 : t.2.2 = 0
            · rw [if_pos t4] at HEE
              have HE := Lib.hid HEE
              obtain ⟨r, hr⟩ : ∃ r, bjE b.rs [wrec z no t s] = r := ⟨_, rfl⟩
              have HRR : Hid (bjE b.rs [(⟨wrec z no t s, some ⟨0, 0, none⟩, 1⟩ : RcA).R] = r) := Lib.hid hr
              rw [hr] at HE
              clear HEE hr
              go_enter Tryz.func26, Tryz.ntmps26
              go_wp2_with (first | ((with_reducible refine wpList_load_by (o := ⟨some 15, .load 24 (.tmp 5), _, _, _, _⟩) ?e1 24 (.tmp 5) ?e2 ⟨w.heap.size, 0, none⟩ ?e3 _ LA.out ?_); (case e1 => rfl); (case e2 => rfl); (case e3 => rfl)))
              refine HM.out.mono ?_
              rintro e w1 ⟨rfl, hb⟩
              have S01 := Lib.hid (S0.out.below hb S0.out.lt)
              have I11 := Lib.hid (I1.out.below hb I1.out.lt)
              have S21 := Lib.hid (S2.out.below hb S2.out.lt)
              have B1 := Lib.hid (HB.out.trans (hb.mono HB.out.size))
              clear hb
              go_wp2_with fail
              refine (HR.out _).mono ?_
              rintro e w2 ⟨rfl, hb⟩
              have S02 := Lib.hid (S01.out.below hb S01.out.lt)
              have I12 := Lib.hid (I11.out.below hb I11.out.lt)
              have S22 := Lib.hid (S21.out.below hb S21.out.lt)
              have B2 := Lib.hid (B1.out.trans (hb.mono B1.out.size))
              clear hb
              have LB := Lib.hid S02.out.load
              have HL := Lib.hid (blast_any b w2 (H1.out.below B2.out (Nat.le_refl _)))
              unfold st at HL
              go_wp2_with (first | ((with_reducible refine wpList_load_by (o := ⟨some 38, .load 24 (.tmp 5), _, _, _, _⟩) ?e1 24 (.tmp 5) ?e2 ⟨w.heap.size, 0, none⟩ ?e3 _ LB.out ?_); (case e1 => rfl); (case e2 => rfl); (case e3 => rfl)))
              refine HL.out.mono ?_
              rintro e w3 ⟨rfl, hb⟩
              have S03 := Lib.hid (S02.out.below hb S02.out.lt)
              have I13 := Lib.hid (I12.out.below hb I12.out.lt)
              have S23 := Lib.hid (S22.out.below hb S22.out.lt)
              have B3 := Lib.hid (B2.out.trans (hb.mono B2.out.size))
              clear hb
              go_wp2_with fail
              refine (HN.out _).mono ?_
              rintro e w4 ⟨rfl, hb⟩
              have S04 := Lib.hid (S03.out.below hb S03.out.lt)
              have I14 := Lib.hid (I13.out.below hb I13.out.lt)
              have S24 := Lib.hid (S23.out.below hb S23.out.lt)
              have B4 := Lib.hid (B3.out.trans (hb.mono B3.out.size))
              clear hb
              have BS := (Below.refl w4.heap.size w4).alloc (Nat.le_refl _) (.cells #[.int .i64 t.1, .int .i64 t.2.1] 30)
              have BC := BS.trans (((Below.refl _ _).alloc (Nat.le_refl _) (.cells #[.int .i64 t.1, .int .i64 t.2.1, .string s] 57)).mono BS.size)
              have BF := BC.trans (((Below.refl _ _).alloc (Nat.le_refl _) (.cells #[.int .i64 no, .int .i64 t.1, .int .i64 t.2.1, .string s] 59)).mono BC.size)
              have L51 := Lib.hid (S04.out.below BC S04.out.lt).load
              have L52 := Lib.hid (load_arr16 (I14.out.below BC I14.out.lt))
              have hbz := build_zf HZ.out.1
              have HFS := fs_one' ((w4.alloc (.cells #[.int .i64 t.1, .int .i64 t.2.1] 30)).alloc (.cells #[.int .i64 t.1, .int .i64 t.2.1, .string s] 57)) ⟨no, ⟨t.1, t.2.1, s⟩⟩
              simp only [World.size_alloc] at HFS
              have S05 := Lib.hid (S04.out.below BF S04.out.lt)
              have I15 := Lib.hid (I14.out.below BF I14.out.lt)
              have S25 := Lib.hid (S24.out.below BF S24.out.lt)
              have B5 := Lib.hid (B4.out.trans (BF.mono B4.out.size))
              clear BF
              have HXV : RvAt (((w4.alloc (.cells #[.int .i64 t.1, .int .i64 t.2.1] 30)).alloc (.cells #[.int .i64 t.1, .int .i64 t.2.1, .string s] 57)).alloc (.cells #[.int .i64 no, .int .i64 t.1, .int .i64 t.2.1, .string s] 59)) ⟨wrec z no t s, some ⟨w4.heap.size + 1 + 1, 0, none⟩, 1⟩ := ⟨⟨HZ.out.1, HZ.out.2⟩, HFS⟩
              have HW := with_any b ⟨wrec z no t s, some ⟨w4.heap.size + 1 + 1, 0, none⟩, 1⟩ _ (HLA.out _ B5.out) (H1.out.below B5.out (Nat.le_refl _)) HXV
              unfold BJoinPost at HW
              rw [HRR.out] at HW
              have HW2 := Lib.hid (show Calls Tryz.prog 54 #[.agg #[.slice b.A b.xs.length b.c], .agg (rcells z 0 0 (.slice (some ⟨w4.heap.size + 1 + 1, 0, none⟩) 1 1))] _ _ from HW)
              clear HFS BC HXV HW BS
              go_wp2_with (first | ((with_reducible refine wpList_load_by (o := ⟨some 51, .load 24 (.tmp 5), _, _, _, _⟩) ?e1 24 (.tmp 5) ?e2 ⟨w.heap.size, 0, none⟩ ?e3 _ L51.out ?_); (case e1 => rfl); (case e2 => rfl); (case e3 => rfl)) | ((with_reducible refine wpList_load_by (o := ⟨some 52, .load 26 (.tmp 6), _, _, _, _⟩) ?e1 26 (.tmp 6) ?e2 ⟨(w.heap.size + 1), 0, none⟩ ?e3 _ L52.out ?_); (case e1 => rfl); (case e2 => rfl); (case e3 => rfl)) | ((with_reducible refine wpList_build_by (o := ⟨some 57, .build 33 #[(0, .tmp 52), (2, .tmp 56)], _, _, _, _⟩) ?e1 33 #[(0, .tmp 52), (2, .tmp 56)] ?e2 #[(0, .agg (bvals z)), (2, .slice (some ⟨w4.heap.size + 1 + 1, 0, none⟩) 1 1)] ?e3 _ (hbz _ _ _ _) ?_); (case e1 => rfl); (case e2 => rfl); (case e3 => (simp only [List.map_toArray, List.map_cons, List.map_nil]; rfl))))
              refine HW2.out.mono ?_
              rintro e w6 ⟨d, rfl, hd, hk, hb⟩
              have HD := Lib.hid hd
              have HK := Lib.hid hk
              clear hd hk
              have S06 := Lib.hid (S05.out.below hb S05.out.lt)
              have I16 := Lib.hid (I15.out.below hb I15.out.lt)
              have S26 := Lib.hid (S25.out.below hb S25.out.lt)
              have B6 := Lib.hid (B5.out.trans (hb.mono B5.out.size))
              clear hb
              go_wp2_with (first | ((with_reducible refine wpList_store_oldb (o := ⟨none, .store 24 (.tmp 10) (.tmp 59), _, _, _, _⟩) ?e1 (.tmp 10) (.tmp 59) ?e2 (w.heap.size + 1 + 1) _ S26.out ?e3 (.slice d.A d.xs.length d.c) ?e4 ?e5 ?_); (case e1 => rfl); (case e2 => rfl); (case e3 => rfl); (case e4 => rfl); (case e5 => rfl); intro w2 hg2 hx2; have G9 := Lib.hid hg2; have X9 := Lib.hid hx2; clear hg2 hx2))
              refine bodyPost_ret (v := .tuple #[.agg #[.slice d.A d.xs.length d.c], .int .i64 r.1]) ?_ rfl ?_
              · exact res_bk2 Tryz.results26 rfl X9.out
              · rw [HE.out]
                exact ⟨d, rfl, HD.out, HK.out.kept_bo G9.out S26.out, B6.out.grown G9.out B6.out.size (fun k e => by have := Option.some.inj e; omega)⟩
            · rw [if_neg t4] at HEE
              have HE := Lib.hid HEE
              clear HEE
              go_enter Tryz.func26, Tryz.ntmps26
              go_wp2_with (first | ((with_reducible refine wpList_load_by (o := ⟨some 15, .load 24 (.tmp 5), _, _, _, _⟩) ?e1 24 (.tmp 5) ?e2 ⟨w.heap.size, 0, none⟩ ?e3 _ LA.out ?_); (case e1 => rfl); (case e2 => rfl); (case e3 => rfl)))
              refine HM.out.mono ?_
              rintro e w1 ⟨rfl, hb⟩
              have S01 := Lib.hid (S0.out.below hb S0.out.lt)
              have I11 := Lib.hid (I1.out.below hb I1.out.lt)
              have S21 := Lib.hid (S2.out.below hb S2.out.lt)
              have B1 := Lib.hid (HB.out.trans (hb.mono HB.out.size))
              clear hb
              go_wp2_with fail
              refine (HR.out _).mono ?_
              rintro e w2 ⟨rfl, hb⟩
              have S02 := Lib.hid (S01.out.below hb S01.out.lt)
              have I12 := Lib.hid (I11.out.below hb I11.out.lt)
              have S22 := Lib.hid (S21.out.below hb S21.out.lt)
              have B2 := Lib.hid (B1.out.trans (hb.mono B1.out.size))
              clear hb
              have LB := Lib.hid S02.out.load
              have HL := Lib.hid (blast_any b w2 (H1.out.below B2.out (Nat.le_refl _)))
              unfold st at HL
              go_wp2_with (first | ((with_reducible refine wpList_load_by (o := ⟨some 38, .load 24 (.tmp 5), _, _, _, _⟩) ?e1 24 (.tmp 5) ?e2 ⟨w.heap.size, 0, none⟩ ?e3 _ LB.out ?_); (case e1 => rfl); (case e2 => rfl); (case e3 => rfl)))
              refine HL.out.mono ?_
              rintro e w3 ⟨rfl, hb⟩
              have S03 := Lib.hid (S02.out.below hb S02.out.lt)
              have I13 := Lib.hid (I12.out.below hb I12.out.lt)
              have S23 := Lib.hid (S22.out.below hb S22.out.lt)
              have B3 := Lib.hid (B2.out.trans (hb.mono B2.out.size))
              clear hb
              go_wp2_with fail
              refine (HN.out _).mono ?_
              rintro e w4 ⟨rfl, hb⟩
              have S04 := Lib.hid (S03.out.below hb S03.out.lt)
              have I14 := Lib.hid (I13.out.below hb I13.out.lt)
              have S24 := Lib.hid (S23.out.below hb S23.out.lt)
              have B4 := Lib.hid (B3.out.trans (hb.mono B3.out.size))
              clear hb
              have BS := (Below.refl w4.heap.size w4).alloc (Nat.le_refl _) (.cells #[.int .i64 t.1, .int .i64 t.2.1] 30)
              have S05 := Lib.hid (S04.out.below BS S04.out.lt)
              have I15 := Lib.hid (I14.out.below BS I14.out.lt)
              have S25 := Lib.hid (S24.out.below BS S24.out.lt)
              have B5 := Lib.hid (B4.out.trans (BS.mono B4.out.size))
              clear BS
              go_wp2_with (first | ((with_reducible refine wpList_store_oldb (o := ⟨none, .store 24 (.tmp 10) (.tmp 46), _, _, _, _⟩) ?e1 (.tmp 10) (.tmp 46) ?e2 (w.heap.size + 1 + 1) _ S25.out ?e3 (.slice none 0 0) ?e4 ?e5 ?_); (case e1 => rfl); (case e2 => rfl); (case e3 => rfl); (case e4 => rfl); (case e5 => rfl); intro w2 hg2 hx2; have G9 := Lib.hid hg2; have X9 := Lib.hid hx2; clear hg2 hx2))
              refine bodyPost_ret (v := .tuple #[.agg #[.slice none 0 0], .int .i64 t.2.2]) ?_ rfl ?_
              · exact res_bk2 Tryz.results26 rfl X9.out
              · rw [HE.out]
                exact ⟨bk0, rfl, rfl, BkAt.zero _, B5.out.grown G9.out B5.out.size (fun k e => by have := Option.some.inj e; omega)⟩
end Go.Proofs.YtcmknbdeafcknaaGreatDoor

