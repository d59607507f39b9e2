import Derived.Test.YtcmknbdeafcknaaGreatDoorBkWith
/-
  What book.Kill answers. Nothing that was there is written.
-/
namespace Go.Proofs.YtcmknbdeafcknaaGreatDoor
open Go.RowKit WM
set_option linter.unusedVariables false
set_option maxRecDepth 100000
set_option maxHeartbeats 16000000 in
theorem bkill_any (b : Bk) (z : List Int) (q : Int) (w : World) (hlaid : Laid w) (h1 : BkAt w b) (hz16 : z.length = 16) (hzb : AllBytes z) :
    Calls Tryz.prog 28 #[.agg #[.slice b.A b.xs.length b.c], .agg (bvals z), .int .i64 q] w (BJoinPost w (bkill b.rs z q)) := by
  have s0 := ((BoAt.new w (.slice b.A b.xs.length b.c)).old (.cells (bvals z) 26)).old (.cells #[.slice none 0 0] 24)
  have i1 := (IdAt.new (w.alloc (.cells #[.slice b.A b.xs.length b.c] 24)) hz16).old (.cells #[.slice none 0 0] 24)
  rw [World.size_alloc] at i1
  have s2 := BoAt.new ((w.alloc (.cells #[.slice b.A b.xs.length b.c] 24)).alloc (.cells (bvals z) 26)) (.slice none 0 0)
  rw [World.size_alloc, World.size_alloc] at s2
  have S0 := Lib.hid s0
  have I1 := Lib.hid i1
  have S2 := Lib.hid s2
  have HB := Lib.hid ((((Below.refl w.heap.size w).alloc (Nat.le_refl _) (.cells #[.slice b.A b.xs.length b.c] 24)).alloc (by simp) (.cells (bvals z) 26)).alloc (by simp; omega) (.cells #[.slice none 0 0] 24))
  have LA := Lib.hid S0.out.load
  have HM := Lib.hid (bmay_any b _ (h1.below HB.out (Nat.le_refl _)))
  have H1 := Lib.hid h1
  have HZ := Lib.hid (And.intro hz16 hzb)
  have hz : ∀ w : World, (zeroValue 24).run Tryz.prog w = .ok (.agg #[.slice none 0 0]) w := zeroBook
  have hb0 := build_book0
  have HLA := Lib.hid (fun (X : World) (hX : Below w.heap.size w X) => hlaid.below hX (Nat.le_refl _))
  have HR := Lib.hid (fun w => bmayRep_any q w)
  have HN := Lib.hid (fun w => next_any (blast b.rs).1 (blast b.rs).2 q w)
  have HTT : Hid (nxt (blast b.rs).1 (blast b.rs).2 q = bnext b.rs q) := Lib.hid rfl
  rw [HTT.out] at HN
  unfold st nxtV st at HN
  have hzx := zeroX
  clear s0 i1 s2 h1 hlaid hz16 hzb
  cases hm : bmay b.rs
  · have HE := Lib.hid (show bkill b.rs z q = (1, []) by unfold bkill; rw [hm]; rfl)
    rw [hm] at HM
    clear hm
    go_enter Tryz.func28, Tryz.ntmps28
    go_wp2_with (first | ((with_reducible refine wpList_load_by (o := ⟨some 12, .load 24 (.tmp 3), _, _, _, _⟩) ?e1 24 (.tmp 3) ?e2 ⟨w.heap.size, 0, none⟩ ?e3 _ LA.out ?_); (case e1 => rfl); (case e2 => rfl); (case e3 => rfl)))
    refine HM.out.mono ?_
    rintro e w1 ⟨rfl, hb⟩
    have S01 := Lib.hid (S0.out.below hb S0.out.lt)
    have I11 := Lib.hid (I1.out.below hb I1.out.lt)
    have S21 := Lib.hid (S2.out.below hb S2.out.lt)
    have B1 := Lib.hid (HB.out.trans (hb.mono HB.out.size))
    clear hb
    go_wp2_with (first | ((with_reducible refine wpList_store_oldb (o := ⟨none, .store 24 (.tmp 6) (.tmp 20), _, _, _, _⟩) ?e1 (.tmp 6) (.tmp 20) ?e2 (w.heap.size + 1 + 1) _ S21.out ?e3 (.slice none 0 0) ?e4 ?e5 ?_); (case e1 => rfl); (case e2 => rfl); (case e3 => rfl); (case e4 => rfl); (case e5 => rfl); intro w2 hg2 hx2; have G9 := Lib.hid hg2; have X9 := Lib.hid hx2; clear hg2 hx2))
    refine bodyPost_ret (v := .tuple #[.agg #[.slice none 0 0], .int .i64 1]) ?_ rfl ?_
    · exact res_bk2 Tryz.results28 rfl X9.out
    · rw [HE.out]
      exact ⟨bk0, rfl, rfl, BkAt.zero _, B1.out.grown G9.out B1.out.size (fun k e => by have := Option.some.inj e; omega)⟩
  · rw [hm] at HM
    have HSM := Lib.hid (show ∀ x ∈ b.xs, x.R.fs.length ≤ 1000 from fun x hx => by
      have := rmay_len ((bmay_iff.1 hm).2.1 x.R (List.mem_map_of_mem hx))
      omega)
    cases hq : mayR q
    · have HE := Lib.hid (show bkill b.rs z q = (1, []) by unfold bkill; rw [hq, Bool.and_false]; rfl)
      rw [hq] at HR
      clear hm hq
      go_enter Tryz.func28, Tryz.ntmps28
      go_wp2_with (first | ((with_reducible refine wpList_load_by (o := ⟨some 12, .load 24 (.tmp 3), _, _, _, _⟩) ?e1 24 (.tmp 3) ?e2 ⟨w.heap.size, 0, none⟩ ?e3 _ LA.out ?_); (case e1 => rfl); (case e2 => rfl); (case e3 => rfl)))
      refine HM.out.mono ?_
      rintro e w1 ⟨rfl, hb⟩
      have S01 := Lib.hid (S0.out.below hb S0.out.lt)
      have I11 := Lib.hid (I1.out.below hb I1.out.lt)
      have S21 := Lib.hid (S2.out.below hb S2.out.lt)
      have B1 := Lib.hid (HB.out.trans (hb.mono HB.out.size))
      clear hb
      go_wp2_with fail
      refine (HR.out _).mono ?_
      rintro e w2 ⟨rfl, hb⟩
      have S02 := Lib.hid (S01.out.below hb S01.out.lt)
      have I12 := Lib.hid (I11.out.below hb I11.out.lt)
      have S22 := Lib.hid (S21.out.below hb S21.out.lt)
      have B2 := Lib.hid (B1.out.trans (hb.mono B1.out.size))
      clear hb
      go_wp2_with (first | ((with_reducible refine wpList_store_oldb (o := ⟨none, .store 24 (.tmp 6) (.tmp 20), _, _, _, _⟩) ?e1 (.tmp 6) (.tmp 20) ?e2 (w.heap.size + 1 + 1) _ S22.out ?e3 (.slice none 0 0) ?e4 ?e5 ?_); (case e1 => rfl); (case e2 => rfl); (case e3 => rfl); (case e4 => rfl); (case e5 => rfl); intro w2 hg2 hx2; have G9 := Lib.hid hg2; have X9 := Lib.hid hx2; clear hg2 hx2))
      refine bodyPost_ret (v := .tuple #[.agg #[.slice none 0 0], .int .i64 1]) ?_ rfl ?_
      · exact res_bk2 Tryz.results28 rfl X9.out
      · rw [HE.out]
        exact ⟨bk0, rfl, rfl, BkAt.zero _, B2.out.grown G9.out B2.out.size (fun k e => by have := Option.some.inj e; omega)⟩
    · rw [hq] at HR
      cases his : (bat b.rs z).isSome
      · have HIS := Lib.hid his
        have HE := Lib.hid (show bkill b.rs z q = (6, []) by unfold bkill; rw [hm, hq, if_pos (by rfl), his]; rfl)
        clear hm hq his
        go_enter Tryz.func28, Tryz.ntmps28
        go_wp2_with (first | ((with_reducible refine wpList_load_by (o := ⟨some 12, .load 24 (.tmp 3), _, _, _, _⟩) ?e1 24 (.tmp 3) ?e2 ⟨w.heap.size, 0, none⟩ ?e3 _ LA.out ?_); (case e1 => rfl); (case e2 => rfl); (case e3 => rfl)))
        refine HM.out.mono ?_
        rintro e w1 ⟨rfl, hb⟩
        have S01 := Lib.hid (S0.out.below hb S0.out.lt)
        have I11 := Lib.hid (I1.out.below hb I1.out.lt)
        have S21 := Lib.hid (S2.out.below hb S2.out.lt)
        have B1 := Lib.hid (HB.out.trans (hb.mono HB.out.size))
        clear hb
        go_wp2_with fail
        refine (HR.out _).mono ?_
        rintro e w2 ⟨rfl, hb⟩
        have S02 := Lib.hid (S01.out.below hb S01.out.lt)
        have I12 := Lib.hid (I11.out.below hb I11.out.lt)
        have S22 := Lib.hid (S21.out.below hb S21.out.lt)
        have B2 := Lib.hid (B1.out.trans (hb.mono B1.out.size))
        clear hb
        have LB := Lib.hid S02.out.load
        have LI := Lib.hid (load_arr16 I12.out)
        have HF := Lib.hid (bfind_any b z w2 (H1.out.below B2.out (Nat.le_refl _)) HZ.out.1 HZ.out.2 HSM.out)
        unfold BFindPost at HF
        rw [HIS.out] at HF
        go_wp2_with (first | ((with_reducible refine wpList_load_by (o := ⟨some 22, .load 24 (.tmp 3), _, _, _, _⟩) ?e1 24 (.tmp 3) ?e2 ⟨w.heap.size, 0, none⟩ ?e3 _ LB.out ?_); (case e1 => rfl); (case e2 => rfl); (case e3 => rfl)) | ((with_reducible refine wpList_load_by (o := ⟨some 23, .load 26 (.tmp 4), _, _, _, _⟩) ?e1 26 (.tmp 4) ?e2 ⟨(w.heap.size + 1), 0, none⟩ ?e3 _ LI.out ?_); (case e1 => rfl); (case e2 => rfl); (case e3 => rfl)))
        refine HF.out.mono ?_
        rintro e w3 ⟨y, rfl, hyR, hy, hb⟩
        have S03 := Lib.hid (S02.out.below hb S02.out.lt)
        have I13 := Lib.hid (I12.out.below hb I12.out.lt)
        have S23 := Lib.hid (S22.out.below hb S22.out.lt)
        have B3 := Lib.hid (B2.out.trans (hb.mono B2.out.size))
        clear hb
        have ZY := Lib.hid hy.len
        clear hyR hy
        go_wp2_with (first | ((with_reducible refine wpList_store_newx (o := ⟨none, .store 33 (.tmp 8) (.tmp 25), _, _, _, _⟩) (w := w3) ?e1 (.tmp 8) (.tmp 25) ?e2 w3.heap.size ?e0 ?e3 y ?e4 ZY.out ?_); (case e1 => rfl); (case e2 => rfl); (case e0 => rfl); (case e3 => rfl); (case e4 => rfl); intro w4 hb4 hx4 hs4; have S24x := Lib.hid (S23.out.below hb4 S23.out.lt); have S04 := Lib.hid (S03.out.below hb4 S03.out.lt); have I14 := Lib.hid (I13.out.below hb4 I13.out.lt); have S24 := Lib.hid (S23.out.below hb4 S23.out.lt); have B4 := Lib.hid (B3.out.trans (hb4.mono B3.out.size)); clear hb4; clear hx4 hs4) | ((with_reducible refine wpList_store_oldb (o := ⟨none, .store 24 (.tmp 6) (.tmp 29), _, _, _, _⟩) ?e1 (.tmp 6) (.tmp 29) ?e2 (w.heap.size + 1 + 1) _ S24.out ?e3 (.slice none 0 0) ?e4 ?e5 ?_); (case e1 => rfl); (case e2 => rfl); (case e3 => rfl); (case e4 => rfl); (case e5 => rfl); intro w2 hg2 hx2; have G9 := Lib.hid hg2; have X9 := Lib.hid hx2; clear hg2 hx2))
        refine bodyPost_ret (v := .tuple #[.agg #[.slice none 0 0], .int .i64 6]) ?_ rfl ?_
        · exact res_bk2 Tryz.results28 rfl X9.out
        · rw [HE.out]
          exact ⟨bk0, rfl, rfl, BkAt.zero _, B4.out.grown G9.out B4.out.size (fun k e => by have := Option.some.inj e; omega)⟩
      · have HIS := Lib.hid his
        have HEE : bkill b.rs z q = if (bnext b.rs q).2.2 = 0 then bjE b.rs [krec z (bnext b.rs q)] else ((bnext b.rs q).2.2, []) := by unfold bkill; rw [hm, hq, if_pos (by rfl), his, if_pos rfl]
        clear hm hq his HTT
        generalize bnext b.rs q = t at *
        by_cases t4 : t.2.2 = 0
        · rw [if_pos t4] at HEE
          have HE := Lib.hid HEE
          obtain ⟨r, hr⟩ : ∃ r, bjE b.rs [krec z t] = r := ⟨_, rfl⟩
          have HRR : Hid (bjE b.rs [(⟨krec z t, none, 0⟩ : RcA).R] = r) := Lib.hid hr
          rw [hr] at HE
          clear HEE hr
          go_enter Tryz.func28, Tryz.ntmps28
          go_wp2_with (first | ((with_reducible refine wpList_load_by (o := ⟨some 12, .load 24 (.tmp 3), _, _, _, _⟩) ?e1 24 (.tmp 3) ?e2 ⟨w.heap.size, 0, none⟩ ?e3 _ LA.out ?_); (case e1 => rfl); (case e2 => rfl); (case e3 => rfl)))
          refine HM.out.mono ?_
          rintro e w1 ⟨rfl, hb⟩
          have S01 := Lib.hid (S0.out.below hb S0.out.lt)
          have I11 := Lib.hid (I1.out.below hb I1.out.lt)
          have S21 := Lib.hid (S2.out.below hb S2.out.lt)
          have B1 := Lib.hid (HB.out.trans (hb.mono HB.out.size))
          clear hb
          go_wp2_with fail
          refine (HR.out _).mono ?_
          rintro e w2 ⟨rfl, hb⟩
          have S02 := Lib.hid (S01.out.below hb S01.out.lt)
          have I12 := Lib.hid (I11.out.below hb I11.out.lt)
          have S22 := Lib.hid (S21.out.below hb S21.out.lt)
          have B2 := Lib.hid (B1.out.trans (hb.mono B1.out.size))
          clear hb
          have LB := Lib.hid S02.out.load
          have LI := Lib.hid (load_arr16 I12.out)
          have HF := Lib.hid (bfind_any b z w2 (H1.out.below B2.out (Nat.le_refl _)) HZ.out.1 HZ.out.2 HSM.out)
          unfold BFindPost at HF
          rw [HIS.out] at HF
          go_wp2_with (first | ((with_reducible refine wpList_load_by (o := ⟨some 22, .load 24 (.tmp 3), _, _, _, _⟩) ?e1 24 (.tmp 3) ?e2 ⟨w.heap.size, 0, none⟩ ?e3 _ LB.out ?_); (case e1 => rfl); (case e2 => rfl); (case e3 => rfl)) | ((with_reducible refine wpList_load_by (o := ⟨some 23, .load 26 (.tmp 4), _, _, _, _⟩) ?e1 26 (.tmp 4) ?e2 ⟨(w.heap.size + 1), 0, none⟩ ?e3 _ LI.out ?_); (case e1 => rfl); (case e2 => rfl); (case e3 => rfl)))
          refine HF.out.mono ?_
          rintro e w3 ⟨y, rfl, hyR, hy, hb⟩
          have S03 := Lib.hid (S02.out.below hb S02.out.lt)
          have I13 := Lib.hid (I12.out.below hb I12.out.lt)
          have S23 := Lib.hid (S22.out.below hb S22.out.lt)
          have B3 := Lib.hid (B2.out.trans (hb.mono B2.out.size))
          clear hb
          have ZY := Lib.hid hy.len
          clear hyR hy
          go_wp2_with (first | ((with_reducible refine wpList_store_newx (o := ⟨none, .store 33 (.tmp 8) (.tmp 25), _, _, _, _⟩) (w := w3) ?e1 (.tmp 8) (.tmp 25) ?e2 w3.heap.size ?e0 ?e3 y ?e4 ZY.out ?_); (case e1 => rfl); (case e2 => rfl); (case e0 => rfl); (case e3 => rfl); (case e4 => rfl); intro w4 hb4 hx4 hs4; have S24x := Lib.hid (S23.out.below hb4 S23.out.lt); have S04 := Lib.hid (S03.out.below hb4 S03.out.lt); have I14 := Lib.hid (I13.out.below hb4 I13.out.lt); have S24 := Lib.hid (S23.out.below hb4 S23.out.lt); have B4 := Lib.hid (B3.out.trans (hb4.mono B3.out.size)); clear hb4; have LC := Lib.hid S04.out.load; have HL := Lib.hid (blast_any b w4 (H1.out.below B4.out (Nat.le_refl _))); unfold st at HL; clear hx4 hs4) | ((with_reducible refine wpList_load_by (o := ⟨some 31, .load 24 (.tmp 3), _, _, _, _⟩) ?e1 24 (.tmp 3) ?e2 ⟨w.heap.size, 0, none⟩ ?e3 _ LC.out ?_); (case e1 => rfl); (case e2 => rfl); (case e3 => rfl)))
          refine HL.out.mono ?_
          rintro e w5 ⟨rfl, hb⟩
          have S05 := Lib.hid (S04.out.below hb S04.out.lt)
          have I15 := Lib.hid (I14.out.below hb I14.out.lt)
          have S25 := Lib.hid (S24.out.below hb S24.out.lt)
          have B5 := Lib.hid (B4.out.trans (hb.mono B4.out.size))
          clear hb
          go_wp2_with fail
          refine (HN.out _).mono ?_
          rintro e w6 ⟨rfl, hb⟩
          have S06 := Lib.hid (S05.out.below hb S05.out.lt)
          have I16 := Lib.hid (I15.out.below hb I15.out.lt)
          have S26 := Lib.hid (S25.out.below hb S25.out.lt)
          have B6 := Lib.hid (B5.out.trans (hb.mono B5.out.size))
          clear hb
          have BS := (Below.refl w6.heap.size w6).alloc (Nat.le_refl _) (.cells #[.int .i64 t.1, .int .i64 t.2.1] 30)
          have L41 := Lib.hid (S06.out.below BS S06.out.lt).load
          have L42 := Lib.hid (load_arr16 (I16.out.below BS I16.out.lt))
          have hbz := build_zd HZ.out.1
          have S07 := Lib.hid (S06.out.below BS S06.out.lt)
          have I17 := Lib.hid (I16.out.below BS I16.out.lt)
          have S27 := Lib.hid (S26.out.below BS S26.out.lt)
          have B7 := Lib.hid (B6.out.trans (BS.mono B6.out.size))
          clear BS
          have HXV : RvAt (w6.alloc (.cells #[.int .i64 t.1, .int .i64 t.2.1] 30)) ⟨krec z t, none, 0⟩ := ⟨⟨HZ.out.1, HZ.out.2⟩, FsAt.nil _ _ _ (show 0 ≤ maxLen by decide) (fun _ => rfl)⟩
          have HW := with_any b ⟨krec z t, none, 0⟩ _ (HLA.out _ B7.out) (H1.out.below B7.out (Nat.le_refl _)) HXV
          unfold BJoinPost at HW
          rw [HRR.out] at HW
          have HW2 := Lib.hid (show Calls Tryz.prog 54 #[.agg #[.slice b.A b.xs.length b.c], .agg (rcells z t.1 t.2.1 (.slice none 0 0))] _ _ from HW)
          clear HXV HW
          go_wp2_with (first | ((with_reducible refine wpList_load_by (o := ⟨some 41, .load 24 (.tmp 3), _, _, _, _⟩) ?e1 24 (.tmp 3) ?e2 ⟨w.heap.size, 0, none⟩ ?e3 _ L41.out ?_); (case e1 => rfl); (case e2 => rfl); (case e3 => rfl)) | ((with_reducible refine wpList_load_by (o := ⟨some 42, .load 26 (.tmp 4), _, _, _, _⟩) ?e1 26 (.tmp 4) ?e2 ⟨(w.heap.size + 1), 0, none⟩ ?e3 _ L42.out ?_); (case e1 => rfl); (case e2 => rfl); (case e3 => rfl)) | ((with_reducible refine wpList_build_by (o := ⟨some 44, .build 33 #[(0, .tmp 42), (1, .tmp 43)], _, _, _, _⟩) ?e1 33 #[(0, .tmp 42), (1, .tmp 43)] ?e2 #[(0, .agg (bvals z)), (1, .agg #[.int .i64 t.1, .int .i64 t.2.1])] ?e3 _ (hbz _ _ _) ?_); (case e1 => rfl); (case e2 => rfl); (case e3 => (simp only [List.map_toArray, List.map_cons, List.map_nil]; rfl))))
          refine HW2.out.mono ?_
          rintro e w8 ⟨d, rfl, hd, hk, hb⟩
          have HD := Lib.hid hd
          have HK := Lib.hid hk
          clear hd hk
          have S08 := Lib.hid (S07.out.below hb S07.out.lt)
          have I18 := Lib.hid (I17.out.below hb I17.out.lt)
          have S28 := Lib.hid (S27.out.below hb S27.out.lt)
          have B8 := Lib.hid (B7.out.trans (hb.mono B7.out.size))
          clear hb
          go_wp2_with (first | ((with_reducible refine wpList_store_oldb (o := ⟨none, .store 24 (.tmp 6) (.tmp 46), _, _, _, _⟩) ?e1 (.tmp 6) (.tmp 46) ?e2 (w.heap.size + 1 + 1) _ S28.out ?e3 (.slice d.A d.xs.length d.c) ?e4 ?e5 ?_); (case e1 => rfl); (case e2 => rfl); (case e3 => rfl); (case e4 => rfl); (case e5 => rfl); intro w2 hg2 hx2; have G9 := Lib.hid hg2; have X9 := Lib.hid hx2; clear hg2 hx2))
          refine bodyPost_ret (v := .tuple #[.agg #[.slice d.A d.xs.length d.c], .int .i64 r.1]) ?_ rfl ?_
          · exact res_bk2 Tryz.results28 rfl X9.out
          · rw [HE.out]
            exact ⟨d, rfl, HD.out, HK.out.kept_bo G9.out S28.out, B8.out.grown G9.out B8.out.size (fun k e => by have := Option.some.inj e; omega)⟩
        · rw [if_neg t4] at HEE
          have HE := Lib.hid HEE
          clear HEE
          go_enter Tryz.func28, Tryz.ntmps28
          go_wp2_with (first | ((with_reducible refine wpList_load_by (o := ⟨some 12, .load 24 (.tmp 3), _, _, _, _⟩) ?e1 24 (.tmp 3) ?e2 ⟨w.heap.size, 0, none⟩ ?e3 _ LA.out ?_); (case e1 => rfl); (case e2 => rfl); (case e3 => rfl)))
          refine HM.out.mono ?_
          rintro e w1 ⟨rfl, hb⟩
          have S01 := Lib.hid (S0.out.below hb S0.out.lt)
          have I11 := Lib.hid (I1.out.below hb I1.out.lt)
          have S21 := Lib.hid (S2.out.below hb S2.out.lt)
          have B1 := Lib.hid (HB.out.trans (hb.mono HB.out.size))
          clear hb
          go_wp2_with fail
          refine (HR.out _).mono ?_
          rintro e w2 ⟨rfl, hb⟩
          have S02 := Lib.hid (S01.out.below hb S01.out.lt)
          have I12 := Lib.hid (I11.out.below hb I11.out.lt)
          have S22 := Lib.hid (S21.out.below hb S21.out.lt)
          have B2 := Lib.hid (B1.out.trans (hb.mono B1.out.size))
          clear hb
          have LB := Lib.hid S02.out.load
          have LI := Lib.hid (load_arr16 I12.out)
          have HF := Lib.hid (bfind_any b z w2 (H1.out.below B2.out (Nat.le_refl _)) HZ.out.1 HZ.out.2 HSM.out)
          unfold BFindPost at HF
          rw [HIS.out] at HF
          go_wp2_with (first | ((with_reducible refine wpList_load_by (o := ⟨some 22, .load 24 (.tmp 3), _, _, _, _⟩) ?e1 24 (.tmp 3) ?e2 ⟨w.heap.size, 0, none⟩ ?e3 _ LB.out ?_); (case e1 => rfl); (case e2 => rfl); (case e3 => rfl)) | ((with_reducible refine wpList_load_by (o := ⟨some 23, .load 26 (.tmp 4), _, _, _, _⟩) ?e1 26 (.tmp 4) ?e2 ⟨(w.heap.size + 1), 0, none⟩ ?e3 _ LI.out ?_); (case e1 => rfl); (case e2 => rfl); (case e3 => rfl)))
          refine HF.out.mono ?_
          rintro e w3 ⟨y, rfl, hyR, hy, hb⟩
          have S03 := Lib.hid (S02.out.below hb S02.out.lt)
          have I13 := Lib.hid (I12.out.below hb I12.out.lt)
          have S23 := Lib.hid (S22.out.below hb S22.out.lt)
          have B3 := Lib.hid (B2.out.trans (hb.mono B2.out.size))
          clear hb
          have ZY := Lib.hid hy.len
          clear hyR hy
          go_wp2_with (first | ((with_reducible refine wpList_store_newx (o := ⟨none, .store 33 (.tmp 8) (.tmp 25), _, _, _, _⟩) (w := w3) ?e1 (.tmp 8) (.tmp 25) ?e2 w3.heap.size ?e0 ?e3 y ?e4 ZY.out ?_); (case e1 => rfl); (case e2 => rfl); (case e0 => rfl); (case e3 => rfl); (case e4 => rfl); intro w4 hb4 hx4 hs4; have S24x := Lib.hid (S23.out.below hb4 S23.out.lt); have S04 := Lib.hid (S03.out.below hb4 S03.out.lt); have I14 := Lib.hid (I13.out.below hb4 I13.out.lt); have S24 := Lib.hid (S23.out.below hb4 S23.out.lt); have B4 := Lib.hid (B3.out.trans (hb4.mono B3.out.size)); clear hb4; have LC := Lib.hid S04.out.load; have HL := Lib.hid (blast_any b w4 (H1.out.below B4.out (Nat.le_refl _))); unfold st at HL; clear hx4 hs4) | ((with_reducible refine wpList_load_by (o := ⟨some 31, .load 24 (.tmp 3), _, _, _, _⟩) ?e1 24 (.tmp 3) ?e2 ⟨w.heap.size, 0, none⟩ ?e3 _ LC.out ?_); (case e1 => rfl); (case e2 => rfl); (case e3 => rfl)))
          refine HL.out.mono ?_
          rintro e w5 ⟨rfl, hb⟩
          have S05 := Lib.hid (S04.out.below hb S04.out.lt)
          have I15 := Lib.hid (I14.out.below hb I14.out.lt)
          have S25 := Lib.hid (S24.out.below hb S24.out.lt)
          have B5 := Lib.hid (B4.out.trans (hb.mono B4.out.size))
          clear hb
          go_wp2_with fail
          refine (HN.out _).mono ?_
          rintro e w6 ⟨rfl, hb⟩
          have S06 := Lib.hid (S05.out.below hb S05.out.lt)
          have I16 := Lib.hid (I15.out.below hb I15.out.lt)
          have S26 := Lib.hid (S25.out.below hb S25.out.lt)
          have B6 := Lib.hid (B5.out.trans (hb.mono B5.out.size))
          clear hb
          have BS := (Below.refl w6.heap.size w6).alloc (Nat.le_refl _) (.cells #[.int .i64 t.1, .int .i64 t.2.1] 30)
          have S07 := Lib.hid (S06.out.below BS S06.out.lt)
          have I17 := Lib.hid (I16.out.below BS I16.out.lt)
          have S27 := Lib.hid (S26.out.below BS S26.out.lt)
          have B7 := Lib.hid (B6.out.trans (BS.mono B6.out.size))
          clear BS
          go_wp2_with (first | ((with_reducible refine wpList_store_oldb (o := ⟨none, .store 24 (.tmp 6) (.tmp 39), _, _, _, _⟩) ?e1 (.tmp 6) (.tmp 39) ?e2 (w.heap.size + 1 + 1) _ S27.out ?e3 (.slice none 0 0) ?e4 ?e5 ?_); (case e1 => rfl); (case e2 => rfl); (case e3 => rfl); (case e4 => rfl); (case e5 => rfl); intro w2 hg2 hx2; have G9 := Lib.hid hg2; have X9 := Lib.hid hx2; clear hg2 hx2))
          refine bodyPost_ret (v := .tuple #[.agg #[.slice none 0 0], .int .i64 t.2.2]) ?_ rfl ?_
          · exact res_bk2 Tryz.results28 rfl X9.out
          · rw [HE.out]
            exact ⟨bk0, rfl, rfl, BkAt.zero _, B7.out.grown G9.out B7.out.size (fun k e => by have := Option.some.inj e; omega)⟩
end Go.Proofs.YtcmknbdeafcknaaGreatDoor

