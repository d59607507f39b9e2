import Derived.Test.YtcmknbdeafcknaaGreatDoorBkMay
import Derived.Test.YtcmknbdeafcknaaGreatDoorBkGather
import Derived.Test.YtcmknbdeafcknaaGreatDoorBkRising
import Derived.Test.YtcmknbdeafcknaaGreatDoorGBkMath
/-
  What book.Join answers. Nothing that was there is written.
-/
namespace Go.Proofs.YtcmknbdeafcknaaGreatDoor
open Go.RowKit WM
set_option linter.unusedVariables false
set_option maxRecDepth 100000
theorem built_book (A : Option Addr) (l c : Nat) : Tryz.prog.built 24 [(0, .slice A l c)] = some #[.slice A l c] := by kernel_rfl
theorem built_book0 : Tryz.prog.built 24 [] = some #[.slice none 0 0] := by kernel_rfl
theorem build_book (A : Option Addr) (l c : Nat) (w : World) : (Instr.build 24 #[(0, .slice A l c)]).run Tryz.prog w = .ok (.agg #[.slice A l c]) w := run_build w _ _ _ (built_book A l c)
theorem build_book0 (w : World) : (Instr.build 24 #[]).run Tryz.prog w = .ok (.agg #[.slice none 0 0]) w := run_build w _ _ _ built_book0
theorem wpList_len_rs {w : World} {ops : Array Oper} {rest : List Oper} {o : Oper} {a : Act} {Q : Exit → Act → World → Prop} {b n : Nat} {es : List RcA} (hgd : o.guard = none) (m : Operand) (hop : o.op = .call { callee := .builtin .len, args := #[m], argTypes := #[66] })
    (hm : a.eval m = .map (some b)) (h : MRs w b n es) (hK : wpList Tryz.prog ops Q rest (a.put o.dst (.int .i64 es.length)) w) : wpList Tryz.prog ops Q (o :: rest) a w := by
  obtain ⟨D, h1, h2, _⟩ := h
  refine wpList_len_own _ hgd m _ hop 26 33 Tryz.underlying66 heldR b n D hm h1 ?_
  rw [h2]
  exact hK
def BJoinPost (w : World) (r : Int × List Rc) (e : Ending) (w' : World) : Prop := ∃ d : Bk, e = .returned (.tuple #[.agg #[.slice d.A d.xs.length d.c], .int .i64 r.1]) ∧ d.rs = r.2 ∧ BkAt w' d ∧ Below w.heap.size w w'
set_option maxHeartbeats 8000000 in
theorem bjoin_any (a b : Bk) (w : World) (hlaid : Laid w) (h1 : BkAt w a) (h2 : BkAt w b) :
    Calls Tryz.prog 15 #[.agg #[.slice a.A a.xs.length a.c], .agg #[.slice b.A b.xs.length b.c]] w (BJoinPost w (bjE a.rs b.rs)) := by
  have HLA := Lib.hid (fun (X : World) (hX : Below w.heap.size w X) => hlaid.below hX (Nat.le_refl _))
  have s0 := ((BoAt.new w (.slice a.A a.xs.length a.c)).old (.cells #[.slice b.A b.xs.length b.c] 24)).old (.cells #[.slice none 0 0] 24)
  have s1 := (BoAt.new (w.alloc (.cells #[.slice a.A a.xs.length a.c] 24)) (.slice b.A b.xs.length b.c)).old (.cells #[.slice none 0 0] 24)
  rw [World.size_alloc] at s1
  have s2 := BoAt.new ((w.alloc (.cells #[.slice a.A a.xs.length a.c] 24)).alloc (.cells #[.slice b.A b.xs.length b.c] 24)) (.slice none 0 0)
  rw [World.size_alloc, World.size_alloc] at s2
  have S0 := Lib.hid s0
  have S1 := Lib.hid s1
  have S2 := Lib.hid s2
  have HB := Lib.hid ((((Below.refl w.heap.size w).alloc (Nat.le_refl _) (.cells #[.slice a.A a.xs.length a.c] 24)).alloc (by simp) (.cells #[.slice b.A b.xs.length b.c] 24)).alloc (by simp; omega) (.cells #[.slice none 0 0] 24))
  have LA := Lib.hid S0.out.load
  have HM1 := Lib.hid (bmay_any a _ (h1.below HB.out (Nat.le_refl _)))
  have H1 := Lib.hid h1
  have H2 := Lib.hid h2
  have hz : ∀ w : World, (zeroValue 24).run Tryz.prog w = .ok (.agg #[.slice none 0 0]) w := zeroBook
  have hb0 := build_book0
  have hb1 := build_book
  clear s0 s1 s2 h1 h2
  cases ma : bmay a.rs
  · have HE := Lib.hid (bjE_no (a := a.rs) (b := b.rs) (by rw [ma]; rfl))
    rw [ma] at HM1
    clear ma
    go_enter Tryz.func15, Tryz.ntmps15
    go_wp2_with (first | ((with_reducible refine wpList_load_by (o := ⟨some 7, .load 24 (.tmp 2), _, _, _, _⟩) ?e1 24 (.tmp 2) ?e2 ⟨w.heap.size, 0, none⟩ ?e3 _ LA.out ?_); (case e1 => rfl); (case e2 => rfl); (case e3 => rfl)))
    refine HM1.out.mono ?_
    rintro e w1 ⟨rfl, hb⟩
    have T0 := Lib.hid (S0.out.below hb S0.out.lt)
    have T1 := Lib.hid (S1.out.below hb S1.out.lt)
    have T2 := Lib.hid (S2.out.below hb S2.out.lt)
    have B1 := Lib.hid (HB.out.trans (hb.mono HB.out.size))
    clear hb
    go_wp2_with (first | ((with_reducible refine wpList_store_oldb (o := ⟨none, .store 24 (.tmp 4) (.tmp 15), _, _, _, _⟩) ?e1 (.tmp 4) (.tmp 15) ?e2 (w.heap.size + 1 + 1) _ T2.out ?e3 (.slice none 0 0) ?e4 ?e5 ?_); (case e1 => rfl); (case e2 => rfl); (case e3 => rfl); (case e4 => rfl); (case e5 => rfl); intro w2 hg2 hx2; have G9 := Lib.hid hg2; have X9 := Lib.hid hx2; clear hg2 hx2))
    refine bodyPost_ret (v := .tuple #[.agg #[.slice none 0 0], .int .i64 1]) ?_ rfl ?_
    · exact res_bk2 Tryz.results15 rfl X9.out
    · rw [HE.out]
      exact ⟨bk0, rfl, rfl, BkAt.zero _, B1.out.grown G9.out B1.out.size (fun k e => by have := Option.some.inj e; omega)⟩
  · rw [ma] at HM1
    cases mb : bmay b.rs
    · have HE := Lib.hid (bjE_no (a := a.rs) (b := b.rs) (by rw [mb, Bool.and_false]))
      have MB := Lib.hid mb
      clear ma mb
      go_enter Tryz.func15, Tryz.ntmps15
      go_wp2_with (first | ((with_reducible refine wpList_load_by (o := ⟨some 7, .load 24 (.tmp 2), _, _, _, _⟩) ?e1 24 (.tmp 2) ?e2 ⟨w.heap.size, 0, none⟩ ?e3 _ LA.out ?_); (case e1 => rfl); (case e2 => rfl); (case e3 => rfl)))
      refine HM1.out.mono ?_
      rintro e w1 ⟨rfl, hb⟩
      have T0 := Lib.hid (S0.out.below hb S0.out.lt)
      have T1 := Lib.hid (S1.out.below hb S1.out.lt)
      have T2 := Lib.hid (S2.out.below hb S2.out.lt)
      have B1 := Lib.hid (HB.out.trans (hb.mono HB.out.size))
      clear hb
      have LB := Lib.hid T1.out.load
      have HM2 := Lib.hid (bmay_any b w1 (H2.out.below B1.out (Nat.le_refl _)))
      rw [MB.out] at HM2
      go_wp2_with (first | ((with_reducible refine wpList_load_by (o := ⟨some 11, .load 24 (.tmp 3), _, _, _, _⟩) ?e1 24 (.tmp 3) ?e2 ⟨(w.heap.size + 1), 0, none⟩ ?e3 _ LB.out ?_); (case e1 => rfl); (case e2 => rfl); (case e3 => rfl)))
      refine HM2.out.mono ?_
      rintro e w2 ⟨rfl, hb⟩
      have U0 := Lib.hid (T0.out.below hb T0.out.lt)
      have U1 := Lib.hid (T1.out.below hb T1.out.lt)
      have U2 := Lib.hid (T2.out.below hb T2.out.lt)
      have B2 := Lib.hid (B1.out.trans (hb.mono B1.out.size))
      clear hb
      go_wp2_with (first | ((with_reducible refine wpList_store_oldb (o := ⟨none, .store 24 (.tmp 4) (.tmp 15), _, _, _, _⟩) ?e1 (.tmp 4) (.tmp 15) ?e2 (w.heap.size + 1 + 1) _ U2.out ?e3 (.slice none 0 0) ?e4 ?e5 ?_); (case e1 => rfl); (case e2 => rfl); (case e3 => rfl); (case e4 => rfl); (case e5 => rfl); intro w2 hg2 hx2; have G9 := Lib.hid hg2; have X9 := Lib.hid hx2; clear hg2 hx2))
      refine bodyPost_ret (v := .tuple #[.agg #[.slice none 0 0], .int .i64 1]) ?_ rfl ?_
      · exact res_bk2 Tryz.results15 rfl X9.out
      · rw [HE.out]
        exact ⟨bk0, rfl, rfl, BkAt.zero _, B2.out.grown G9.out B2.out.size (fun k e => by have := Option.some.inj e; omega)⟩
    · have MA := Lib.hid (bmay_iff.1 ma)
      have MB2 := Lib.hid (bmay_iff.1 mb)
      have MB := Lib.hid mb
      have HLE := Lib.hid (fun hl : 10 < (bjoin a.rs b.rs).length => bjE_large ma mb hl)
      have HYE := Lib.hid (fun hl : (bjoin a.rs b.rs).length ≤ 10 => bjE_yes ma mb hl)
      have la : a.xs.length ≤ 10 := by have := MA.out.1; unfold Bk.rs at this; rwa [List.length_map] at this
      have lb : b.xs.length ≤ 10 := by have := MB2.out.1; unfold Bk.rs at this; rwa [List.length_map] at this
      clear ma mb
      go_enter Tryz.func15, Tryz.ntmps15
      go_wp2_with (first | ((with_reducible refine wpList_load_by (o := ⟨some 7, .load 24 (.tmp 2), _, _, _, _⟩) ?e1 24 (.tmp 2) ?e2 ⟨w.heap.size, 0, none⟩ ?e3 _ LA.out ?_); (case e1 => rfl); (case e2 => rfl); (case e3 => rfl)))
      refine HM1.out.mono ?_
      rintro e w1 ⟨rfl, hb⟩
      have T0 := Lib.hid (S0.out.below hb S0.out.lt)
      have T1 := Lib.hid (S1.out.below hb S1.out.lt)
      have T2 := Lib.hid (S2.out.below hb S2.out.lt)
      have B1 := Lib.hid (HB.out.trans (hb.mono HB.out.size))
      clear hb
      have LB := Lib.hid T1.out.load
      have HM2 := Lib.hid (bmay_any b w1 (H2.out.below B1.out (Nat.le_refl _)))
      rw [MB.out] at HM2
      go_wp2_with (first | ((with_reducible refine wpList_load_by (o := ⟨some 11, .load 24 (.tmp 3), _, _, _, _⟩) ?e1 24 (.tmp 3) ?e2 ⟨(w.heap.size + 1), 0, none⟩ ?e3 _ LB.out ?_); (case e1 => rfl); (case e2 => rfl); (case e3 => rfl)))
      refine HM2.out.mono ?_
      rintro e w2 ⟨rfl, hb⟩
      have U0 := Lib.hid (T0.out.below hb T0.out.lt)
      have U1 := Lib.hid (T1.out.below hb T1.out.lt)
      have U2 := Lib.hid (T2.out.below hb T2.out.lt)
      have B2 := Lib.hid (B1.out.trans (hb.mono B1.out.size))
      clear hb
      have u0 := U0.out.c0
      have u1 := U1.out.c0
      have BA := (Below.refl w2.heap.size w2).alloc (Nat.le_refl _) (.cells #[.slice a.A a.xs.length a.c, .slice b.A b.xs.length b.c] 22)
      have HBA := Lib.hid (B2.out.trans (BA.mono B2.out.size))
      have hA := heap_alloc_new w2 (.cells #[.slice a.A a.xs.length a.c, .slice b.A b.xs.length b.c] 22)
      have hA0 : (w2.alloc (.cells #[.slice a.A a.xs.length a.c, .slice b.A b.xs.length b.c] 22)).cell? ⟨w2.heap.size, 0, none⟩ = some (.slice a.A a.xs.length a.c) := by rw [cell_of_row _ _ _ _ _ _ hA]; rfl
      have hA1 : (w2.alloc (.cells #[.slice a.A a.xs.length a.c, .slice b.A b.xs.length b.c] 22)).cell? ⟨w2.heap.size, 1, none⟩ = some (.slice b.A b.xs.length b.c) := by rw [cell_of_row _ _ _ _ _ _ hA]; rfl
      have HCC := Lib.hid (bconcat_any w2.heap.size a.A b.A a.xs.length b.xs.length a.c b.c a.xs b.xs _ (by rw [World.size_alloc]; omega) hA0 hA1 rfl rfl (H1.out.below HBA.out (Nat.le_refl _)) (H2.out.below HBA.out (Nat.le_refl _)) (by omega))
      unfold ConcatPostB at HCC
      have V2A := Lib.hid (U2.out.below BA U2.out.lt)
      clear BA hA hA0 hA1
      go_wp2_with fail
      refine HCC.out.mono ?_
      rintro e w3 ⟨A3, n3, c3, rfl, hn3, hr3, hb⟩
      have B3 := Lib.hid (HBA.out.trans (hb.mono HBA.out.size))
      have V3 := Lib.hid (V2A.out.below hb V2A.out.lt)
      have HG := Lib.hid (bgather_any A3 n3 c3 (a.xs ++ b.xs) w3 (HLA.out _ B3.out) hn3 (by rw [← hn3, List.length_append]; omega) hr3 (fun x hx => by
        rcases List.mem_append.1 hx with hx | hx
        · exact MA.out.2.1 _ (List.mem_map_of_mem hx)
        · exact MB2.out.2.1 _ (List.mem_map_of_mem hx)))
      unfold BGatherPost at HG
      clear hb hr3 u0 u1
      go_wp2_with fail
      refine HG.out.mono ?_
      rintro e w4 ⟨bm, nn, es, rfl, hbm, hM, heq, hb⟩
      have B4 := Lib.hid (B3.out.trans (hb.mono B3.out.size))
      have V4 := Lib.hid (V3.out.below hb V3.out.lt)
      have HM4 := Lib.hid hM
      have HEQ : Hid (es.map (·.R) = (a.rs ++ b.rs).foldl mput []) := Lib.hid (by rw [heq, List.map_append]; rfl)
      have HK4 : Hid (∀ ys : List Rc, ys.Perm (es.map (·.R)) → Rise ys → ys = bjoin a.rs b.rs) := Lib.hid fun ys hp hr => sorted_join (by rw [← HEQ.out]; exact hp) hr
      have HLN : Hid (es.length = (bjoin a.rs b.rs).length) := Lib.hid (by
        have hk : Keys1 (es.map (·.R)) := by rw [HEQ.out]; exact mfold_keys _ _ List.nodup_nil
        obtain ⟨ys, hp, hr⟩ := sortable (es.map (·.R)) hk
        rw [← HK4.out ys hp hr, hp.length_eq, List.length_map])
      have HR5 := Lib.hid (brising_any bm nn es w4 hM)
      clear hb hM heq hbm
      by_cases hl : es.length ≤ 10
      · have t1 : ¬ 10 < (es.length : Int) := by omega
        have HE := Lib.hid (HYE.out (by rw [← HLN.out]; exact hl))
        have HR := Lib.hid (HR5.out hl)
        unfold RisingPost at HR
        clear hl
        go_wp2_with (first | ((with_reducible refine wpList_len_rs (o := ⟨some 24, .call { callee := .builtin .len, args := #[.tmp 23], argTypes := #[66] }, _, _, _, _⟩) ?e1 (.tmp 23) ?e2 ?e3 HM4.out ?_); (case e1 => rfl); (case e2 => rfl); (case e3 => rfl)))
        refine HR.out.mono ?_
        rintro e w5 ⟨A5, n5, c5, ys, rfl, hn5, hr5, hp5, hs5, hb⟩
        have B5 := Lib.hid (B4.out.trans (hb.mono B4.out.size))
        have V5 := Lib.hid (V4.out.below hb V4.out.lt)
        have HD : Hid (BkAt w5 ⟨ys, A5, c5⟩) := Lib.hid hr5
        have HYS := Lib.hid (HK4.out _ hp5 hs5)
        have HN5 := Lib.hid hn5
        clear hb hr5 hp5 hs5 hn5
        go_wp2_with (first | ((with_reducible refine wpList_store_oldb (o := ⟨none, .store 24 (.tmp 4) (.tmp 29), _, _, _, _⟩) ?e1 (.tmp 4) (.tmp 29) ?e2 (w.heap.size + 1 + 1) _ V5.out ?e3 (.slice A5 n5 c5) ?e4 ?e5 ?_); (case e1 => rfl); (case e2 => rfl); (case e3 => rfl); (case e4 => rfl); (case e5 => rfl); intro w2 hg2 hx2; have G9 := Lib.hid hg2; have X9 := Lib.hid hx2; clear hg2 hx2))
        refine bodyPost_ret (v := .tuple #[.agg #[.slice A5 n5 c5], .int .i64 0]) ?_ rfl ?_
        · exact res_bk2 Tryz.results15 rfl X9.out
        · rw [HE.out]
          refine ⟨⟨ys, A5, c5⟩, by rw [← HN5.out], HYS.out, HD.out.kept_bo G9.out V5.out, B5.out.grown G9.out B5.out.size (fun k e => by have := Option.some.inj e; omega)⟩
      · have t1 : 10 < (es.length : Int) := by omega
        have HE := Lib.hid (HLE.out (by rw [← HLN.out]; omega))
        clear hl HR5
        go_wp2_with (first | ((with_reducible refine wpList_len_rs (o := ⟨some 24, .call { callee := .builtin .len, args := #[.tmp 23], argTypes := #[66] }, _, _, _, _⟩) ?e1 (.tmp 23) ?e2 ?e3 HM4.out ?_); (case e1 => rfl); (case e2 => rfl); (case e3 => rfl)) | ((with_reducible refine wpList_store_oldb (o := ⟨none, .store 24 (.tmp 4) (.tmp 26), _, _, _, _⟩) ?e1 (.tmp 4) (.tmp 26) ?e2 (w.heap.size + 1 + 1) _ V4.out ?e3 (.slice none 0 0) ?e4 ?e5 ?_); (case e1 => rfl); (case e2 => rfl); (case e3 => rfl); (case e4 => rfl); (case e5 => rfl); intro w2 hg2 hx2; have G9 := Lib.hid hg2; have X9 := Lib.hid hx2; clear hg2 hx2))
        refine bodyPost_ret (v := .tuple #[.agg #[.slice none 0 0], .int .i64 4]) ?_ rfl ?_
        · exact res_bk2 Tryz.results15 rfl X9.out
        · rw [HE.out]
          exact ⟨bk0, rfl, rfl, BkAt.zero _, B4.out.grown G9.out B4.out.size (fun k e => by have := Option.some.inj e; omega)⟩
end Go.Proofs.YtcmknbdeafcknaaGreatDoor

