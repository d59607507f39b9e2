/-
  The law StampBytes: for every two stamps it answers true, and nothing that was there is written.
-/
import Derived.Test.YtomlckefkamdgaaStAwake
import Derived.Test.YtomlckefkamdgaaEncOrder
namespace Go.Proofs.Ytomlckefkamdgaa
open Go.RowKit WM
set_option linter.unusedVariables false
theorem st_order {n r m s : Int} (h1 : may n r = true) (h2 : may m s = true) : stLess n r m s = decide (n * 8 + r < m * 8 + s) := by
  have a := may_iff.1 h1
  have b := may_iff.1 h2
  rw [stLess, decide_eq_decide]
  omega
theorem putPost_any {w : World} {n r : Int} (e : Ending) (w' : World) (h : StPutPost w n r e w') : ∃ v z, e = .returned (.tuple #[v, .bool z]) ∧ Below w.heap.size w w' := by
  unfold StPutPost at h
  split at h
  · obtain ⟨A, n, c, rfl, _, _, _, _, hb⟩ := h
    exact ⟨_, _, rfl, hb⟩
  · obtain ⟨rfl, hb⟩ := h
    exact ⟨_, _, rfl, hb⟩
set_option maxHeartbeats 4000000 in
theorem walk_stampBytes (n r m s : Int) (w : World) (hn : (Lit.int .i64 n).wf = true) (hr : (Lit.int .i64 r).wf = true) (hm : (Lit.int .i64 m).wf = true) (hs : (Lit.int .i64 s).wf = true) :
    Calls Try.prog 8 #[st n r, st m s] w fun e w' => e = .returned (.bool true) ∧ Below w.heap.size w w' := by
  have HP1 := Lib.hid (stPut_any n r)
  have HP2 := Lib.hid (stPut_any m s)
  have HL := Lib.hid (stLess_any n r m s)
  clear hn hr hm hs
  cases h1 : may n r
  · have H3 := Lib.hid (fun (w : World) => putPost_any (w := w) (n := m) (r := s))
    unfold StPutPost at HP1
    rw [h1] at HP1
    simp only [Bool.false_eq_true, if_false] at HP1
    unfold st at HP1 HP2 HL ⊢
    clear h1
    have B0 := Lib.hid (Below.refl w.heap.size w)
    have T2n := StAt.new w n r
    have T2 := Lib.hid (T2n)
    clear T2n
    have B1 := Lib.hid (B0.out.alloc B0.out.size (.cells #[.int .i64 n, .int .i64 r] 33))
    have T2' := Lib.hid (T2.out.old (.cells #[.int .i64 m, .int .i64 s] 33))
    have T3n := StAt.new (w.alloc (.cells #[.int .i64 n, .int .i64 r] 33)) m s
    simp only [World.size_alloc] at T3n
    have T3 := Lib.hid (T3n)
    clear T3n
    have B2 := Lib.hid (B1.out.alloc B1.out.size (.cells #[.int .i64 m, .int .i64 s] 33))
    go_enter Try.func8, Try.ntmps8
    go_wp2_with fail
    refine (stAwake _).mono ?_
    rintro e w1 ⟨rfl, hb⟩
    have T2_1 := Lib.hid (T2'.out.below hb T2'.out.lt)
    have T3_1 := Lib.hid (T3.out.below hb T3.out.lt)
    have B3 := Lib.hid (B2.out.trans (hb.mono B2.out.size))
    clear hb
    have c20 := T2_1.out.c0
    have c21 := T2_1.out.c1
    have c30 := T3_1.out.c0
    have c31 := T3_1.out.c1
    go_wp2_with fail
    refine (HP1.out _).mono ?_
    rintro e w2 ⟨rfl, hb⟩
    have T2_2 := Lib.hid (T2_1.out.below hb T2_1.out.lt)
    have T3_2 := Lib.hid (T3_1.out.below hb T3_1.out.lt)
    have B4 := Lib.hid (B3.out.trans (hb.mono B3.out.size))
    clear hb
    clear c20 c21 c30 c31
    have c20 := T2_2.out.c0
    have c21 := T2_2.out.c1
    have c30 := T3_2.out.c0
    have c31 := T3_2.out.c1
    go_wp2_with fail
    refine (HP2.out _).mono ?_
    intro e w3 h3
    obtain ⟨v3, z3, rfl, hb⟩ := H3.out _ e w3 h3
    clear h3
    have b3 := B4.out.trans (hb.mono B4.out.size)
    go_wp2
    go_ret
    exact ⟨rfl, b3⟩
  · unfold StPutPost at HP1
    rw [h1] at HP1
    simp only [if_true] at HP1
    cases h2 : may m s
    · unfold StPutPost at HP2
      rw [h2] at HP2
      simp only [Bool.false_eq_true, if_false] at HP2
      unfold st at HP1 HP2 HL ⊢
      clear h1 h2
      have B0 := Lib.hid (Below.refl w.heap.size w)
      have T2n := StAt.new w n r
      have T2 := Lib.hid (T2n)
      clear T2n
      have B1 := Lib.hid (B0.out.alloc B0.out.size (.cells #[.int .i64 n, .int .i64 r] 33))
      have T2' := Lib.hid (T2.out.old (.cells #[.int .i64 m, .int .i64 s] 33))
      have T3n := StAt.new (w.alloc (.cells #[.int .i64 n, .int .i64 r] 33)) m s
      simp only [World.size_alloc] at T3n
      have T3 := Lib.hid (T3n)
      clear T3n
      have B2 := Lib.hid (B1.out.alloc B1.out.size (.cells #[.int .i64 m, .int .i64 s] 33))
      go_enter Try.func8, Try.ntmps8
      go_wp2_with fail
      refine (stAwake _).mono ?_
      rintro e w1 ⟨rfl, hb⟩
      have T2_1 := Lib.hid (T2'.out.below hb T2'.out.lt)
      have T3_1 := Lib.hid (T3.out.below hb T3.out.lt)
      have B3 := Lib.hid (B2.out.trans (hb.mono B2.out.size))
      clear hb
      have c20 := T2_1.out.c0
      have c21 := T2_1.out.c1
      have c30 := T3_1.out.c0
      have c31 := T3_1.out.c1
      go_wp2_with fail
      refine (HP1.out _).mono ?_
      rintro e w2 ⟨A, n1, c1, rfl, hn, hnc, hcm, hown, hb⟩
      have T2_2 := Lib.hid (T2_1.out.below hb T2_1.out.lt)
      have T3_2 := Lib.hid (T3_1.out.below hb T3_1.out.lt)
      have B4 := Lib.hid (B3.out.trans (hb.mono B3.out.size))
      clear hb
      clear hn hnc hcm hown
      clear c20 c21 c30 c31
      have c20 := T2_2.out.c0
      have c21 := T2_2.out.c1
      have c30 := T3_2.out.c0
      have c31 := T3_2.out.c1
      go_wp2_with fail
      refine (HP2.out _).mono ?_
      rintro e w3 ⟨rfl, hb⟩
      have T2_3 := Lib.hid (T2_2.out.below hb T2_2.out.lt)
      have T3_3 := Lib.hid (T3_2.out.below hb T3_2.out.lt)
      have B5 := Lib.hid (B4.out.trans (hb.mono B4.out.size))
      clear hb
      clear c20 c21 c30 c31
      go_wp2
      go_ret
      exact ⟨rfl, B5.out⟩
    · unfold StPutPost at HP2
      rw [h2] at HP2
      simp only [if_true] at HP2
      have a1 := may_iff.1 h1
      have a2 := may_iff.1 h2
      have hord := enc_order (n := n * 8 + r) (m := m * 8 + s) (by omega) (by omega) (by omega) (by omega)
      rw [← st_order h1 h2] at hord
      have hcm := str_less (enc_bytes (n * 8 + r)) (enc_bytes (m * 8 + s))
      have HB1 := Lib.hid (enc_bytes (n * 8 + r))
      unfold st at HP1 HP2 HL ⊢
      clear a1 a2 h1 h2
      generalize enc (n * 8 + r) = X1 at *
      generalize enc (m * 8 + s) = X2 at *
      by_cases hlen : X1.length < X2.length
      · rw [decide_eq_true hlen, Bool.true_or] at hord
        rw [← hord] at HL
        clear hcm hord
        have B0 := Lib.hid (Below.refl w.heap.size w)
        have T2n := StAt.new w n r
        have T2 := Lib.hid (T2n)
        clear T2n
        have B1 := Lib.hid (B0.out.alloc B0.out.size (.cells #[.int .i64 n, .int .i64 r] 33))
        have T2' := Lib.hid (T2.out.old (.cells #[.int .i64 m, .int .i64 s] 33))
        have T3n := StAt.new (w.alloc (.cells #[.int .i64 n, .int .i64 r] 33)) m s
        simp only [World.size_alloc] at T3n
        have T3 := Lib.hid (T3n)
        clear T3n
        have B2 := Lib.hid (B1.out.alloc B1.out.size (.cells #[.int .i64 m, .int .i64 s] 33))
        go_enter Try.func8, Try.ntmps8
        go_wp2_with fail
        refine (stAwake _).mono ?_
        rintro e w1 ⟨rfl, hb⟩
        have T2_1 := Lib.hid (T2'.out.below hb T2'.out.lt)
        have T3_1 := Lib.hid (T3.out.below hb T3.out.lt)
        have B3 := Lib.hid (B2.out.trans (hb.mono B2.out.size))
        clear hb
        have c20 := T2_1.out.c0
        have c21 := T2_1.out.c1
        have c30 := T3_1.out.c0
        have c31 := T3_1.out.c1
        go_wp2_with fail
        refine (HP1.out _).mono ?_
        rintro e w2 ⟨A1, n1, c1, rfl, hn1, hnc1, hcm1, hown1, hb⟩
        have T2_2 := Lib.hid (T2_1.out.below hb T2_1.out.lt)
        have T3_2 := Lib.hid (T3_1.out.below hb T3_1.out.lt)
        have B4 := Lib.hid (B3.out.trans (hb.mono B3.out.size))
        clear hb
        clear c20 c21 c30 c31
        have c20 := T2_2.out.c0
        have c21 := T2_2.out.c1
        have c30 := T3_2.out.c0
        have c31 := T3_2.out.c1
        have HY1 := Lib.hid (Byt.own (zs := X1) hown1)
        have HN1 := Lib.hid hn1
        clear hown1 hn1
        simp only [maxLen] at hcm1
        go_wp2_with fail
        refine (HP2.out _).mono ?_
        rintro e w3 ⟨A2, n2, c2, rfl, hn2, hnc2, hcm2, hown2, hb⟩
        have x1 := (HY1.out.below hb).text (P := Try.prog) (len := n1) (cap := c1) HN1.out 25 5 9 Try.underlying25 Try.underlying5 Try.underlying9
        have x2 := (Byt.own (zs := X2) hown2).text (P := Try.prog) (len := n2) (cap := c2) hn2 25 5 9 Try.underlying25 Try.underlying5 Try.underlying9
        have HN2 := Lib.hid hn2
        clear hown2 hn2
        simp only [maxLen] at hcm2
        have b3 := Lib.hid (B4.out.trans (hb.mono B4.out.size))
        have T2_3 := Lib.hid (T2_2.out.below hb T2_2.out.lt)
        have T3_3 := Lib.hid (T3_2.out.below hb T3_2.out.lt)
        clear hb
        clear c20 c21 c30 c31
        have c20 := T2_3.out.c0
        have c21 := T2_3.out.c1
        have c30 := T3_3.out.c0
        have c31 := T3_3.out.c1
        have hl : n1 < n2 := by rw [← HN1.out, ← HN2.out]; exact hlen
        generalize strOfNums X1 = Sa at *
        generalize strOfNums X2 = Sb at *
        go_wp2_with fail
        refine (HL.out _).mono ?_
        rintro e w4 ⟨rfl, hb⟩
        have b4 := b3.out.trans (hb.mono b3.out.size)
        go_wp2
        go_ret
        exact ⟨rfl, b4⟩
      · by_cases hlen : X1.length = X2.length
        · rw [decide_eq_false (by omega), decide_eq_true hlen, Bool.false_or, Bool.true_and] at hord
          rw [← hord] at HL
          clear hord
          have HCMP := Lib.hid hcm
          generalize lessL X1 X2 = zz at *
          clear hcm
          have B0 := Lib.hid (Below.refl w.heap.size w)
          have T2n := StAt.new w n r
          have T2 := Lib.hid (T2n)
          clear T2n
          have B1 := Lib.hid (B0.out.alloc B0.out.size (.cells #[.int .i64 n, .int .i64 r] 33))
          have T2' := Lib.hid (T2.out.old (.cells #[.int .i64 m, .int .i64 s] 33))
          have T3n := StAt.new (w.alloc (.cells #[.int .i64 n, .int .i64 r] 33)) m s
          simp only [World.size_alloc] at T3n
          have T3 := Lib.hid (T3n)
          clear T3n
          have B2 := Lib.hid (B1.out.alloc B1.out.size (.cells #[.int .i64 m, .int .i64 s] 33))
          go_enter Try.func8, Try.ntmps8
          go_wp2_with fail
          refine (stAwake _).mono ?_
          rintro e w1 ⟨rfl, hb⟩
          have T2_1 := Lib.hid (T2'.out.below hb T2'.out.lt)
          have T3_1 := Lib.hid (T3.out.below hb T3.out.lt)
          have B3 := Lib.hid (B2.out.trans (hb.mono B2.out.size))
          clear hb
          have c20 := T2_1.out.c0
          have c21 := T2_1.out.c1
          have c30 := T3_1.out.c0
          have c31 := T3_1.out.c1
          go_wp2_with fail
          refine (HP1.out _).mono ?_
          rintro e w2 ⟨A1, n1, c1, rfl, hn1, hnc1, hcm1, hown1, hb⟩
          have T2_2 := Lib.hid (T2_1.out.below hb T2_1.out.lt)
          have T3_2 := Lib.hid (T3_1.out.below hb T3_1.out.lt)
          have B4 := Lib.hid (B3.out.trans (hb.mono B3.out.size))
          clear hb
          clear c20 c21 c30 c31
          have c20 := T2_2.out.c0
          have c21 := T2_2.out.c1
          have c30 := T3_2.out.c0
          have c31 := T3_2.out.c1
          have HY1 := Lib.hid (Byt.own (zs := X1) hown1)
          have HN1 := Lib.hid hn1
          clear hown1 hn1
          simp only [maxLen] at hcm1
          go_wp2_with fail
          refine (HP2.out _).mono ?_
          rintro e w3 ⟨A2, n2, c2, rfl, hn2, hnc2, hcm2, hown2, hb⟩
          have x1 := (HY1.out.below hb).text (P := Try.prog) (len := n1) (cap := c1) HN1.out 25 5 9 Try.underlying25 Try.underlying5 Try.underlying9
          have x2 := (Byt.own (zs := X2) hown2).text (P := Try.prog) (len := n2) (cap := c2) hn2 25 5 9 Try.underlying25 Try.underlying5 Try.underlying9
          have HN2 := Lib.hid hn2
          clear hown2 hn2
          simp only [maxLen] at hcm2
          have b3 := Lib.hid (B4.out.trans (hb.mono B4.out.size))
          have T2_3 := Lib.hid (T2_2.out.below hb T2_2.out.lt)
          have T3_3 := Lib.hid (T3_2.out.below hb T3_2.out.lt)
          clear hb
          clear c20 c21 c30 c31
          have c20 := T2_3.out.c0
          have c21 := T2_3.out.c1
          have c30 := T3_3.out.c0
          have c31 := T3_3.out.c1
          obtain rfl : n1 = n2 := by rw [← HN1.out, ← HN2.out]; exact hlen
          have hcmp := HCMP.out
          generalize strOfNums X1 = Sa at *
          generalize strOfNums X2 = Sb at *
          go_wp2_with fail
          refine (HL.out _).mono ?_
          rintro e w4 ⟨rfl, hb⟩
          have b4 := b3.out.trans (hb.mono b3.out.size)
          go_wp2
          go_ret
          exact ⟨rfl, b4⟩
        · rw [decide_eq_false (by omega), decide_eq_false hlen, Bool.false_or, Bool.false_and] at hord
          rw [← hord] at HL
          clear hcm hord
          have B0 := Lib.hid (Below.refl w.heap.size w)
          have T2n := StAt.new w n r
          have T2 := Lib.hid (T2n)
          clear T2n
          have B1 := Lib.hid (B0.out.alloc B0.out.size (.cells #[.int .i64 n, .int .i64 r] 33))
          have T2' := Lib.hid (T2.out.old (.cells #[.int .i64 m, .int .i64 s] 33))
          have T3n := StAt.new (w.alloc (.cells #[.int .i64 n, .int .i64 r] 33)) m s
          simp only [World.size_alloc] at T3n
          have T3 := Lib.hid (T3n)
          clear T3n
          have B2 := Lib.hid (B1.out.alloc B1.out.size (.cells #[.int .i64 m, .int .i64 s] 33))
          go_enter Try.func8, Try.ntmps8
          go_wp2_with fail
          refine (stAwake _).mono ?_
          rintro e w1 ⟨rfl, hb⟩
          have T2_1 := Lib.hid (T2'.out.below hb T2'.out.lt)
          have T3_1 := Lib.hid (T3.out.below hb T3.out.lt)
          have B3 := Lib.hid (B2.out.trans (hb.mono B2.out.size))
          clear hb
          have c20 := T2_1.out.c0
          have c21 := T2_1.out.c1
          have c30 := T3_1.out.c0
          have c31 := T3_1.out.c1
          go_wp2_with fail
          refine (HP1.out _).mono ?_
          rintro e w2 ⟨A1, n1, c1, rfl, hn1, hnc1, hcm1, hown1, hb⟩
          have T2_2 := Lib.hid (T2_1.out.below hb T2_1.out.lt)
          have T3_2 := Lib.hid (T3_1.out.below hb T3_1.out.lt)
          have B4 := Lib.hid (B3.out.trans (hb.mono B3.out.size))
          clear hb
          clear c20 c21 c30 c31
          have c20 := T2_2.out.c0
          have c21 := T2_2.out.c1
          have c30 := T3_2.out.c0
          have c31 := T3_2.out.c1
          have HY1 := Lib.hid (Byt.own (zs := X1) hown1)
          have HN1 := Lib.hid hn1
          clear hown1 hn1
          simp only [maxLen] at hcm1
          go_wp2_with fail
          refine (HP2.out _).mono ?_
          rintro e w3 ⟨A2, n2, c2, rfl, hn2, hnc2, hcm2, hown2, hb⟩
          have x1 := (HY1.out.below hb).text (P := Try.prog) (len := n1) (cap := c1) HN1.out 25 5 9 Try.underlying25 Try.underlying5 Try.underlying9
          have x2 := (Byt.own (zs := X2) hown2).text (P := Try.prog) (len := n2) (cap := c2) hn2 25 5 9 Try.underlying25 Try.underlying5 Try.underlying9
          have HN2 := Lib.hid hn2
          clear hown2 hn2
          simp only [maxLen] at hcm2
          have b3 := Lib.hid (B4.out.trans (hb.mono B4.out.size))
          have T2_3 := Lib.hid (T2_2.out.below hb T2_2.out.lt)
          have T3_3 := Lib.hid (T3_2.out.below hb T3_2.out.lt)
          clear hb
          clear c20 c21 c30 c31
          have c20 := T2_3.out.c0
          have c21 := T2_3.out.c1
          have c30 := T3_3.out.c0
          have c31 := T3_3.out.c1
          have hl : ¬ n1 < n2 := by rw [← HN1.out, ← HN2.out]; omega
          have hl2 : ((n1 : Int) == (n2 : Int)) = false := by have a1 := HN1.out; have a2 := HN2.out; simp; omega
          generalize strOfNums X1 = Sa at *
          generalize strOfNums X2 = Sb at *
          go_wp2_with fail
          refine (HL.out _).mono ?_
          rintro e w4 ⟨rfl, hb⟩
          have b4 := b3.out.trans (hb.mono b3.out.size)
          go_wp2
          go_ret
          exact ⟨rfl, b4⟩
end Go.Proofs.Ytomlckefkamdgaa
