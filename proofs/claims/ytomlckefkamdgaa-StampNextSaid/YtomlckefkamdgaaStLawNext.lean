/-
  The law StampNext: for every stamp and every two replicas it answers true, and nothing that was there is written.
-/
import Derived.Test.YtomlckefkamdgaaStAwake
namespace Go.Proofs.Ytomlckefkamdgaa
open Go.RowKit WM
set_option linter.unusedVariables false
set_option maxHeartbeats 4000000 in
theorem walk_stampNext (n r a b : Int) (w : World) (hn : (Lit.int .i64 n).wf = true) (hr : (Lit.int .i64 r).wf = true) (ha : (Lit.int .i64 a).wf = true) (hb : (Lit.int .i64 b).wf = true) :
    Calls Try.prog 7 #[st n r, .int .i64 a, .int .i64 b] w fun e w' => e = .returned (.bool true) ∧ Below w.heap.size w w' := by
  have HX := Lib.hid (next_any n r a)
  have HZ := Lib.hid (next_any n r b)
  have HM := Lib.hid (may_any n r)
  clear hn hr ha hb
  cases hm : may n r
  · have e1 : nxt n r a = (0, 0, 1) := by simp [nxt, hm]
    have e2 : nxt n r b = (0, 0, 1) := by simp [nxt, hm]
    rw [e1] at HX
    rw [e2] at HZ
    rw [hm] at HM
    unfold nxtV at HX HZ
    unfold st at HX HZ HM ⊢
    clear e1 e2 hm
    have B0 := Lib.hid (Below.refl w.heap.size w)
    have T3n := StAt.new w n r
    have T3 := Lib.hid (T3n)
    clear T3n
    have B1 := Lib.hid (B0.out.alloc B0.out.size (.cells #[.int .i64 n, .int .i64 r] 33))
    go_enter Try.func7, Try.ntmps7
    go_wp2_with fail
    refine (stAwake _).mono ?_
    rintro e w1 ⟨rfl, hb⟩
    have T3_1 := Lib.hid (T3.out.below hb T3.out.lt)
    have B2 := Lib.hid (B1.out.trans (hb.mono B1.out.size))
    clear hb
    have c30 := T3_1.out.c0
    have c31 := T3_1.out.c1
    go_wp2_with fail
    refine (HX.out _).mono ?_
    rintro e w2 ⟨rfl, hb⟩
    have T3_2 := Lib.hid (T3_1.out.below hb T3_1.out.lt)
    have B3 := Lib.hid (B2.out.trans (hb.mono B2.out.size))
    clear hb
    clear c30 c31
    have T3_2' := Lib.hid (T3_2.out.old (.cells #[.int .i64 0, .int .i64 0] 33))
    have T8n := StAt.new w2 0 0
    have T8 := Lib.hid (T8n)
    clear T8n
    have B4 := Lib.hid (B3.out.alloc B3.out.size (.cells #[.int .i64 0, .int .i64 0] 33))
    have c30 := T3_2'.out.c0
    have c31 := T3_2'.out.c1
    have c80 := T8.out.c0
    have c81 := T8.out.c1
    go_wp2_with fail
    refine (HZ.out _).mono ?_
    rintro e w3 ⟨rfl, hb⟩
    have T3_3 := Lib.hid (T3_2'.out.below hb T3_2'.out.lt)
    have T8_3 := Lib.hid (T8.out.below hb T8.out.lt)
    have B5 := Lib.hid (B4.out.trans (hb.mono B4.out.size))
    clear hb
    clear c30 c31 c80 c81
    have T3_3' := Lib.hid (T3_3.out.old (.cells #[.int .i64 0, .int .i64 0] 33))
    have T8_3' := Lib.hid (T8_3.out.old (.cells #[.int .i64 0, .int .i64 0] 33))
    have T10n := StAt.new w3 0 0
    have T10 := Lib.hid (T10n)
    clear T10n
    have B6 := Lib.hid (B5.out.alloc B5.out.size (.cells #[.int .i64 0, .int .i64 0] 33))
    have c30 := T3_3'.out.c0
    have c31 := T3_3'.out.c1
    have c80 := T8_3'.out.c0
    have c81 := T8_3'.out.c1
    have c100 := T10.out.c0
    have c101 := T10.out.c1
    go_wp2_with fail
    refine (HM.out _).mono ?_
    rintro e w4 ⟨rfl, hb⟩
    have T3_4 := Lib.hid (T3_3'.out.below hb T3_3'.out.lt)
    have T8_4 := Lib.hid (T8_3'.out.below hb T8_3'.out.lt)
    have T10_4 := Lib.hid (T10.out.below hb T10.out.lt)
    have B7 := Lib.hid (B6.out.trans (hb.mono B6.out.size))
    clear hb
    clear c30 c31 c80 c81 c100 c101
    have c30 := T3_4.out.c0
    have c31 := T3_4.out.c1
    have c80 := T8_4.out.c0
    have c81 := T8_4.out.c1
    have c100 := T10_4.out.c0
    have c101 := T10_4.out.c1
    go_wp2
    go_ret
    exact ⟨rfl, B7.out⟩
  · rw [hm] at HM
    have hmay := may_iff.1 hm
    cases hq : mayR a
    · have e1 : nxt n r a = (0, 0, 1) := by simp [nxt, hq]
      have hq' : ¬ (0 ≤ a ∧ a < 8) := by unfold mayR at hq; simpa using hq
      rw [e1] at HX
      generalize nxt n r b = y at HZ
      obtain ⟨p, q, z⟩ := y
      unfold nxtV at HX HZ
      unfold st at HX HZ HM ⊢
      clear e1 hm hq hmay
      by_cases ha0 : a < 0
      · clear hq'
        have B0 := Lib.hid (Below.refl w.heap.size w)
        have T3n := StAt.new w n r
        have T3 := Lib.hid (T3n)
        clear T3n
        have B1 := Lib.hid (B0.out.alloc B0.out.size (.cells #[.int .i64 n, .int .i64 r] 33))
        go_enter Try.func7, Try.ntmps7
        go_wp2_with fail
        refine (stAwake _).mono ?_
        rintro e w1 ⟨rfl, hb⟩
        have T3_1 := Lib.hid (T3.out.below hb T3.out.lt)
        have B2 := Lib.hid (B1.out.trans (hb.mono B1.out.size))
        clear hb
        have c30 := T3_1.out.c0
        have c31 := T3_1.out.c1
        go_wp2_with fail
        refine (HX.out _).mono ?_
        rintro e w2 ⟨rfl, hb⟩
        have T3_2 := Lib.hid (T3_1.out.below hb T3_1.out.lt)
        have B3 := Lib.hid (B2.out.trans (hb.mono B2.out.size))
        clear hb
        clear c30 c31
        have T3_2' := Lib.hid (T3_2.out.old (.cells #[.int .i64 0, .int .i64 0] 33))
        have T8n := StAt.new w2 0 0
        have T8 := Lib.hid (T8n)
        clear T8n
        have B4 := Lib.hid (B3.out.alloc B3.out.size (.cells #[.int .i64 0, .int .i64 0] 33))
        have c30 := T3_2'.out.c0
        have c31 := T3_2'.out.c1
        have c80 := T8.out.c0
        have c81 := T8.out.c1
        go_wp2_with fail
        refine (HZ.out _).mono ?_
        rintro e w3 ⟨rfl, hb⟩
        have T3_3 := Lib.hid (T3_2'.out.below hb T3_2'.out.lt)
        have T8_3 := Lib.hid (T8.out.below hb T8.out.lt)
        have B5 := Lib.hid (B4.out.trans (hb.mono B4.out.size))
        clear hb
        clear c30 c31 c80 c81
        have T3_3' := Lib.hid (T3_3.out.old (.cells #[.int .i64 p, .int .i64 q] 33))
        have T8_3' := Lib.hid (T8_3.out.old (.cells #[.int .i64 p, .int .i64 q] 33))
        have T10n := StAt.new w3 p q
        have T10 := Lib.hid (T10n)
        clear T10n
        have B6 := Lib.hid (B5.out.alloc B5.out.size (.cells #[.int .i64 p, .int .i64 q] 33))
        have c30 := T3_3'.out.c0
        have c31 := T3_3'.out.c1
        have c80 := T8_3'.out.c0
        have c81 := T8_3'.out.c1
        have c100 := T10.out.c0
        have c101 := T10.out.c1
        go_wp2_with fail
        refine (HM.out _).mono ?_
        rintro e w4 ⟨rfl, hb⟩
        have T3_4 := Lib.hid (T3_3'.out.below hb T3_3'.out.lt)
        have T8_4 := Lib.hid (T8_3'.out.below hb T8_3'.out.lt)
        have T10_4 := Lib.hid (T10.out.below hb T10.out.lt)
        have B7 := Lib.hid (B6.out.trans (hb.mono B6.out.size))
        clear hb
        clear c30 c31 c80 c81 c100 c101
        have c30 := T3_4.out.c0
        have c31 := T3_4.out.c1
        have c80 := T8_4.out.c0
        have c81 := T8_4.out.c1
        have c100 := T10_4.out.c0
        have c101 := T10_4.out.c1
        go_wp2
        go_ret
        exact ⟨rfl, B7.out⟩
      · have ha7 : 7 < a := by omega
        have ha0' : 0 ≤ a := by omega
        clear hq' ha0
        have B0 := Lib.hid (Below.refl w.heap.size w)
        have T3n := StAt.new w n r
        have T3 := Lib.hid (T3n)
        clear T3n
        have B1 := Lib.hid (B0.out.alloc B0.out.size (.cells #[.int .i64 n, .int .i64 r] 33))
        go_enter Try.func7, Try.ntmps7
        go_wp2_with fail
        refine (stAwake _).mono ?_
        rintro e w1 ⟨rfl, hb⟩
        have T3_1 := Lib.hid (T3.out.below hb T3.out.lt)
        have B2 := Lib.hid (B1.out.trans (hb.mono B1.out.size))
        clear hb
        have c30 := T3_1.out.c0
        have c31 := T3_1.out.c1
        go_wp2_with fail
        refine (HX.out _).mono ?_
        rintro e w2 ⟨rfl, hb⟩
        have T3_2 := Lib.hid (T3_1.out.below hb T3_1.out.lt)
        have B3 := Lib.hid (B2.out.trans (hb.mono B2.out.size))
        clear hb
        clear c30 c31
        have T3_2' := Lib.hid (T3_2.out.old (.cells #[.int .i64 0, .int .i64 0] 33))
        have T8n := StAt.new w2 0 0
        have T8 := Lib.hid (T8n)
        clear T8n
        have B4 := Lib.hid (B3.out.alloc B3.out.size (.cells #[.int .i64 0, .int .i64 0] 33))
        have c30 := T3_2'.out.c0
        have c31 := T3_2'.out.c1
        have c80 := T8.out.c0
        have c81 := T8.out.c1
        go_wp2_with fail
        refine (HZ.out _).mono ?_
        rintro e w3 ⟨rfl, hb⟩
        have T3_3 := Lib.hid (T3_2'.out.below hb T3_2'.out.lt)
        have T8_3 := Lib.hid (T8.out.below hb T8.out.lt)
        have B5 := Lib.hid (B4.out.trans (hb.mono B4.out.size))
        clear hb
        clear c30 c31 c80 c81
        have T3_3' := Lib.hid (T3_3.out.old (.cells #[.int .i64 p, .int .i64 q] 33))
        have T8_3' := Lib.hid (T8_3.out.old (.cells #[.int .i64 p, .int .i64 q] 33))
        have T10n := StAt.new w3 p q
        have T10 := Lib.hid (T10n)
        clear T10n
        have B6 := Lib.hid (B5.out.alloc B5.out.size (.cells #[.int .i64 p, .int .i64 q] 33))
        have c30 := T3_3'.out.c0
        have c31 := T3_3'.out.c1
        have c80 := T8_3'.out.c0
        have c81 := T8_3'.out.c1
        have c100 := T10.out.c0
        have c101 := T10.out.c1
        go_wp2_with fail
        refine (HM.out _).mono ?_
        rintro e w4 ⟨rfl, hb⟩
        have T3_4 := Lib.hid (T3_3'.out.below hb T3_3'.out.lt)
        have T8_4 := Lib.hid (T8_3'.out.below hb T8_3'.out.lt)
        have T10_4 := Lib.hid (T10.out.below hb T10.out.lt)
        have B7 := Lib.hid (B6.out.trans (hb.mono B6.out.size))
        clear hb
        clear c30 c31 c80 c81 c100 c101
        have c30 := T3_4.out.c0
        have c31 := T3_4.out.c1
        have c80 := T8_4.out.c0
        have c81 := T8_4.out.c1
        have c100 := T10_4.out.c0
        have c101 := T10_4.out.c1
        go_wp2
        go_ret
        exact ⟨rfl, B7.out⟩
    · have hq' : 0 ≤ a ∧ a < 8 := by unfold mayR at hq; simpa using hq
      by_cases h40 : n = 1099511627776
      · subst h40
        have e1 : nxt 1099511627776 r a = (0, 0, 4) := by simp [nxt, hm, hq]
        rw [e1] at HX
        generalize nxt 1099511627776 r b = y at HZ
        obtain ⟨p, q, z⟩ := y
        unfold nxtV at HX HZ
        unfold st at HX HZ HM ⊢
        clear e1 hm hq hmay hq'
        have B0 := Lib.hid (Below.refl w.heap.size w)
        have T3n := StAt.new w 1099511627776 r
        have T3 := Lib.hid (T3n)
        clear T3n
        have B1 := Lib.hid (B0.out.alloc B0.out.size (.cells #[.int .i64 1099511627776, .int .i64 r] 33))
        go_enter Try.func7, Try.ntmps7
        go_wp2_with fail
        refine (stAwake _).mono ?_
        rintro e w1 ⟨rfl, hb⟩
        have T3_1 := Lib.hid (T3.out.below hb T3.out.lt)
        have B2 := Lib.hid (B1.out.trans (hb.mono B1.out.size))
        clear hb
        have c30 := T3_1.out.c0
        have c31 := T3_1.out.c1
        go_wp2_with fail
        refine (HX.out _).mono ?_
        rintro e w2 ⟨rfl, hb⟩
        have T3_2 := Lib.hid (T3_1.out.below hb T3_1.out.lt)
        have B3 := Lib.hid (B2.out.trans (hb.mono B2.out.size))
        clear hb
        clear c30 c31
        have T3_2' := Lib.hid (T3_2.out.old (.cells #[.int .i64 0, .int .i64 0] 33))
        have T8n := StAt.new w2 0 0
        have T8 := Lib.hid (T8n)
        clear T8n
        have B4 := Lib.hid (B3.out.alloc B3.out.size (.cells #[.int .i64 0, .int .i64 0] 33))
        have c30 := T3_2'.out.c0
        have c31 := T3_2'.out.c1
        have c80 := T8.out.c0
        have c81 := T8.out.c1
        go_wp2_with fail
        refine (HZ.out _).mono ?_
        rintro e w3 ⟨rfl, hb⟩
        have T3_3 := Lib.hid (T3_2'.out.below hb T3_2'.out.lt)
        have T8_3 := Lib.hid (T8.out.below hb T8.out.lt)
        have B5 := Lib.hid (B4.out.trans (hb.mono B4.out.size))
        clear hb
        clear c30 c31 c80 c81
        have T3_3' := Lib.hid (T3_3.out.old (.cells #[.int .i64 p, .int .i64 q] 33))
        have T8_3' := Lib.hid (T8_3.out.old (.cells #[.int .i64 p, .int .i64 q] 33))
        have T10n := StAt.new w3 p q
        have T10 := Lib.hid (T10n)
        clear T10n
        have B6 := Lib.hid (B5.out.alloc B5.out.size (.cells #[.int .i64 p, .int .i64 q] 33))
        have c30 := T3_3'.out.c0
        have c31 := T3_3'.out.c1
        have c80 := T8_3'.out.c0
        have c81 := T8_3'.out.c1
        have c100 := T10.out.c0
        have c101 := T10.out.c1
        go_wp2
        go_ret
        exact ⟨rfl, B6.out⟩
      · have e1 : nxt n r a = (n + 1, a, 0) := by simp [nxt, hm, hq, h40]
        have HM1 := Lib.hid (may_any (n + 1) a)
        have HL := Lib.hid (stLess_any n r (n + 1) a)
        rw [show may (n + 1) a = true from may_iff.2 (by omega)] at HM1
        rw [show stLess n r (n + 1) a = true by rw [stLess, decide_eq_true_iff]; omega] at HL
        rw [e1] at HX
        by_cases hq2 : mayR b = true
        · have e2 : nxt n r b = (n + 1, b, 0) := by simp [nxt, hm, hq2, h40]
          rw [e2] at HZ
          unfold nxtV at HX HZ
          unfold st at HX HZ HM HM1 HL ⊢
          clear e1 e2 hm hq hmay hq' hq2 h40 HM
          generalize n + 1 = N at *
          by_cases hab : a = b
          · subst hab
            have B0 := Lib.hid (Below.refl w.heap.size w)
            have T3n := StAt.new w n r
            have T3 := Lib.hid (T3n)
            clear T3n
            have B1 := Lib.hid (B0.out.alloc B0.out.size (.cells #[.int .i64 n, .int .i64 r] 33))
            go_enter Try.func7, Try.ntmps7
            go_wp2_with fail
            refine (stAwake _).mono ?_
            rintro e w1 ⟨rfl, hb⟩
            have T3_1 := Lib.hid (T3.out.below hb T3.out.lt)
            have B2 := Lib.hid (B1.out.trans (hb.mono B1.out.size))
            clear hb
            have c30 := T3_1.out.c0
            have c31 := T3_1.out.c1
            go_wp2_with fail
            refine (HX.out _).mono ?_
            rintro e w2 ⟨rfl, hb⟩
            have T3_2 := Lib.hid (T3_1.out.below hb T3_1.out.lt)
            have B3 := Lib.hid (B2.out.trans (hb.mono B2.out.size))
            clear hb
            clear c30 c31
            have T3_2' := Lib.hid (T3_2.out.old (.cells #[.int .i64 N, .int .i64 a] 33))
            have T8n := StAt.new w2 N a
            have T8 := Lib.hid (T8n)
            clear T8n
            have B4 := Lib.hid (B3.out.alloc B3.out.size (.cells #[.int .i64 N, .int .i64 a] 33))
            have c30 := T3_2'.out.c0
            have c31 := T3_2'.out.c1
            have c80 := T8.out.c0
            have c81 := T8.out.c1
            go_wp2_with fail
            refine (HZ.out _).mono ?_
            rintro e w3 ⟨rfl, hb⟩
            have T3_3 := Lib.hid (T3_2'.out.below hb T3_2'.out.lt)
            have T8_3 := Lib.hid (T8.out.below hb T8.out.lt)
            have B5 := Lib.hid (B4.out.trans (hb.mono B4.out.size))
            clear hb
            clear c30 c31 c80 c81
            have T3_3' := Lib.hid (T3_3.out.old (.cells #[.int .i64 N, .int .i64 a] 33))
            have T8_3' := Lib.hid (T8_3.out.old (.cells #[.int .i64 N, .int .i64 a] 33))
            have T10n := StAt.new w3 N a
            have T10 := Lib.hid (T10n)
            clear T10n
            have B6 := Lib.hid (B5.out.alloc B5.out.size (.cells #[.int .i64 N, .int .i64 a] 33))
            have c30 := T3_3'.out.c0
            have c31 := T3_3'.out.c1
            have c80 := T8_3'.out.c0
            have c81 := T8_3'.out.c1
            have c100 := T10.out.c0
            have c101 := T10.out.c1
            go_wp2_with fail
            refine (HM1.out _).mono ?_
            rintro e w4 ⟨rfl, hb⟩
            have T3_4 := Lib.hid (T3_3'.out.below hb T3_3'.out.lt)
            have T8_4 := Lib.hid (T8_3'.out.below hb T8_3'.out.lt)
            have T10_4 := Lib.hid (T10.out.below hb T10.out.lt)
            have B7 := Lib.hid (B6.out.trans (hb.mono B6.out.size))
            clear hb
            clear c30 c31 c80 c81 c100 c101
            have c30 := T3_4.out.c0
            have c31 := T3_4.out.c1
            have c80 := T8_4.out.c0
            have c81 := T8_4.out.c1
            have c100 := T10_4.out.c0
            have c101 := T10_4.out.c1
            go_wp2_with fail
            refine (HL.out _).mono ?_
            rintro e w5 ⟨rfl, hb⟩
            have T3_5 := Lib.hid (T3_4.out.below hb T3_4.out.lt)
            have T8_5 := Lib.hid (T8_4.out.below hb T8_4.out.lt)
            have T10_5 := Lib.hid (T10_4.out.below hb T10_4.out.lt)
            have B8 := Lib.hid (B7.out.trans (hb.mono B7.out.size))
            clear hb
            clear c30 c31 c80 c81 c100 c101
            have c30 := T3_5.out.c0
            have c31 := T3_5.out.c1
            have c80 := T8_5.out.c0
            have c81 := T8_5.out.c1
            have c100 := T10_5.out.c0
            have c101 := T10_5.out.c1
            go_wp2
            go_ret
            exact ⟨rfl, B8.out⟩
          · have hab' : (a == b) = false := by simpa using hab
            have B0 := Lib.hid (Below.refl w.heap.size w)
            have T3n := StAt.new w n r
            have T3 := Lib.hid (T3n)
            clear T3n
            have B1 := Lib.hid (B0.out.alloc B0.out.size (.cells #[.int .i64 n, .int .i64 r] 33))
            go_enter Try.func7, Try.ntmps7
            go_wp2_with fail
            refine (stAwake _).mono ?_
            rintro e w1 ⟨rfl, hb⟩
            have T3_1 := Lib.hid (T3.out.below hb T3.out.lt)
            have B2 := Lib.hid (B1.out.trans (hb.mono B1.out.size))
            clear hb
            have c30 := T3_1.out.c0
            have c31 := T3_1.out.c1
            go_wp2_with fail
            refine (HX.out _).mono ?_
            rintro e w2 ⟨rfl, hb⟩
            have T3_2 := Lib.hid (T3_1.out.below hb T3_1.out.lt)
            have B3 := Lib.hid (B2.out.trans (hb.mono B2.out.size))
            clear hb
            clear c30 c31
            have T3_2' := Lib.hid (T3_2.out.old (.cells #[.int .i64 N, .int .i64 a] 33))
            have T8n := StAt.new w2 N a
            have T8 := Lib.hid (T8n)
            clear T8n
            have B4 := Lib.hid (B3.out.alloc B3.out.size (.cells #[.int .i64 N, .int .i64 a] 33))
            have c30 := T3_2'.out.c0
            have c31 := T3_2'.out.c1
            have c80 := T8.out.c0
            have c81 := T8.out.c1
            go_wp2_with fail
            refine (HZ.out _).mono ?_
            rintro e w3 ⟨rfl, hb⟩
            have T3_3 := Lib.hid (T3_2'.out.below hb T3_2'.out.lt)
            have T8_3 := Lib.hid (T8.out.below hb T8.out.lt)
            have B5 := Lib.hid (B4.out.trans (hb.mono B4.out.size))
            clear hb
            clear c30 c31 c80 c81
            have T3_3' := Lib.hid (T3_3.out.old (.cells #[.int .i64 N, .int .i64 b] 33))
            have T8_3' := Lib.hid (T8_3.out.old (.cells #[.int .i64 N, .int .i64 b] 33))
            have T10n := StAt.new w3 N b
            have T10 := Lib.hid (T10n)
            clear T10n
            have B6 := Lib.hid (B5.out.alloc B5.out.size (.cells #[.int .i64 N, .int .i64 b] 33))
            have c30 := T3_3'.out.c0
            have c31 := T3_3'.out.c1
            have c80 := T8_3'.out.c0
            have c81 := T8_3'.out.c1
            have c100 := T10.out.c0
            have c101 := T10.out.c1
            go_wp2_with fail
            refine (HM1.out _).mono ?_
            rintro e w4 ⟨rfl, hb⟩
            have T3_4 := Lib.hid (T3_3'.out.below hb T3_3'.out.lt)
            have T8_4 := Lib.hid (T8_3'.out.below hb T8_3'.out.lt)
            have T10_4 := Lib.hid (T10.out.below hb T10.out.lt)
            have B7 := Lib.hid (B6.out.trans (hb.mono B6.out.size))
            clear hb
            clear c30 c31 c80 c81 c100 c101
            have c30 := T3_4.out.c0
            have c31 := T3_4.out.c1
            have c80 := T8_4.out.c0
            have c81 := T8_4.out.c1
            have c100 := T10_4.out.c0
            have c101 := T10_4.out.c1
            go_wp2_with fail
            refine (HL.out _).mono ?_
            rintro e w5 ⟨rfl, hb⟩
            have T3_5 := Lib.hid (T3_4.out.below hb T3_4.out.lt)
            have T8_5 := Lib.hid (T8_4.out.below hb T8_4.out.lt)
            have T10_5 := Lib.hid (T10_4.out.below hb T10_4.out.lt)
            have B8 := Lib.hid (B7.out.trans (hb.mono B7.out.size))
            clear hb
            clear c30 c31 c80 c81 c100 c101
            have c30 := T3_5.out.c0
            have c31 := T3_5.out.c1
            have c80 := T8_5.out.c0
            have c81 := T8_5.out.c1
            have c100 := T10_5.out.c0
            have c101 := T10_5.out.c1
            go_wp2
            go_ret
            exact ⟨rfl, B8.out⟩
        · have e2 : nxt n r b = (0, 0, 1) := by simp [nxt, hq2]
          rw [e2] at HZ
          unfold nxtV at HX HZ
          unfold st at HX HZ HM HM1 HL ⊢
          clear e1 e2 hm hq hmay hq' hq2 h40 HM
          generalize n + 1 = N at *
          have B0 := Lib.hid (Below.refl w.heap.size w)
          have T3n := StAt.new w n r
          have T3 := Lib.hid (T3n)
          clear T3n
          have B1 := Lib.hid (B0.out.alloc B0.out.size (.cells #[.int .i64 n, .int .i64 r] 33))
          go_enter Try.func7, Try.ntmps7
          go_wp2_with fail
          refine (stAwake _).mono ?_
          rintro e w1 ⟨rfl, hb⟩
          have T3_1 := Lib.hid (T3.out.below hb T3.out.lt)
          have B2 := Lib.hid (B1.out.trans (hb.mono B1.out.size))
          clear hb
          have c30 := T3_1.out.c0
          have c31 := T3_1.out.c1
          go_wp2_with fail
          refine (HX.out _).mono ?_
          rintro e w2 ⟨rfl, hb⟩
          have T3_2 := Lib.hid (T3_1.out.below hb T3_1.out.lt)
          have B3 := Lib.hid (B2.out.trans (hb.mono B2.out.size))
          clear hb
          clear c30 c31
          have T3_2' := Lib.hid (T3_2.out.old (.cells #[.int .i64 N, .int .i64 a] 33))
          have T8n := StAt.new w2 N a
          have T8 := Lib.hid (T8n)
          clear T8n
          have B4 := Lib.hid (B3.out.alloc B3.out.size (.cells #[.int .i64 N, .int .i64 a] 33))
          have c30 := T3_2'.out.c0
          have c31 := T3_2'.out.c1
          have c80 := T8.out.c0
          have c81 := T8.out.c1
          go_wp2_with fail
          refine (HZ.out _).mono ?_
          rintro e w3 ⟨rfl, hb⟩
          have T3_3 := Lib.hid (T3_2'.out.below hb T3_2'.out.lt)
          have T8_3 := Lib.hid (T8.out.below hb T8.out.lt)
          have B5 := Lib.hid (B4.out.trans (hb.mono B4.out.size))
          clear hb
          clear c30 c31 c80 c81
          have T3_3' := Lib.hid (T3_3.out.old (.cells #[.int .i64 0, .int .i64 0] 33))
          have T8_3' := Lib.hid (T8_3.out.old (.cells #[.int .i64 0, .int .i64 0] 33))
          have T10n := StAt.new w3 0 0
          have T10 := Lib.hid (T10n)
          clear T10n
          have B6 := Lib.hid (B5.out.alloc B5.out.size (.cells #[.int .i64 0, .int .i64 0] 33))
          have c30 := T3_3'.out.c0
          have c31 := T3_3'.out.c1
          have c80 := T8_3'.out.c0
          have c81 := T8_3'.out.c1
          have c100 := T10.out.c0
          have c101 := T10.out.c1
          go_wp2_with fail
          refine (HM1.out _).mono ?_
          rintro e w4 ⟨rfl, hb⟩
          have T3_4 := Lib.hid (T3_3'.out.below hb T3_3'.out.lt)
          have T8_4 := Lib.hid (T8_3'.out.below hb T8_3'.out.lt)
          have T10_4 := Lib.hid (T10.out.below hb T10.out.lt)
          have B7 := Lib.hid (B6.out.trans (hb.mono B6.out.size))
          clear hb
          clear c30 c31 c80 c81 c100 c101
          have c30 := T3_4.out.c0
          have c31 := T3_4.out.c1
          have c80 := T8_4.out.c0
          have c81 := T8_4.out.c1
          have c100 := T10_4.out.c0
          have c101 := T10_4.out.c1
          go_wp2_with fail
          refine (HL.out _).mono ?_
          rintro e w5 ⟨rfl, hb⟩
          have T3_5 := Lib.hid (T3_4.out.below hb T3_4.out.lt)
          have T8_5 := Lib.hid (T8_4.out.below hb T8_4.out.lt)
          have T10_5 := Lib.hid (T10_4.out.below hb T10_4.out.lt)
          have B8 := Lib.hid (B7.out.trans (hb.mono B7.out.size))
          clear hb
          clear c30 c31 c80 c81 c100 c101
          have c30 := T3_5.out.c0
          have c31 := T3_5.out.c1
          have c80 := T8_5.out.c0
          have c81 := T8_5.out.c1
          have c100 := T10_5.out.c0
          have c101 := T10_5.out.c1
          go_wp2
          go_ret
          exact ⟨rfl, B8.out⟩
end Go.Proofs.Ytomlckefkamdgaa
