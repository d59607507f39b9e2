import Derived.Test.YtcmknbdeafcknaaGreatDoorStRef
import Derived.Test.YtcmknbdeafcknaaGreatDoorGStR
import Derived.Test.YtcmknbdeafcknaaGreatDoorStNext
/-
  The document's own Max and Next of stamps.
-/
namespace Go.Proofs.YtcmknbdeafcknaaGreatDoor
open Go.RowKit WM
set_option linter.unusedVariables false
set_option maxHeartbeats 1000000 in
theorem rnext_any (n r q : Int) (w : World) : Calls Tryz.prog 55 #[st n r, .int .i64 q] w fun e w' => e = .returned (nxtV (nxt n r q)) ∧ Below w.heap.size w w' := by
  have HC := Lib.hid (rdmay_any n r)
  have S0 := Lib.hid ((StAt.new w n r).old (.cells #[.int .i64 0, .int .i64 0] 30))
  have s1 := StAt.new (w.alloc (.cells #[.int .i64 n, .int .i64 r] 30)) 0 0
  rw [World.size_alloc] at s1
  have S1 := Lib.hid s1
  have HB := Lib.hid ((((Below.refl w.heap.size w).alloc (Nat.le_refl _) (.cells #[.int .i64 n, .int .i64 r] 30))).alloc (by simp) (.cells #[.int .i64 0, .int .i64 0] 30))
  clear s1
  cases hm : may n r
  · have HN := Lib.hid (show nxt n r q = (0, 0, 1) by simp [nxt, hm])
    rw [hm] at HC
    unfold st at HC ⊢
    clear hm
    go_enter Tryz.func55, Tryz.ntmps55
    go_wp2_with fail
    refine (HC.out _).mono ?_
    rintro e w1 ⟨rfl, hb1⟩
    have s0 := S0.out.below hb1 S0.out.lt
    have s1 := S1.out.below hb1 S1.out.lt
    have bw := HB.out.trans (hb1.mono HB.out.size)
    have a0 := s0.c0
    have a1 := s0.c1
    have c0 := s1.c0
    have c1 := s1.c1
    have f0 := s1.fz 0
    have f1 := s1.fz 1
    have S9 := Lib.hid (s1.put 0 0)
    have B9 := Lib.hid (below_put bw (show w.heap.size ≤ w.heap.size + 1 by omega) (.int .i64 0) (.int .i64 0))
    clear s0 s1 hb1 bw
    go_wp2
    refine bodyPost_ret (v := nxtV (0, 0, 1)) ?_ rfl ⟨by rw [HN.out], ?_⟩
    · exact res_st2 Tryz.results55 rfl S9.out
    · exact B9.out
  · rw [hm] at HC
    have hmay := may_iff.1 hm
    cases hq : mayR q
    · have HN := Lib.hid (show nxt n r q = (0, 0, 1) by simp [nxt, hq])
      have hq' : ¬ (0 ≤ q ∧ q < 8) := by unfold mayR at hq; simpa using hq
      unfold st at HC ⊢
      clear hm hq hmay
      by_cases hq0 : q < 0
      · clear hq'
        go_enter Tryz.func55, Tryz.ntmps55
        go_wp2_with fail
        refine (HC.out _).mono ?_
        rintro e w1 ⟨rfl, hb1⟩
        have s0 := S0.out.below hb1 S0.out.lt
        have s1 := S1.out.below hb1 S1.out.lt
        have bw := HB.out.trans (hb1.mono HB.out.size)
        have a0 := s0.c0
        have a1 := s0.c1
        have c0 := s1.c0
        have c1 := s1.c1
        have f0 := s1.fz 0
        have f1 := s1.fz 1
        have S9 := Lib.hid (s1.put 0 0)
        have B9 := Lib.hid (below_put bw (show w.heap.size ≤ w.heap.size + 1 by omega) (.int .i64 0) (.int .i64 0))
        clear s0 s1 hb1 bw
        go_wp2
        refine bodyPost_ret (v := nxtV (0, 0, 1)) ?_ rfl ⟨by rw [HN.out], ?_⟩
        · exact res_st2 Tryz.results55 rfl S9.out
        · exact B9.out
      · have hq8 : 8 ≤ q := by omega
        clear hq'
        go_enter Tryz.func55, Tryz.ntmps55
        go_wp2_with fail
        refine (HC.out _).mono ?_
        rintro e w1 ⟨rfl, hb1⟩
        have s0 := S0.out.below hb1 S0.out.lt
        have s1 := S1.out.below hb1 S1.out.lt
        have bw := HB.out.trans (hb1.mono HB.out.size)
        have a0 := s0.c0
        have a1 := s0.c1
        have c0 := s1.c0
        have c1 := s1.c1
        have f0 := s1.fz 0
        have f1 := s1.fz 1
        have S9 := Lib.hid (s1.put 0 0)
        have B9 := Lib.hid (below_put bw (show w.heap.size ≤ w.heap.size + 1 by omega) (.int .i64 0) (.int .i64 0))
        clear s0 s1 hb1 bw
        go_wp2
        refine bodyPost_ret (v := nxtV (0, 0, 1)) ?_ rfl ⟨by rw [HN.out], ?_⟩
        · exact res_st2 Tryz.results55 rfl S9.out
        · exact B9.out
    · have hq' : 0 ≤ q ∧ q < 8 := by unfold mayR at hq; simpa using hq
      have hq0 : ¬ q < 0 := by omega
      have hq8 : ¬ 8 ≤ q := by omega
      by_cases h40 : n = 1099511627776
      · subst h40
        have HN := Lib.hid (show nxt 1099511627776 r q = (0, 0, 4) by simp [nxt, hm, hq])
        unfold st at HC ⊢
        clear hm hq hmay hq'
        go_enter Tryz.func55, Tryz.ntmps55
        go_wp2_with fail
        refine (HC.out _).mono ?_
        rintro e w1 ⟨rfl, hb1⟩
        have s0 := S0.out.below hb1 S0.out.lt
        have s1 := S1.out.below hb1 S1.out.lt
        have bw := HB.out.trans (hb1.mono HB.out.size)
        have a0 := s0.c0
        have a1 := s0.c1
        have c0 := s1.c0
        have c1 := s1.c1
        have f0 := s1.fz 0
        have f1 := s1.fz 1
        have S9 := Lib.hid (s1.put 0 0)
        have B9 := Lib.hid (below_put bw (show w.heap.size ≤ w.heap.size + 1 by omega) (.int .i64 0) (.int .i64 0))
        clear s0 s1 hb1 bw
        go_wp2
        refine bodyPost_ret (v := nxtV (0, 0, 4)) ?_ rfl ⟨by rw [HN.out], ?_⟩
        · exact res_st2 Tryz.results55 rfl S9.out
        · exact B9.out
      · have HN := Lib.hid (show nxt n r q = (n + 1, q, 0) by simp [nxt, hm, hq, h40])
        have hw : IntKind.i64.wrap (n + 1) = n + 1 := IntWalk.i64_in _ (by omega)
        have h41 : ¬ 1099511627776 ≤ n := by omega
        unfold st at HC ⊢
        clear hm hq hmay hq'
        go_enter Tryz.func55, Tryz.ntmps55
        go_wp2_with fail
        refine (HC.out _).mono ?_
        rintro e w1 ⟨rfl, hb1⟩
        have s0 := S0.out.below hb1 S0.out.lt
        have s1 := S1.out.below hb1 S1.out.lt
        have bw := HB.out.trans (hb1.mono HB.out.size)
        have a0 := s0.c0
        have a1 := s0.c1
        have c0 := s1.c0
        have c1 := s1.c1
        have f0 := s1.fz 0
        have f1 := s1.fz 1
        have S9 := Lib.hid (s1.put (n + 1) q)
        have B9 := Lib.hid (below_put bw (show w.heap.size ≤ w.heap.size + 1 by omega) (.int .i64 (n + 1)) (.int .i64 q))
        clear s0 s1 hb1 bw
        go_wp2
        refine bodyPost_ret (v := nxtV (n + 1, q, 0)) ?_ rfl ⟨by rw [HN.out], ?_⟩
        · exact res_st2 Tryz.results55 rfl S9.out
        · exact B9.out
end Go.Proofs.YtcmknbdeafcknaaGreatDoor

