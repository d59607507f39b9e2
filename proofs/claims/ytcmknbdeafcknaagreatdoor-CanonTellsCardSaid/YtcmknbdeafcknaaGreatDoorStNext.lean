import Derived.Test.YtcmknbdeafcknaaGreatDoorGBase
/-
  What stamp.Next, stamp.Put and stamp.Get answer; nothing that was there is written.
-/
namespace Go.Proofs.YtcmknbdeafcknaaGreatDoor
open Go.RowKit WM
set_option linter.unusedVariables false
/-! ### Next -/
def nxt (n r q : Int) : Int × Int × Int := if may n r && mayR q then (if n = 1099511627776 then (0, 0, 4) else (n + 1, q, 0)) else (0, 0, 1)
def nxtV (x : Int × Int × Int) : Value := .tuple #[st x.1 x.2.1, .int .i64 x.2.2]
set_option maxHeartbeats 1000000 in
theorem next_any (n r q : Int) (w : World) : Calls Tryz.prog 52 #[st n r, .int .i64 q] w fun e w' => e = .returned (nxtV (nxt n r q)) ∧ Below w.heap.size w w' := by
  have HC := Lib.hid (may_any n r)
  have HR := Lib.hid (mayRep_any q)
  have S0 := Lib.hid ((StAt.new w n r).old (.cells #[.int .i64 0, .int .i64 0] 30))
  have s1 := StAt.new (w.alloc (.cells #[.int .i64 n, .int .i64 r] 30)) 0 0
  rw [World.size_alloc] at s1
  have S1 := Lib.hid s1
  have HB := Lib.hid ((((Below.refl w.heap.size w).alloc (Nat.le_refl _) (.cells #[.int .i64 n, .int .i64 r] 30))).alloc (by simp) (.cells #[.int .i64 0, .int .i64 0] 30))
  clear s1
  cases hm : may n r
  · have HN := Lib.hid (show nxt n r q = (0, 0, 1) by simp [nxt, hm])
    rw [hm] at HC
    unfold st at HC ⊢
    clear hm
    go_enter Tryz.func52, Tryz.ntmps52
    go_wp2_with fail
    refine (HC.out _).mono ?_
    rintro e w1 ⟨rfl, hb1⟩
    have s0 := S0.out.below hb1 S0.out.lt
    have s1 := S1.out.below hb1 S1.out.lt
    have bw := HB.out.trans (hb1.mono HB.out.size)
    have a0 := s0.c0
    have a1 := s0.c1
    have c0 := s1.c0
    have c1 := s1.c1
    have f0 := s1.fz 0
    have f1 := s1.fz 1
    have S9 := Lib.hid (s1.put 0 0)
    have B9 := Lib.hid (below_put bw (show w.heap.size ≤ w.heap.size + 1 by omega) (.int .i64 0) (.int .i64 0))
    clear s0 s1 hb1 bw
    go_wp2
    refine bodyPost_ret (v := nxtV (0, 0, 1)) ?_ rfl ⟨by rw [HN.out], ?_⟩
    · exact res_st2 Tryz.results52 rfl S9.out
    · exact B9.out
  · rw [hm] at HC
    have hmay := may_iff.1 hm
    cases hq : mayR q
    · have HN := Lib.hid (show nxt n r q = (0, 0, 1) by simp [nxt, hq])
      rw [hq] at HR
      unfold st at HC ⊢
      clear hm hq
      go_enter Tryz.func52, Tryz.ntmps52
      go_wp2_with fail
      refine (HC.out _).mono ?_
      rintro e w1 ⟨rfl, hb1⟩
      have s0 := S0.out.below hb1 S0.out.lt
      have s1 := S1.out.below hb1 S1.out.lt
      have bw := HB.out.trans (hb1.mono HB.out.size)
      have a0 := s0.c0
      have a1 := s0.c1
      have c0 := s1.c0
      have c1 := s1.c1
      have f0 := s1.fz 0
      have f1 := s1.fz 1
      have S9 := Lib.hid (s1.put 0 0)
      have B9 := Lib.hid (below_put bw (show w.heap.size ≤ w.heap.size + 1 by omega) (.int .i64 0) (.int .i64 0))
      clear s0 s1 hb1 bw
      go_wp2_with fail
      refine (HR.out _).mono ?_
      rintro e w2 ⟨rfl, rfl⟩
      go_wp2
      refine bodyPost_ret (v := nxtV (0, 0, 1)) ?_ rfl ⟨by rw [HN.out], ?_⟩
      · exact res_st2 Tryz.results52 rfl S9.out
      · exact B9.out
    · rw [hq] at HR
      by_cases h40 : n = 1099511627776
      · subst h40
        have HN := Lib.hid (show nxt 1099511627776 r q = (0, 0, 4) by simp [nxt, hm, hq])
        unfold st at HC ⊢
        clear hm hq
        go_enter Tryz.func52, Tryz.ntmps52
        go_wp2_with fail
        refine (HC.out _).mono ?_
        rintro e w1 ⟨rfl, hb1⟩
        have s0 := S0.out.below hb1 S0.out.lt
        have s1 := S1.out.below hb1 S1.out.lt
        have bw := HB.out.trans (hb1.mono HB.out.size)
        have a0 := s0.c0
        have a1 := s0.c1
        have c0 := s1.c0
        have c1 := s1.c1
        have f0 := s1.fz 0
        have f1 := s1.fz 1
        have S9 := Lib.hid (s1.put 0 0)
        have B9 := Lib.hid (below_put bw (show w.heap.size ≤ w.heap.size + 1 by omega) (.int .i64 0) (.int .i64 0))
        clear s0 s1 hb1 bw
        go_wp2_with fail
        refine (HR.out _).mono ?_
        rintro e w2 ⟨rfl, rfl⟩
        go_wp2
        refine bodyPost_ret (v := nxtV (0, 0, 4)) ?_ rfl ⟨by rw [HN.out], ?_⟩
        · exact res_st2 Tryz.results52 rfl S9.out
        · exact B9.out
      · have HN := Lib.hid (show nxt n r q = (n + 1, q, 0) by simp [nxt, hm, hq, h40])
        have hw : IntKind.i64.wrap (n + 1) = n + 1 := IntWalk.i64_in _ (by omega)
        unfold st at HC ⊢
        clear hm hq
        go_enter Tryz.func52, Tryz.ntmps52
        go_wp2_with fail
        refine (HC.out _).mono ?_
        rintro e w1 ⟨rfl, hb1⟩
        have s0 := S0.out.below hb1 S0.out.lt
        have s1 := S1.out.below hb1 S1.out.lt
        have bw := HB.out.trans (hb1.mono HB.out.size)
        have a0 := s0.c0
        have a1 := s0.c1
        have c0 := s1.c0
        have c1 := s1.c1
        have f0 := s1.fz 0
        have f1 := s1.fz 1
        have S9 := Lib.hid (s1.put (n + 1) q)
        have B9 := Lib.hid (below_put bw (show w.heap.size ≤ w.heap.size + 1 by omega) (.int .i64 (n + 1)) (.int .i64 q))
        clear s0 s1 hb1 bw
        go_wp2_with fail
        refine (HR.out _).mono ?_
        rintro e w2 ⟨rfl, rfl⟩
        go_wp2
        refine bodyPost_ret (v := nxtV (n + 1, q, 0)) ?_ rfl ⟨by rw [HN.out], ?_⟩
        · exact res_st2 Tryz.results52 rfl S9.out
        · exact B9.out
/-! ### Put -/
end Go.Proofs.YtcmknbdeafcknaaGreatDoor

