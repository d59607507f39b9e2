/-
  What stamp.Max answers; nothing that was there is written.
-/
import Derived.Test.YtonbhcbkelmhgaaDoorStFacts
namespace Go.Proofs.YtonbhcbkelmhgaaDoor
open Go.RowKit WM
set_option linter.unusedVariables false
/-! ### Max -/
set_option maxHeartbeats 1000000 in
theorem stMax_any (n r m s : Int) (w : World) : Calls Tryd.prog 38 #[st n r, st m s] w fun e w' => e = .returned (if stLess n r m s then st m s else st n r) ∧ Below w.heap.size w w' := by
  cases hl : stLess n r m s
  · have hc := Lib.hid (stLess_any n r m s)
    rw [hl] at hc
    unfold st at hc ⊢
    have S0 := Lib.hid (((StAt.new w n r).old (.cells #[.int .i64 m, .int .i64 s] 23)).old (.cells #[.int .i64 0, .int .i64 0] 23))
    have s1 := (StAt.new (w.alloc (.cells #[.int .i64 n, .int .i64 r] 23)) m s).old (.cells #[.int .i64 0, .int .i64 0] 23)
    have s2 := (StAt.new ((w.alloc (.cells #[.int .i64 n, .int .i64 r] 23)).alloc (.cells #[.int .i64 m, .int .i64 s] 23)) 0 0)
    rw [World.size_alloc] at s1 s2
    rw [World.size_alloc] at s2
    have HB := Lib.hid (((((Below.refl w.heap.size w).alloc (Nat.le_refl _) (.cells #[.int .i64 n, .int .i64 r] 23))).alloc (by simp) (.cells #[.int .i64 m, .int .i64 s] 23)).alloc (by simp; omega) (.cells #[.int .i64 0, .int .i64 0] 23))
    have S1 := Lib.hid s1
    have S2 := Lib.hid s2
    clear s1 s2
    go_enter Tryd.func38, Tryd.ntmps38
    go_wp2_with fail
    refine (hc.out _).mono ?_
    rintro e w1 ⟨rfl, hb1⟩
    have s0 := S0.out.below hb1 S0.out.lt
    have s1 := S1.out.below hb1 S1.out.lt
    have s2 := S2.out.below hb1 S2.out.lt
    have bw := HB.out.trans (hb1.mono HB.out.size)
    have a0 := s0.c0
    have a1 := s0.c1
    have b0 := s1.c0
    have b1 := s1.c1
    have c0 := s2.c0
    have c1 := s2.c1
    have f0 := s2.fz 0
    have f1 := s2.fz 1
    have S9 := Lib.hid (s2.put n r)
    have B9 := Lib.hid (below_put bw (show w.heap.size ≤ w.heap.size + 1 + 1 by omega) (.int .i64 n) (.int .i64 r))
    clear s0 s1 s2 hb1 bw
    go_wp2
    refine bodyPost_ret (v := st n r) ?_ rfl ⟨rfl, ?_⟩
    · exact res_st Tryd.results38 rfl S9.out
    · exact B9.out
  · have hc := Lib.hid (stLess_any n r m s)
    rw [hl] at hc
    unfold st at hc ⊢
    have S0 := Lib.hid (((StAt.new w n r).old (.cells #[.int .i64 m, .int .i64 s] 23)).old (.cells #[.int .i64 0, .int .i64 0] 23))
    have s1 := (StAt.new (w.alloc (.cells #[.int .i64 n, .int .i64 r] 23)) m s).old (.cells #[.int .i64 0, .int .i64 0] 23)
    have s2 := (StAt.new ((w.alloc (.cells #[.int .i64 n, .int .i64 r] 23)).alloc (.cells #[.int .i64 m, .int .i64 s] 23)) 0 0)
    rw [World.size_alloc] at s1 s2
    rw [World.size_alloc] at s2
    have HB := Lib.hid (((((Below.refl w.heap.size w).alloc (Nat.le_refl _) (.cells #[.int .i64 n, .int .i64 r] 23))).alloc (by simp) (.cells #[.int .i64 m, .int .i64 s] 23)).alloc (by simp; omega) (.cells #[.int .i64 0, .int .i64 0] 23))
    have S1 := Lib.hid s1
    have S2 := Lib.hid s2
    clear s1 s2
    go_enter Tryd.func38, Tryd.ntmps38
    go_wp2_with fail
    refine (hc.out _).mono ?_
    rintro e w1 ⟨rfl, hb1⟩
    have s0 := S0.out.below hb1 S0.out.lt
    have s1 := S1.out.below hb1 S1.out.lt
    have s2 := S2.out.below hb1 S2.out.lt
    have bw := HB.out.trans (hb1.mono HB.out.size)
    have a0 := s0.c0
    have a1 := s0.c1
    have b0 := s1.c0
    have b1 := s1.c1
    have c0 := s2.c0
    have c1 := s2.c1
    have f0 := s2.fz 0
    have f1 := s2.fz 1
    have S9 := Lib.hid (s2.put m s)
    have B9 := Lib.hid (below_put bw (show w.heap.size ≤ w.heap.size + 1 + 1 by omega) (.int .i64 m) (.int .i64 s))
    clear s0 s1 s2 hb1 bw
    go_wp2
    refine bodyPost_ret (v := st m s) ?_ rfl ⟨rfl, ?_⟩
    · exact res_st Tryd.results38 rfl S9.out
    · exact B9.out
theorem max_any (a b : Int × Int) (w : World) : Calls Tryd.prog 38 #[st a.1 a.2, st b.1 b.2] w fun e w' => e = .returned (st (mx a b).1 (mx a b).2) ∧ Below w.heap.size w w' := by
  refine (stMax_any a.1 a.2 b.1 b.2 w).mono ?_
  rintro e w' ⟨rfl, hb⟩
  refine ⟨?_, hb⟩
  unfold mx
  split <;> rfl
end Go.Proofs.YtonbhcbkelmhgaaDoor
