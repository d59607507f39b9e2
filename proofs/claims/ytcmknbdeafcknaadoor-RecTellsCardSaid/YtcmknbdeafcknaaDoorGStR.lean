import Derived.Test.YtcmknbdeafcknaaDoorGBase
section
/-
  The document's own May and Less of stamps.
-/
namespace Go.Proofs.YtcmknbdeafcknaaDoor
open Go.RowKit WM
set_option linter.unusedVariables false
set_option maxHeartbeats 1000000 in
theorem rdmay_any (n r : Int) (w : World) : Calls Tryd.prog 24 #[st n r] w fun e w' => e = .returned (.bool (may n r)) ∧ Below w.heap.size w w' := by
  unfold st
  have hbel := Lib.hid (fun (o : Obj) => (Below.refl w.heap.size w).alloc (Nat.le_refl _) o)
  by_cases h0 : n = 0
  · subst h0
    by_cases h1 : r = 0
    · subst h1
      have hm := Lib.hid (show may 0 0 = true by decide)
      go_enter Tryd.func24, Tryd.ntmps24
      go_wp2
      go_ret
      exact ⟨by rw [hm.out]; rfl, hbel.out _⟩
    · have hm := Lib.hid (show may 0 r = false by rw [may, decide_eq_false_iff_not]; omega)
      have h2 : (r == 0) = false := by simpa using h1
      go_enter Tryd.func24, Tryd.ntmps24
      go_wp2
      go_ret
      exact ⟨by rw [hm.out]; rfl, hbel.out _⟩
  · by_cases h1 : 1 ≤ n
    · by_cases h2 : n ≤ 1099511627776
      · by_cases h3 : 0 ≤ r
        · have hm := Lib.hid (show may n r = decide (r < 8) by rw [may, decide_eq_decide]; omega)
          go_enter Tryd.func24, Tryd.ntmps24
          go_wp2
          go_ret
          exact ⟨by rw [hm.out]; rfl, hbel.out _⟩
        · have hm := Lib.hid (show may n r = false by rw [may, decide_eq_false_iff_not]; omega)
          go_enter Tryd.func24, Tryd.ntmps24
          go_wp2
          go_ret
          exact ⟨by rw [hm.out]; rfl, hbel.out _⟩
      · have hm := Lib.hid (show may n r = false by rw [may, decide_eq_false_iff_not]; omega)
        go_enter Tryd.func24, Tryd.ntmps24
        go_wp2
        go_ret
        exact ⟨by rw [hm.out]; rfl, hbel.out _⟩
    · have hm := Lib.hid (show may n r = false by rw [may, decide_eq_false_iff_not]; omega)
      go_enter Tryd.func24, Tryd.ntmps24
      go_wp2
      go_ret
      exact ⟨by rw [hm.out]; rfl, hbel.out _⟩
set_option maxHeartbeats 1000000 in
theorem rless_any (n r m s : Int) (w : World) : Calls Tryd.prog 23 #[st n r, st m s] w fun e w' => e = .returned (.bool (stLess n r m s)) ∧ Below w.heap.size w w' := by
  unfold st
  have hbel := Lib.hid (fun (o o' : Obj) => ((Below.refl w.heap.size w).alloc (Nat.le_refl _) o).alloc (by simp) o')
  by_cases h1 : n < m
  · have hm := Lib.hid (show stLess n r m s = true by rw [stLess, decide_eq_true_iff]; omega)
    go_enter Tryd.func23, Tryd.ntmps23
    go_wp2
    go_ret
    exact ⟨by rw [hm.out]; rfl, hbel.out _ _⟩
  · by_cases h2 : n = m
    · subst h2
      have hm := Lib.hid (show stLess n r n s = decide (r < s) by rw [stLess, decide_eq_decide]; omega)
      go_enter Tryd.func23, Tryd.ntmps23
      go_wp2
      go_ret
      exact ⟨by rw [hm.out]; rfl, hbel.out _ _⟩
    · have hm := Lib.hid (show stLess n r m s = false by rw [stLess, decide_eq_false_iff_not]; omega)
      have h2' : (n == m) = false := by simpa using h2
      go_enter Tryd.func23, Tryd.ntmps23
      go_wp2
      go_ret
      exact ⟨by rw [hm.out]; rfl, hbel.out _ _⟩
end Go.Proofs.YtcmknbdeafcknaaDoor

end
section
/-
  The document's own Max of stamps.
-/
namespace Go.Proofs.YtcmknbdeafcknaaDoor
open Go.RowKit WM
set_option linter.unusedVariables false
set_option maxHeartbeats 1000000 in
theorem rmax_any (n r m s : Int) (w : World) : Calls Tryd.prog 21 #[st n r, st m s] w fun e w' => e = .returned (if stLess n r m s then st m s else st n r) ∧ Below w.heap.size w w' := by
  cases hl : stLess n r m s
  · have hc := Lib.hid (rless_any n r m s)
    rw [hl] at hc
    unfold st at hc ⊢
    have S0 := Lib.hid (((StAt.new w n r).old (.cells #[.int .i64 m, .int .i64 s] 25)).old (.cells #[.int .i64 0, .int .i64 0] 25))
    have s1 := (StAt.new (w.alloc (.cells #[.int .i64 n, .int .i64 r] 25)) m s).old (.cells #[.int .i64 0, .int .i64 0] 25)
    have s2 := (StAt.new ((w.alloc (.cells #[.int .i64 n, .int .i64 r] 25)).alloc (.cells #[.int .i64 m, .int .i64 s] 25)) 0 0)
    rw [World.size_alloc] at s1 s2
    rw [World.size_alloc] at s2
    have HB := Lib.hid (((((Below.refl w.heap.size w).alloc (Nat.le_refl _) (.cells #[.int .i64 n, .int .i64 r] 25))).alloc (by simp) (.cells #[.int .i64 m, .int .i64 s] 25)).alloc (by simp; omega) (.cells #[.int .i64 0, .int .i64 0] 25))
    have S1 := Lib.hid s1
    have S2 := Lib.hid s2
    clear s1 s2
    go_enter Tryd.func21, Tryd.ntmps21
    go_wp2_with fail
    refine (hc.out _).mono ?_
    rintro e w1 ⟨rfl, hb1⟩
    have s0 := S0.out.below hb1 S0.out.lt
    have s1 := S1.out.below hb1 S1.out.lt
    have s2 := S2.out.below hb1 S2.out.lt
    have bw := HB.out.trans (hb1.mono HB.out.size)
    have a0 := s0.c0
    have a1 := s0.c1
    have b0 := s1.c0
    have b1 := s1.c1
    have c0 := s2.c0
    have c1 := s2.c1
    have f0 := s2.fz 0
    have f1 := s2.fz 1
    have S9 := Lib.hid (s2.put n r)
    have B9 := Lib.hid (below_put bw (show w.heap.size ≤ w.heap.size + 1 + 1 by omega) (.int .i64 n) (.int .i64 r))
    clear s0 s1 s2 hb1 bw
    go_wp2
    refine bodyPost_ret (v := st n r) ?_ rfl ⟨rfl, ?_⟩
    · exact res_st Tryd.results21 rfl S9.out
    · exact B9.out
  · have hc := Lib.hid (rless_any n r m s)
    rw [hl] at hc
    unfold st at hc ⊢
    have S0 := Lib.hid (((StAt.new w n r).old (.cells #[.int .i64 m, .int .i64 s] 25)).old (.cells #[.int .i64 0, .int .i64 0] 25))
    have s1 := (StAt.new (w.alloc (.cells #[.int .i64 n, .int .i64 r] 25)) m s).old (.cells #[.int .i64 0, .int .i64 0] 25)
    have s2 := (StAt.new ((w.alloc (.cells #[.int .i64 n, .int .i64 r] 25)).alloc (.cells #[.int .i64 m, .int .i64 s] 25)) 0 0)
    rw [World.size_alloc] at s1 s2
    rw [World.size_alloc] at s2
    have HB := Lib.hid (((((Below.refl w.heap.size w).alloc (Nat.le_refl _) (.cells #[.int .i64 n, .int .i64 r] 25))).alloc (by simp) (.cells #[.int .i64 m, .int .i64 s] 25)).alloc (by simp; omega) (.cells #[.int .i64 0, .int .i64 0] 25))
    have S1 := Lib.hid s1
    have S2 := Lib.hid s2
    clear s1 s2
    go_enter Tryd.func21, Tryd.ntmps21
    go_wp2_with fail
    refine (hc.out _).mono ?_
    rintro e w1 ⟨rfl, hb1⟩
    have s0 := S0.out.below hb1 S0.out.lt
    have s1 := S1.out.below hb1 S1.out.lt
    have s2 := S2.out.below hb1 S2.out.lt
    have bw := HB.out.trans (hb1.mono HB.out.size)
    have a0 := s0.c0
    have a1 := s0.c1
    have b0 := s1.c0
    have b1 := s1.c1
    have c0 := s2.c0
    have c1 := s2.c1
    have f0 := s2.fz 0
    have f1 := s2.fz 1
    have S9 := Lib.hid (s2.put m s)
    have B9 := Lib.hid (below_put bw (show w.heap.size ≤ w.heap.size + 1 + 1 by omega) (.int .i64 m) (.int .i64 s))
    clear s0 s1 s2 hb1 bw
    go_wp2
    refine bodyPost_ret (v := st m s) ?_ rfl ⟨rfl, ?_⟩
    · exact res_st Tryd.results21 rfl S9.out
    · exact B9.out
end Go.Proofs.YtcmknbdeafcknaaDoor

end
