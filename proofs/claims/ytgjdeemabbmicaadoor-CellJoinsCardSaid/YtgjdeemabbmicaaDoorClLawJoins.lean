/-
  The law CellJoins: for every three cells it answers true, and nothing that was there is written.
-/
import Derived.Test.YtgjdeemabbmicaaDoorClAwake
import Derived.Test.YtgjdeemabbmicaaDoorClArgs
import Derived.Test.YtgjdeemabbmicaaDoorClFacts
namespace Go.Proofs.YtgjdeemabbmicaaDoor
open Go.RowKit WM
set_option linter.unusedVariables false
set_option maxHeartbeats 4000000 in
theorem walk_cellJoins (a b c : Cel) (w : World) (hlaid : Laid w) (ha : IsCel a) (hb : IsCel b) (hc : IsCel c) :
    Calls Tryd.prog 4 #[a.v, b.v, c.v] w fun e w' => e = .returned (.bool true) ∧ Below w.heap.size w w' := by
  have LD := Lib.hid (fun (X : World) (hX : Below w.heap.size w X) => hlaid.below hX (Nat.le_refl _))
  have FA := Lib.hid (few_any a)
  have FB := Lib.hid (few_any b)
  have FC := Lib.hid (few_any c)
  dsimp only [Cel.v] at FA FB FC ⊢
  clear hlaid ha hb hc
  cases ga : cfew a
  · rw [ga] at FA
    clear ga
    have B0 := Lib.hid (Below.refl w.heap.size w)
    have T3n := ClAt.new w a
    have T3 := Lib.hid (T3n)
    clear T3n
    have B1 := Lib.hid (B0.out.alloc B0.out.size (.cells #[.int .i64 a.n, .int .i64 a.r, .string a.s] 25))
    have T3' := Lib.hid (T3.out.old (.cells #[.int .i64 b.n, .int .i64 b.r, .string b.s] 25))
    have T4n := ClAt.new (w.alloc (.cells #[.int .i64 a.n, .int .i64 a.r, .string a.s] 25)) b
    simp only [World.size_alloc] at T4n
    have T4 := Lib.hid (T4n)
    clear T4n
    have B2 := Lib.hid (B1.out.alloc B1.out.size (.cells #[.int .i64 b.n, .int .i64 b.r, .string b.s] 25))
    have T3'' := Lib.hid (T3'.out.old (.cells #[.int .i64 c.n, .int .i64 c.r, .string c.s] 25))
    have T4' := Lib.hid (T4.out.old (.cells #[.int .i64 c.n, .int .i64 c.r, .string c.s] 25))
    have T5n := ClAt.new ((w.alloc (.cells #[.int .i64 a.n, .int .i64 a.r, .string a.s] 25)).alloc (.cells #[.int .i64 b.n, .int .i64 b.r, .string b.s] 25)) c
    simp only [World.size_alloc] at T5n
    have T5 := Lib.hid (T5n)
    clear T5n
    have B3 := Lib.hid (B2.out.alloc B2.out.size (.cells #[.int .i64 c.n, .int .i64 c.r, .string c.s] 25))
    go_enter Tryd.func4, Tryd.ntmps4
    go_wp2_with fail
    refine (clAwake _ (LD.out _ B3.out)).mono ?_
    rintro e w1 ⟨rfl, hb⟩
    have T3_1 := Lib.hid (T3''.out.below hb T3''.out.lt)
    have T4_1 := Lib.hid (T4'.out.below hb T4'.out.lt)
    have T5_1 := Lib.hid (T5.out.below hb T5.out.lt)
    have B4 := Lib.hid (B3.out.trans (hb.mono B3.out.size))
    clear hb
    have c30 := T3_1.out.c0
    have c31 := T3_1.out.c1
    have c32 := T3_1.out.c2
    have c40 := T4_1.out.c0
    have c41 := T4_1.out.c1
    have c42 := T4_1.out.c2
    have c50 := T5_1.out.c0
    have c51 := T5_1.out.c1
    have c52 := T5_1.out.c2
    go_wp2_with fail
    refine (FA.out _).mono ?_
    rintro e w2 ⟨rfl, hb⟩
    clear c30 c31 c32 c40 c41 c42 c50 c51 c52
    have T3_2 := Lib.hid (T3_1.out.below hb T3_1.out.lt)
    have T4_2 := Lib.hid (T4_1.out.below hb T4_1.out.lt)
    have T5_2 := Lib.hid (T5_1.out.below hb T5_1.out.lt)
    have B5 := Lib.hid (B4.out.trans (hb.mono B4.out.size))
    clear hb
    have c30 := T3_2.out.c0
    have c31 := T3_2.out.c1
    have c32 := T3_2.out.c2
    have c40 := T4_2.out.c0
    have c41 := T4_2.out.c1
    have c42 := T4_2.out.c2
    have c50 := T5_2.out.c0
    have c51 := T5_2.out.c1
    have c52 := T5_2.out.c2
    go_wp2_with fail
    refine (FB.out _).mono ?_
    rintro e w3 ⟨rfl, hb⟩
    clear c30 c31 c32 c40 c41 c42 c50 c51 c52
    have T3_3 := Lib.hid (T3_2.out.below hb T3_2.out.lt)
    have T4_3 := Lib.hid (T4_2.out.below hb T4_2.out.lt)
    have T5_3 := Lib.hid (T5_2.out.below hb T5_2.out.lt)
    have B6 := Lib.hid (B5.out.trans (hb.mono B5.out.size))
    clear hb
    have c30 := T3_3.out.c0
    have c31 := T3_3.out.c1
    have c32 := T3_3.out.c2
    have c40 := T4_3.out.c0
    have c41 := T4_3.out.c1
    have c42 := T4_3.out.c2
    have c50 := T5_3.out.c0
    have c51 := T5_3.out.c1
    have c52 := T5_3.out.c2
    go_wp2_with fail
    refine (FC.out _).mono ?_
    rintro e w4 ⟨rfl, hb⟩
    clear c30 c31 c32 c40 c41 c42 c50 c51 c52
    have T3_4 := Lib.hid (T3_3.out.below hb T3_3.out.lt)
    have T4_4 := Lib.hid (T4_3.out.below hb T4_3.out.lt)
    have T5_4 := Lib.hid (T5_3.out.below hb T5_3.out.lt)
    have B7 := Lib.hid (B6.out.trans (hb.mono B6.out.size))
    clear hb
    have c30 := T3_4.out.c0
    have c31 := T3_4.out.c1
    have c32 := T3_4.out.c2
    have c40 := T4_4.out.c0
    have c41 := T4_4.out.c1
    have c42 := T4_4.out.c2
    have c50 := T5_4.out.c0
    have c51 := T5_4.out.c1
    have c52 := T5_4.out.c2
    go_wp2
    go_ret
    exact ⟨rfl, B7.out⟩
  · have sa : a.s.size ≤ 300 := by simpa [cfew] using ga
    rw [ga] at FA
    clear ga
    cases gb : cfew b
    · rw [gb] at FB
      clear gb sa
      have B0 := Lib.hid (Below.refl w.heap.size w)
      have T3n := ClAt.new w a
      have T3 := Lib.hid (T3n)
      clear T3n
      have B1 := Lib.hid (B0.out.alloc B0.out.size (.cells #[.int .i64 a.n, .int .i64 a.r, .string a.s] 25))
      have T3' := Lib.hid (T3.out.old (.cells #[.int .i64 b.n, .int .i64 b.r, .string b.s] 25))
      have T4n := ClAt.new (w.alloc (.cells #[.int .i64 a.n, .int .i64 a.r, .string a.s] 25)) b
      simp only [World.size_alloc] at T4n
      have T4 := Lib.hid (T4n)
      clear T4n
      have B2 := Lib.hid (B1.out.alloc B1.out.size (.cells #[.int .i64 b.n, .int .i64 b.r, .string b.s] 25))
      have T3'' := Lib.hid (T3'.out.old (.cells #[.int .i64 c.n, .int .i64 c.r, .string c.s] 25))
      have T4' := Lib.hid (T4.out.old (.cells #[.int .i64 c.n, .int .i64 c.r, .string c.s] 25))
      have T5n := ClAt.new ((w.alloc (.cells #[.int .i64 a.n, .int .i64 a.r, .string a.s] 25)).alloc (.cells #[.int .i64 b.n, .int .i64 b.r, .string b.s] 25)) c
      simp only [World.size_alloc] at T5n
      have T5 := Lib.hid (T5n)
      clear T5n
      have B3 := Lib.hid (B2.out.alloc B2.out.size (.cells #[.int .i64 c.n, .int .i64 c.r, .string c.s] 25))
      go_enter Tryd.func4, Tryd.ntmps4
      go_wp2_with fail
      refine (clAwake _ (LD.out _ B3.out)).mono ?_
      rintro e w1 ⟨rfl, hb⟩
      have T3_1 := Lib.hid (T3''.out.below hb T3''.out.lt)
      have T4_1 := Lib.hid (T4'.out.below hb T4'.out.lt)
      have T5_1 := Lib.hid (T5.out.below hb T5.out.lt)
      have B4 := Lib.hid (B3.out.trans (hb.mono B3.out.size))
      clear hb
      have c30 := T3_1.out.c0
      have c31 := T3_1.out.c1
      have c32 := T3_1.out.c2
      have c40 := T4_1.out.c0
      have c41 := T4_1.out.c1
      have c42 := T4_1.out.c2
      have c50 := T5_1.out.c0
      have c51 := T5_1.out.c1
      have c52 := T5_1.out.c2
      go_wp2_with fail
      refine (FA.out _).mono ?_
      rintro e w2 ⟨rfl, hb⟩
      clear c30 c31 c32 c40 c41 c42 c50 c51 c52
      have T3_2 := Lib.hid (T3_1.out.below hb T3_1.out.lt)
      have T4_2 := Lib.hid (T4_1.out.below hb T4_1.out.lt)
      have T5_2 := Lib.hid (T5_1.out.below hb T5_1.out.lt)
      have B5 := Lib.hid (B4.out.trans (hb.mono B4.out.size))
      clear hb
      have c30 := T3_2.out.c0
      have c31 := T3_2.out.c1
      have c32 := T3_2.out.c2
      have c40 := T4_2.out.c0
      have c41 := T4_2.out.c1
      have c42 := T4_2.out.c2
      have c50 := T5_2.out.c0
      have c51 := T5_2.out.c1
      have c52 := T5_2.out.c2
      go_wp2_with fail
      refine (FB.out _).mono ?_
      rintro e w3 ⟨rfl, hb⟩
      clear c30 c31 c32 c40 c41 c42 c50 c51 c52
      have T3_3 := Lib.hid (T3_2.out.below hb T3_2.out.lt)
      have T4_3 := Lib.hid (T4_2.out.below hb T4_2.out.lt)
      have T5_3 := Lib.hid (T5_2.out.below hb T5_2.out.lt)
      have B6 := Lib.hid (B5.out.trans (hb.mono B5.out.size))
      clear hb
      have c30 := T3_3.out.c0
      have c31 := T3_3.out.c1
      have c32 := T3_3.out.c2
      have c40 := T4_3.out.c0
      have c41 := T4_3.out.c1
      have c42 := T4_3.out.c2
      have c50 := T5_3.out.c0
      have c51 := T5_3.out.c1
      have c52 := T5_3.out.c2
      go_wp2_with fail
      refine (FC.out _).mono ?_
      rintro e w4 ⟨rfl, hb⟩
      clear c30 c31 c32 c40 c41 c42 c50 c51 c52
      have T3_4 := Lib.hid (T3_3.out.below hb T3_3.out.lt)
      have T4_4 := Lib.hid (T4_3.out.below hb T4_3.out.lt)
      have T5_4 := Lib.hid (T5_3.out.below hb T5_3.out.lt)
      have B7 := Lib.hid (B6.out.trans (hb.mono B6.out.size))
      clear hb
      have c30 := T3_4.out.c0
      have c31 := T3_4.out.c1
      have c32 := T3_4.out.c2
      have c40 := T4_4.out.c0
      have c41 := T4_4.out.c1
      have c42 := T4_4.out.c2
      have c50 := T5_4.out.c0
      have c51 := T5_4.out.c1
      have c52 := T5_4.out.c2
      go_wp2
      go_ret
      exact ⟨rfl, B7.out⟩
    · have sb : b.s.size ≤ 300 := by simpa [cfew] using gb
      rw [gb] at FB
      clear gb
      cases gc : cfew c
      · rw [gc] at FC
        clear gc sa sb
        have B0 := Lib.hid (Below.refl w.heap.size w)
        have T3n := ClAt.new w a
        have T3 := Lib.hid (T3n)
        clear T3n
        have B1 := Lib.hid (B0.out.alloc B0.out.size (.cells #[.int .i64 a.n, .int .i64 a.r, .string a.s] 25))
        have T3' := Lib.hid (T3.out.old (.cells #[.int .i64 b.n, .int .i64 b.r, .string b.s] 25))
        have T4n := ClAt.new (w.alloc (.cells #[.int .i64 a.n, .int .i64 a.r, .string a.s] 25)) b
        simp only [World.size_alloc] at T4n
        have T4 := Lib.hid (T4n)
        clear T4n
        have B2 := Lib.hid (B1.out.alloc B1.out.size (.cells #[.int .i64 b.n, .int .i64 b.r, .string b.s] 25))
        have T3'' := Lib.hid (T3'.out.old (.cells #[.int .i64 c.n, .int .i64 c.r, .string c.s] 25))
        have T4' := Lib.hid (T4.out.old (.cells #[.int .i64 c.n, .int .i64 c.r, .string c.s] 25))
        have T5n := ClAt.new ((w.alloc (.cells #[.int .i64 a.n, .int .i64 a.r, .string a.s] 25)).alloc (.cells #[.int .i64 b.n, .int .i64 b.r, .string b.s] 25)) c
        simp only [World.size_alloc] at T5n
        have T5 := Lib.hid (T5n)
        clear T5n
        have B3 := Lib.hid (B2.out.alloc B2.out.size (.cells #[.int .i64 c.n, .int .i64 c.r, .string c.s] 25))
        go_enter Tryd.func4, Tryd.ntmps4
        go_wp2_with fail
        refine (clAwake _ (LD.out _ B3.out)).mono ?_
        rintro e w1 ⟨rfl, hb⟩
        have T3_1 := Lib.hid (T3''.out.below hb T3''.out.lt)
        have T4_1 := Lib.hid (T4'.out.below hb T4'.out.lt)
        have T5_1 := Lib.hid (T5.out.below hb T5.out.lt)
        have B4 := Lib.hid (B3.out.trans (hb.mono B3.out.size))
        clear hb
        have c30 := T3_1.out.c0
        have c31 := T3_1.out.c1
        have c32 := T3_1.out.c2
        have c40 := T4_1.out.c0
        have c41 := T4_1.out.c1
        have c42 := T4_1.out.c2
        have c50 := T5_1.out.c0
        have c51 := T5_1.out.c1
        have c52 := T5_1.out.c2
        go_wp2_with fail
        refine (FA.out _).mono ?_
        rintro e w2 ⟨rfl, hb⟩
        clear c30 c31 c32 c40 c41 c42 c50 c51 c52
        have T3_2 := Lib.hid (T3_1.out.below hb T3_1.out.lt)
        have T4_2 := Lib.hid (T4_1.out.below hb T4_1.out.lt)
        have T5_2 := Lib.hid (T5_1.out.below hb T5_1.out.lt)
        have B5 := Lib.hid (B4.out.trans (hb.mono B4.out.size))
        clear hb
        have c30 := T3_2.out.c0
        have c31 := T3_2.out.c1
        have c32 := T3_2.out.c2
        have c40 := T4_2.out.c0
        have c41 := T4_2.out.c1
        have c42 := T4_2.out.c2
        have c50 := T5_2.out.c0
        have c51 := T5_2.out.c1
        have c52 := T5_2.out.c2
        go_wp2_with fail
        refine (FB.out _).mono ?_
        rintro e w3 ⟨rfl, hb⟩
        clear c30 c31 c32 c40 c41 c42 c50 c51 c52
        have T3_3 := Lib.hid (T3_2.out.below hb T3_2.out.lt)
        have T4_3 := Lib.hid (T4_2.out.below hb T4_2.out.lt)
        have T5_3 := Lib.hid (T5_2.out.below hb T5_2.out.lt)
        have B6 := Lib.hid (B5.out.trans (hb.mono B5.out.size))
        clear hb
        have c30 := T3_3.out.c0
        have c31 := T3_3.out.c1
        have c32 := T3_3.out.c2
        have c40 := T4_3.out.c0
        have c41 := T4_3.out.c1
        have c42 := T4_3.out.c2
        have c50 := T5_3.out.c0
        have c51 := T5_3.out.c1
        have c52 := T5_3.out.c2
        go_wp2_with fail
        refine (FC.out _).mono ?_
        rintro e w4 ⟨rfl, hb⟩
        clear c30 c31 c32 c40 c41 c42 c50 c51 c52
        have T3_4 := Lib.hid (T3_3.out.below hb T3_3.out.lt)
        have T4_4 := Lib.hid (T4_3.out.below hb T4_3.out.lt)
        have T5_4 := Lib.hid (T5_3.out.below hb T5_3.out.lt)
        have B7 := Lib.hid (B6.out.trans (hb.mono B6.out.size))
        clear hb
        have c30 := T3_4.out.c0
        have c31 := T3_4.out.c1
        have c32 := T3_4.out.c2
        have c40 := T4_4.out.c0
        have c41 := T4_4.out.c1
        have c42 := T4_4.out.c2
        have c50 := T5_4.out.c0
        have c51 := T5_4.out.c1
        have c52 := T5_4.out.c2
        go_wp2
        go_ret
        exact ⟨rfl, B7.out⟩
      · have sc : c.s.size ≤ 300 := by simpa [cfew] using gc
        rw [gc] at FC
        clear gc
        cases hl : cless a b
        · skip
          have hx : cjoin a b = a := cjoin_no hl
          have hy : cjoin a (cjoin b c) = cjoin a c := by rw [cjoin_assoc, hx]
          have hba : cjoin b a = a := by rw [cjoin_comm, hx]
          obtain ⟨u, hu⟩ : ∃ u, u = cjoin b c := ⟨_, rfl⟩
          obtain ⟨y, hyy⟩ : ∃ y, y = cjoin a c := ⟨_, rfl⟩
          have su : u.s.size ≤ 300 := by rw [hu]; exact cjoin_size sb sc
          have JAB := Lib.hid (fun (w : World) (hl : Laid w) => cjoin_any a b w hl sa sb)
          have JXC := Lib.hid (fun (w : World) (hl : Laid w) => cjoin_any a c w hl sa sc)
          have JBC := Lib.hid (fun (w : World) (hl : Laid w) => cjoin_any b c w hl sb sc)
          have JAU := Lib.hid (fun (w : World) (hl : Laid w) => cjoin_any a u w hl sa su)
          have JBA := Lib.hid (fun (w : World) (hl : Laid w) => cjoin_any b a w hl sb sa)
          have JAA := Lib.hid (fun (w : World) (hl : Laid w) => cjoin_any a a w hl sa sa)
          have JXA := Lib.hid (fun (w : World) (hl : Laid w) => cjoin_any a a w hl sa sa)
          have LXA := Lib.hid (fun (w : World) (hl : Laid w) => cless_any a a w hl sa sa)
          have LXB := Lib.hid (fun (w : World) (hl : Laid w) => cless_any a b w hl sa sb)
          rw [hx] at JAB
          rw [← hyy] at JXC
          rw [← hu] at JBC
          rw [show cjoin a u = y by rw [hu, hy, hyy]] at JAU
          rw [hba] at JBA
          rw [cjoin_self] at JAA
          rw [show cjoin a a = a from cjoin_self a] at JXA
          rw [show cless a a = false from cless_self a] at LXA
          rw [show cless a b = false from hl] at LXB
          have EA := Lib.hid (cl_same a)
          have EB := Lib.hid (cl_same b)
          have EX := Lib.hid (cl_same a)
          have EY := Lib.hid (cl_same y)
          dsimp only [Cel.v] at JAB JXC JBC JAU JBA JAA JXA
          dsimp only [Cel.v] at LXA LXB
          clear hx hy hba hu hyy su hl sa sb sc
          have B0 := Lib.hid (Below.refl w.heap.size w)
          have T3n := ClAt.new w a
          have T3 := Lib.hid (T3n)
          clear T3n
          have B1 := Lib.hid (B0.out.alloc B0.out.size (.cells #[.int .i64 a.n, .int .i64 a.r, .string a.s] 25))
          have T3' := Lib.hid (T3.out.old (.cells #[.int .i64 b.n, .int .i64 b.r, .string b.s] 25))
          have T4n := ClAt.new (w.alloc (.cells #[.int .i64 a.n, .int .i64 a.r, .string a.s] 25)) b
          simp only [World.size_alloc] at T4n
          have T4 := Lib.hid (T4n)
          clear T4n
          have B2 := Lib.hid (B1.out.alloc B1.out.size (.cells #[.int .i64 b.n, .int .i64 b.r, .string b.s] 25))
          have T3'' := Lib.hid (T3'.out.old (.cells #[.int .i64 c.n, .int .i64 c.r, .string c.s] 25))
          have T4' := Lib.hid (T4.out.old (.cells #[.int .i64 c.n, .int .i64 c.r, .string c.s] 25))
          have T5n := ClAt.new ((w.alloc (.cells #[.int .i64 a.n, .int .i64 a.r, .string a.s] 25)).alloc (.cells #[.int .i64 b.n, .int .i64 b.r, .string b.s] 25)) c
          simp only [World.size_alloc] at T5n
          have T5 := Lib.hid (T5n)
          clear T5n
          have B3 := Lib.hid (B2.out.alloc B2.out.size (.cells #[.int .i64 c.n, .int .i64 c.r, .string c.s] 25))
          go_enter Tryd.func4, Tryd.ntmps4
          go_wp2_with fail
          refine (clAwake _ (LD.out _ B3.out)).mono ?_
          rintro e w1 ⟨rfl, hb⟩
          have T3_1 := Lib.hid (T3''.out.below hb T3''.out.lt)
          have T4_1 := Lib.hid (T4'.out.below hb T4'.out.lt)
          have T5_1 := Lib.hid (T5.out.below hb T5.out.lt)
          have B4 := Lib.hid (B3.out.trans (hb.mono B3.out.size))
          clear hb
          have c30 := T3_1.out.c0
          have c31 := T3_1.out.c1
          have c32 := T3_1.out.c2
          have c40 := T4_1.out.c0
          have c41 := T4_1.out.c1
          have c42 := T4_1.out.c2
          have c50 := T5_1.out.c0
          have c51 := T5_1.out.c1
          have c52 := T5_1.out.c2
          go_wp2_with fail
          refine (FA.out _).mono ?_
          rintro e w2 ⟨rfl, hb⟩
          clear c30 c31 c32 c40 c41 c42 c50 c51 c52
          have T3_2 := Lib.hid (T3_1.out.below hb T3_1.out.lt)
          have T4_2 := Lib.hid (T4_1.out.below hb T4_1.out.lt)
          have T5_2 := Lib.hid (T5_1.out.below hb T5_1.out.lt)
          have B5 := Lib.hid (B4.out.trans (hb.mono B4.out.size))
          clear hb
          have c30 := T3_2.out.c0
          have c31 := T3_2.out.c1
          have c32 := T3_2.out.c2
          have c40 := T4_2.out.c0
          have c41 := T4_2.out.c1
          have c42 := T4_2.out.c2
          have c50 := T5_2.out.c0
          have c51 := T5_2.out.c1
          have c52 := T5_2.out.c2
          go_wp2_with fail
          refine (FB.out _).mono ?_
          rintro e w3 ⟨rfl, hb⟩
          clear c30 c31 c32 c40 c41 c42 c50 c51 c52
          have T3_3 := Lib.hid (T3_2.out.below hb T3_2.out.lt)
          have T4_3 := Lib.hid (T4_2.out.below hb T4_2.out.lt)
          have T5_3 := Lib.hid (T5_2.out.below hb T5_2.out.lt)
          have B6 := Lib.hid (B5.out.trans (hb.mono B5.out.size))
          clear hb
          have c30 := T3_3.out.c0
          have c31 := T3_3.out.c1
          have c32 := T3_3.out.c2
          have c40 := T4_3.out.c0
          have c41 := T4_3.out.c1
          have c42 := T4_3.out.c2
          have c50 := T5_3.out.c0
          have c51 := T5_3.out.c1
          have c52 := T5_3.out.c2
          go_wp2_with fail
          refine (FC.out _).mono ?_
          rintro e w4 ⟨rfl, hb⟩
          clear c30 c31 c32 c40 c41 c42 c50 c51 c52
          have T3_4 := Lib.hid (T3_3.out.below hb T3_3.out.lt)
          have T4_4 := Lib.hid (T4_3.out.below hb T4_3.out.lt)
          have T5_4 := Lib.hid (T5_3.out.below hb T5_3.out.lt)
          have B7 := Lib.hid (B6.out.trans (hb.mono B6.out.size))
          clear hb
          have c30 := T3_4.out.c0
          have c31 := T3_4.out.c1
          have c32 := T3_4.out.c2
          have c40 := T4_4.out.c0
          have c41 := T4_4.out.c1
          have c42 := T4_4.out.c2
          have c50 := T5_4.out.c0
          have c51 := T5_4.out.c1
          have c52 := T5_4.out.c2
          go_wp2_with fail
          refine (JAB.out _ (LD.out _ B7.out)).mono ?_
          rintro e w5 ⟨rfl, hb⟩
          clear c30 c31 c32 c40 c41 c42 c50 c51 c52
          have T3_5 := Lib.hid (T3_4.out.below hb T3_4.out.lt)
          have T4_5 := Lib.hid (T4_4.out.below hb T4_4.out.lt)
          have T5_5 := Lib.hid (T5_4.out.below hb T5_4.out.lt)
          have B8 := Lib.hid (B7.out.trans (hb.mono B7.out.size))
          clear hb
          have T3_5' := Lib.hid (T3_5.out.old (.cells #[.int .i64 a.n, .int .i64 a.r, .string a.s] 25))
          have T4_5' := Lib.hid (T4_5.out.old (.cells #[.int .i64 a.n, .int .i64 a.r, .string a.s] 25))
          have T5_5' := Lib.hid (T5_5.out.old (.cells #[.int .i64 a.n, .int .i64 a.r, .string a.s] 25))
          have T11n := ClAt.new w5 a
          have T11 := Lib.hid (T11n)
          clear T11n
          have B9 := Lib.hid (B8.out.alloc B8.out.size (.cells #[.int .i64 a.n, .int .i64 a.r, .string a.s] 25))
          have c30 := T3_5'.out.c0
          have c31 := T3_5'.out.c1
          have c32 := T3_5'.out.c2
          have c40 := T4_5'.out.c0
          have c41 := T4_5'.out.c1
          have c42 := T4_5'.out.c2
          have c50 := T5_5'.out.c0
          have c51 := T5_5'.out.c1
          have c52 := T5_5'.out.c2
          have c110 := T11.out.c0
          have c111 := T11.out.c1
          have c112 := T11.out.c2
          go_wp2_with fail
          refine (JXC.out _ (LD.out _ B9.out)).mono ?_
          rintro e w6 ⟨rfl, hb⟩
          clear c30 c31 c32 c40 c41 c42 c50 c51 c52 c110 c111 c112
          have T3_6 := Lib.hid (T3_5'.out.below hb T3_5'.out.lt)
          have T4_6 := Lib.hid (T4_5'.out.below hb T4_5'.out.lt)
          have T5_6 := Lib.hid (T5_5'.out.below hb T5_5'.out.lt)
          have T11_6 := Lib.hid (T11.out.below hb T11.out.lt)
          have B10 := Lib.hid (B9.out.trans (hb.mono B9.out.size))
          clear hb
          have T3_6' := Lib.hid (T3_6.out.old (.cells #[.int .i64 y.n, .int .i64 y.r, .string y.s] 25))
          have T4_6' := Lib.hid (T4_6.out.old (.cells #[.int .i64 y.n, .int .i64 y.r, .string y.s] 25))
          have T5_6' := Lib.hid (T5_6.out.old (.cells #[.int .i64 y.n, .int .i64 y.r, .string y.s] 25))
          have T11_6' := Lib.hid (T11_6.out.old (.cells #[.int .i64 y.n, .int .i64 y.r, .string y.s] 25))
          have T12n := ClAt.new w6 y
          have T12 := Lib.hid (T12n)
          clear T12n
          have B11 := Lib.hid (B10.out.alloc B10.out.size (.cells #[.int .i64 y.n, .int .i64 y.r, .string y.s] 25))
          go_wp2_with fail
          have LE := Lib.hid (fun (w9 : World) (hS : Below (w6.alloc (.cells #[.int .i64 y.n, .int .i64 y.r, .string y.s] 25)).heap.size (w6.alloc (.cells #[.int .i64 y.n, .int .i64 y.r, .string y.s] 25)) w9) => LD.out w9 (B11.out.trans (hS.mono B11.out.size)))
          refine wp_region_G (w6.alloc (.cells #[.int .i64 y.n, .int .i64 y.r, .string y.s] 25)) (by kernel_rfl) ?_
          refine wpG_take (i := 0) (oi := ⟨some 41, _, _, _, _, _⟩) (v := ?_) rfl (by kernel_rfl) (by kernel_rfl) (by kernel_rfl) (Or.inl ⟨by rfl, unib_val ?_⟩) ?_; rotate_left; (focus (intro w9 hSw; have q9 := T12.out.below hSw T12.out.lt; have q0 := q9.c0; have q1 := q9.c1; have q2 := q9.c2; go_simp; try with_reducible rfl)); simp only [Act.put, List.setIfInBounds_toArray, List.set_cons_zero, List.set_cons_succ]
          refine wpG_take (i := 1) (oi := ⟨some 42, _, _, _, _, _⟩) (v := ?_) rfl (by kernel_rfl) (by kernel_rfl) (by kernel_rfl) (Or.inl ⟨by rfl, unib_val ?_⟩) ?_; rotate_left; (focus (intro w9 hSw; have q9 := T3_6'.out.below hSw T3_6'.out.lt; have q0 := q9.c0; have q1 := q9.c1; have q2 := q9.c2; go_simp; try with_reducible rfl)); simp only [Act.put, List.setIfInBounds_toArray, List.set_cons_zero, List.set_cons_succ]
          refine wpG_take (i := 2) (oi := ⟨some 43, _, _, _, _, _⟩) (v := ?_) rfl (by kernel_rfl) (by kernel_rfl) (by kernel_rfl) (Or.inl ⟨by rfl, unib_val ?_⟩) ?_; rotate_left; (focus (intro w9 hSw; have q9 := T4_6'.out.below hSw T4_6'.out.lt; have q0 := q9.c0; have q1 := q9.c1; have q2 := q9.c2; go_simp; try with_reducible rfl)); simp only [Act.put, List.setIfInBounds_toArray, List.set_cons_zero, List.set_cons_succ]
          refine wpG_take (i := 3) (oi := ⟨some 44, _, _, _, _, _⟩) (v := ?_) rfl (by kernel_rfl) (by kernel_rfl) (by kernel_rfl) (Or.inl ⟨by rfl, unib_val ?_⟩) ?_; rotate_left; (focus (intro w9 hSw; have q9 := T5_6'.out.below hSw T5_6'.out.lt; have q0 := q9.c0; have q1 := q9.c1; have q2 := q9.c2; go_simp; try with_reducible rfl)); simp only [Act.put, List.setIfInBounds_toArray, List.set_cons_zero, List.set_cons_succ]
          refine wpG_take (i := 4) (oi := ⟨some 45, _, _, _, _, _⟩) rfl (by kernel_rfl) (by kernel_rfl) (by kernel_rfl) (Or.inl ⟨by rfl, unib_call_if ?_ (fun w9 hSw => JBC.out w9 (LE.out w9 hSw))⟩) ?_; (focus (intro w9 hSw; go_simp; try with_reducible rfl)); simp only [Act.put, List.setIfInBounds_toArray, List.set_cons_zero, List.set_cons_succ]
          refine wpG_take (i := 5) (oi := ⟨some 46, _, _, _, _, _⟩) rfl (by kernel_rfl) (by kernel_rfl) (by kernel_rfl) (Or.inl ⟨by rfl, unib_call_if ?_ (fun w9 hSw => JAU.out w9 (LE.out w9 hSw))⟩) ?_; (focus (intro w9 hSw; go_simp; try with_reducible rfl)); simp only [Act.put, List.setIfInBounds_toArray, List.set_cons_zero, List.set_cons_succ]
          refine wpG_take (i := 6) (oi := ⟨some 47, _, _, _, _, _⟩) (v := ?_) rfl (by kernel_rfl) (by kernel_rfl) (by kernel_rfl) (Or.inl ⟨by rfl, unib_val ?_⟩) ?_; rotate_left; (focus (intro w9 hSw; have q0 := EY.out w9; go_simp; try with_reducible rfl)); simp only [Act.put, List.setIfInBounds_toArray, List.set_cons_zero, List.set_cons_succ]
          refine wpG_take (i := 7) (oi := ⟨some 48, _, _, _, _, _⟩) (v := ?_) rfl (by kernel_rfl) (by kernel_rfl) (by kernel_rfl) (Or.inl ⟨by rfl, unib_val ?_⟩) ?_; rotate_left; (focus (intro w9 hSw; go_simp; try with_reducible rfl)); simp only [Act.put, List.setIfInBounds_toArray, List.set_cons_zero, List.set_cons_succ]
          refine wpG_take (i := 8) (oi := ⟨some 49, _, _, _, _, _⟩) (v := ?_) rfl (by kernel_rfl) (by kernel_rfl) (by kernel_rfl) (Or.inl ⟨by rfl, unib_val ?_⟩) ?_; rotate_left; (focus (intro w9 hSw; have q9 := T11_6'.out.below hSw T11_6'.out.lt; have q0 := q9.c0; have q1 := q9.c1; have q2 := q9.c2; go_simp; try with_reducible rfl)); simp only [Act.put, List.setIfInBounds_toArray, List.set_cons_zero, List.set_cons_succ]
          refine wpG_take (i := 9) (oi := ⟨some 50, _, _, _, _, _⟩) (v := ?_) rfl (by kernel_rfl) (by kernel_rfl) (by kernel_rfl) (Or.inl ⟨by rfl, unib_val ?_⟩) ?_; rotate_left; (focus (intro w9 hSw; have q9 := T4_6'.out.below hSw T4_6'.out.lt; have q0 := q9.c0; have q1 := q9.c1; have q2 := q9.c2; go_simp; try with_reducible rfl)); simp only [Act.put, List.setIfInBounds_toArray, List.set_cons_zero, List.set_cons_succ]
          refine wpG_take (i := 10) (oi := ⟨some 51, _, _, _, _, _⟩) (v := ?_) rfl (by kernel_rfl) (by kernel_rfl) (by kernel_rfl) (Or.inl ⟨by rfl, unib_val ?_⟩) ?_; rotate_left; (focus (intro w9 hSw; have q9 := T3_6'.out.below hSw T3_6'.out.lt; have q0 := q9.c0; have q1 := q9.c1; have q2 := q9.c2; go_simp; try with_reducible rfl)); simp only [Act.put, List.setIfInBounds_toArray, List.set_cons_zero, List.set_cons_succ]
          refine wpG_take (i := 11) (oi := ⟨some 52, _, _, _, _, _⟩) rfl (by kernel_rfl) (by kernel_rfl) (by kernel_rfl) (Or.inl ⟨by rfl, unib_call_if ?_ (fun w9 hSw => JBA.out w9 (LE.out w9 hSw))⟩) ?_; (focus (intro w9 hSw; go_simp; try with_reducible rfl)); simp only [Act.put, List.setIfInBounds_toArray, List.set_cons_zero, List.set_cons_succ]
          refine wpG_take (i := 12) (oi := ⟨some 53, _, _, _, _, _⟩) (v := ?_) rfl (by kernel_rfl) (by kernel_rfl) (by kernel_rfl) (Or.inl ⟨by rfl, unib_val ?_⟩) ?_; rotate_left; (focus (intro w9 hSw; have q0 := EX.out w9; go_simp; try with_reducible rfl)); simp only [Act.put, List.setIfInBounds_toArray, List.set_cons_zero, List.set_cons_succ]
          refine wpG_take (i := 13) (oi := ⟨some 54, _, _, _, _, _⟩) (v := ?_) rfl (by kernel_rfl) (by kernel_rfl) (by kernel_rfl) (Or.inl ⟨by rfl, unib_val ?_⟩) ?_; rotate_left; (focus (intro w9 hSw; go_simp; try with_reducible rfl)); simp only [Act.put, List.setIfInBounds_toArray, List.set_cons_zero, List.set_cons_succ]
          refine wpG_take (i := 14) (oi := ⟨some 55, _, _, _, _, _⟩) (v := ?_) rfl (by kernel_rfl) (by kernel_rfl) (by kernel_rfl) (Or.inl ⟨by rfl, unib_val ?_⟩) ?_; rotate_left; (focus (intro w9 hSw; go_simp; try with_reducible rfl)); simp only [Act.put, List.setIfInBounds_toArray, List.set_cons_zero, List.set_cons_succ]
          refine wpG_take (i := 15) (oi := ⟨some 56, _, _, _, _, _⟩) (v := ?_) rfl (by kernel_rfl) (by kernel_rfl) (by kernel_rfl) (Or.inl ⟨by rfl, unib_val ?_⟩) ?_; rotate_left; (focus (intro w9 hSw; have q9 := T3_6'.out.below hSw T3_6'.out.lt; have q0 := q9.c0; have q1 := q9.c1; have q2 := q9.c2; go_simp; try with_reducible rfl)); simp only [Act.put, List.setIfInBounds_toArray, List.set_cons_zero, List.set_cons_succ]
          refine wpG_take (i := 16) (oi := ⟨some 57, _, _, _, _, _⟩) (v := ?_) rfl (by kernel_rfl) (by kernel_rfl) (by kernel_rfl) (Or.inl ⟨by rfl, unib_val ?_⟩) ?_; rotate_left; (focus (intro w9 hSw; have q9 := T3_6'.out.below hSw T3_6'.out.lt; have q0 := q9.c0; have q1 := q9.c1; have q2 := q9.c2; go_simp; try with_reducible rfl)); simp only [Act.put, List.setIfInBounds_toArray, List.set_cons_zero, List.set_cons_succ]
          refine wpG_take (i := 17) (oi := ⟨some 58, _, _, _, _, _⟩) rfl (by kernel_rfl) (by kernel_rfl) (by kernel_rfl) (Or.inl ⟨by rfl, unib_call_if ?_ (fun w9 hSw => JAA.out w9 (LE.out w9 hSw))⟩) ?_; (focus (intro w9 hSw; go_simp; try with_reducible rfl)); simp only [Act.put, List.setIfInBounds_toArray, List.set_cons_zero, List.set_cons_succ]
          refine wpG_take (i := 18) (oi := ⟨some 59, _, _, _, _, _⟩) (v := ?_) rfl (by kernel_rfl) (by kernel_rfl) (by kernel_rfl) (Or.inl ⟨by rfl, unib_val ?_⟩) ?_; rotate_left; (focus (intro w9 hSw; have q9 := T3_6'.out.below hSw T3_6'.out.lt; have q0 := q9.c0; have q1 := q9.c1; have q2 := q9.c2; go_simp; try with_reducible rfl)); simp only [Act.put, List.setIfInBounds_toArray, List.set_cons_zero, List.set_cons_succ]
          refine wpG_take (i := 19) (oi := ⟨some 60, _, _, _, _, _⟩) (v := ?_) rfl (by kernel_rfl) (by kernel_rfl) (by kernel_rfl) (Or.inl ⟨by rfl, unib_val ?_⟩) ?_; rotate_left; (focus (intro w9 hSw; have q0 := EA.out w9; go_simp; try with_reducible rfl)); simp only [Act.put, List.setIfInBounds_toArray, List.set_cons_zero, List.set_cons_succ]
          refine wpG_take (i := 20) (oi := ⟨some 61, _, _, _, _, _⟩) (v := ?_) rfl (by kernel_rfl) (by kernel_rfl) (by kernel_rfl) (Or.inl ⟨by rfl, unib_val ?_⟩) ?_; rotate_left; (focus (intro w9 hSw; go_simp; try with_reducible rfl)); simp only [Act.put, List.setIfInBounds_toArray, List.set_cons_zero, List.set_cons_succ]
          refine wpG_take (i := 21) (oi := ⟨some 62, _, _, _, _, _⟩) (v := ?_) rfl (by kernel_rfl) (by kernel_rfl) (by kernel_rfl) (Or.inl ⟨by rfl, unib_val ?_⟩) ?_; rotate_left; (focus (intro w9 hSw; go_simp; try with_reducible rfl)); simp only [Act.put, List.setIfInBounds_toArray, List.set_cons_zero, List.set_cons_succ]
          refine wpG_take (i := 22) (oi := ⟨some 63, _, _, _, _, _⟩) (v := ?_) rfl (by kernel_rfl) (by kernel_rfl) (by kernel_rfl) (Or.inl ⟨by rfl, unib_val ?_⟩) ?_; rotate_left; (focus (intro w9 hSw; have q9 := T11_6'.out.below hSw T11_6'.out.lt; have q0 := q9.c0; have q1 := q9.c1; have q2 := q9.c2; go_simp; try with_reducible rfl)); simp only [Act.put, List.setIfInBounds_toArray, List.set_cons_zero, List.set_cons_succ]
          refine wpG_take (i := 23) (oi := ⟨some 64, _, _, _, _, _⟩) (v := ?_) rfl (by kernel_rfl) (by kernel_rfl) (by kernel_rfl) (Or.inl ⟨by rfl, unib_val ?_⟩) ?_; rotate_left; (focus (intro w9 hSw; have q9 := T3_6'.out.below hSw T3_6'.out.lt; have q0 := q9.c0; have q1 := q9.c1; have q2 := q9.c2; go_simp; try with_reducible rfl)); simp only [Act.put, List.setIfInBounds_toArray, List.set_cons_zero, List.set_cons_succ]
          refine wpG_take (i := 24) (oi := ⟨some 65, _, _, _, _, _⟩) (v := ?_) rfl (by kernel_rfl) (by kernel_rfl) (by kernel_rfl) (Or.inl ⟨by rfl, unib_val ?_⟩) ?_; rotate_left; (focus (intro w9 hSw; have q0 := EA.out w9; go_simp; try with_reducible rfl)); simp only [Act.put, List.setIfInBounds_toArray, List.set_cons_zero, List.set_cons_succ]
          refine wpG_take (i := 25) (oi := ⟨some 66, _, _, _, _, _⟩) (v := ?_) rfl (by kernel_rfl) (by kernel_rfl) (by kernel_rfl) (Or.inl ⟨by rfl, unib_val ?_⟩) ?_; rotate_left; (focus (intro w9 hSw; go_simp; try with_reducible rfl)); simp only [Act.put, List.setIfInBounds_toArray, List.set_cons_zero, List.set_cons_succ]
          refine wpG_take (i := 26) (oi := ⟨some 67, _, _, _, _, _⟩) rfl (by kernel_rfl) (by kernel_rfl) (by kernel_rfl) (Or.inr ⟨by rfl, rfl⟩) ?_; simp only [Act.put, List.setIfInBounds_toArray, List.set_cons_zero, List.set_cons_succ]
          refine wpG_take (i := 27) (oi := ⟨some 68, _, _, _, _, _⟩) rfl (by kernel_rfl) (by kernel_rfl) (by kernel_rfl) (Or.inr ⟨by rfl, rfl⟩) ?_; simp only [Act.put, List.setIfInBounds_toArray, List.set_cons_zero, List.set_cons_succ]
          refine wpG_take (i := 28) (oi := ⟨some 69, _, _, _, _, _⟩) rfl (by kernel_rfl) (by kernel_rfl) (by kernel_rfl) (Or.inr ⟨by rfl, rfl⟩) ?_; simp only [Act.put, List.setIfInBounds_toArray, List.set_cons_zero, List.set_cons_succ]
          refine wpG_take (i := 29) (oi := ⟨some 70, _, _, _, _, _⟩) (v := ?_) rfl (by kernel_rfl) (by kernel_rfl) (by kernel_rfl) (Or.inl ⟨by rfl, unib_val ?_⟩) ?_; rotate_left; (focus (intro w9 hSw; go_simp; try with_reducible rfl)); simp only [Act.put, List.setIfInBounds_toArray, List.set_cons_zero, List.set_cons_succ]
          refine wpG_take (i := 30) (oi := ⟨some 71, _, _, _, _, _⟩) (v := ?_) rfl (by kernel_rfl) (by kernel_rfl) (by kernel_rfl) (Or.inl ⟨by rfl, unib_val ?_⟩) ?_; rotate_left; (focus (intro w9 hSw; go_simp; try with_reducible rfl)); simp only [Act.put, List.setIfInBounds_toArray, List.set_cons_zero, List.set_cons_succ]
          refine wpG_take (i := 31) (oi := ⟨some 72, _, _, _, _, _⟩) (v := ?_) rfl (by kernel_rfl) (by kernel_rfl) (by kernel_rfl) (Or.inl ⟨by rfl, unib_val ?_⟩) ?_; rotate_left; (focus (intro w9 hSw; go_simp; try with_reducible rfl)); simp only [Act.put, List.setIfInBounds_toArray, List.set_cons_zero, List.set_cons_succ]
          refine wpG_take (i := 32) (oi := ⟨some 73, _, _, _, _, _⟩) (v := ?_) rfl (by kernel_rfl) (by kernel_rfl) (by kernel_rfl) (Or.inl ⟨by rfl, unib_val ?_⟩) ?_; rotate_left; (focus (intro w9 hSw; have q9 := T11_6'.out.below hSw T11_6'.out.lt; have q0 := q9.c0; have q1 := q9.c1; have q2 := q9.c2; go_simp; try with_reducible rfl)); simp only [Act.put, List.setIfInBounds_toArray, List.set_cons_zero, List.set_cons_succ]
          refine wpG_take (i := 33) (oi := ⟨some 74, _, _, _, _, _⟩) (v := ?_) rfl (by kernel_rfl) (by kernel_rfl) (by kernel_rfl) (Or.inl ⟨by rfl, unib_val ?_⟩) ?_; rotate_left; (focus (intro w9 hSw; have q9 := T3_6'.out.below hSw T3_6'.out.lt; have q0 := q9.c0; have q1 := q9.c1; have q2 := q9.c2; go_simp; try with_reducible rfl)); simp only [Act.put, List.setIfInBounds_toArray, List.set_cons_zero, List.set_cons_succ]
          refine wpG_take (i := 34) (oi := ⟨some 75, _, _, _, _, _⟩) rfl (by kernel_rfl) (by kernel_rfl) (by kernel_rfl) (Or.inl ⟨by rfl, unib_call_if ?_ (fun w9 hSw => LXA.out w9 (LE.out w9 hSw))⟩) ?_; (focus (intro w9 hSw; go_simp; try with_reducible rfl)); simp only [Act.put, List.setIfInBounds_toArray, List.set_cons_zero, List.set_cons_succ]
          refine wpG_take (i := 35) (oi := ⟨some 76, _, _, _, _, _⟩) (v := ?_) rfl (by kernel_rfl) (by kernel_rfl) (by kernel_rfl) (Or.inl ⟨by rfl, unib_val ?_⟩) ?_; rotate_left; (focus (intro w9 hSw; go_simp; try with_reducible rfl)); simp only [Act.put, List.setIfInBounds_toArray, List.set_cons_zero, List.set_cons_succ]
          refine wpG_take (i := 36) (oi := ⟨some 77, _, _, _, _, _⟩) (v := ?_) rfl (by kernel_rfl) (by kernel_rfl) (by kernel_rfl) (Or.inl ⟨by rfl, unib_val ?_⟩) ?_; rotate_left; (focus (intro w9 hSw; go_simp; try with_reducible rfl)); simp only [Act.put, List.setIfInBounds_toArray, List.set_cons_zero, List.set_cons_succ]
          refine wpG_take (i := 37) (oi := ⟨some 78, _, _, _, _, _⟩) (v := ?_) rfl (by kernel_rfl) (by kernel_rfl) (by kernel_rfl) (Or.inl ⟨by rfl, unib_val ?_⟩) ?_; rotate_left; (focus (intro w9 hSw; go_simp; try with_reducible rfl)); simp only [Act.put, List.setIfInBounds_toArray, List.set_cons_zero, List.set_cons_succ]
          refine wpG_take (i := 38) (oi := ⟨some 79, _, _, _, _, _⟩) (v := ?_) rfl (by kernel_rfl) (by kernel_rfl) (by kernel_rfl) (Or.inl ⟨by rfl, unib_val ?_⟩) ?_; rotate_left; (focus (intro w9 hSw; have q9 := T11_6'.out.below hSw T11_6'.out.lt; have q0 := q9.c0; have q1 := q9.c1; have q2 := q9.c2; go_simp; try with_reducible rfl)); simp only [Act.put, List.setIfInBounds_toArray, List.set_cons_zero, List.set_cons_succ]
          refine wpG_take (i := 39) (oi := ⟨some 80, _, _, _, _, _⟩) (v := ?_) rfl (by kernel_rfl) (by kernel_rfl) (by kernel_rfl) (Or.inl ⟨by rfl, unib_val ?_⟩) ?_; rotate_left; (focus (intro w9 hSw; have q9 := T4_6'.out.below hSw T4_6'.out.lt; have q0 := q9.c0; have q1 := q9.c1; have q2 := q9.c2; go_simp; try with_reducible rfl)); simp only [Act.put, List.setIfInBounds_toArray, List.set_cons_zero, List.set_cons_succ]
          refine wpG_take (i := 40) (oi := ⟨some 81, _, _, _, _, _⟩) rfl (by kernel_rfl) (by kernel_rfl) (by kernel_rfl) (Or.inl ⟨by rfl, unib_call_if ?_ (fun w9 hSw => LXB.out w9 (LE.out w9 hSw))⟩) ?_; (focus (intro w9 hSw; go_simp; try with_reducible rfl)); simp only [Act.put, List.setIfInBounds_toArray, List.set_cons_zero, List.set_cons_succ]
          refine wpG_take (i := 41) (oi := ⟨some 82, _, _, _, _, _⟩) (v := ?_) rfl (by kernel_rfl) (by kernel_rfl) (by kernel_rfl) (Or.inl ⟨by rfl, unib_val ?_⟩) ?_; rotate_left; (focus (intro w9 hSw; go_simp; try with_reducible rfl)); simp only [Act.put, List.setIfInBounds_toArray, List.set_cons_zero, List.set_cons_succ]
          refine wpG_take (i := 42) (oi := ⟨some 83, _, _, _, _, _⟩) (v := ?_) rfl (by kernel_rfl) (by kernel_rfl) (by kernel_rfl) (Or.inl ⟨by rfl, unib_val ?_⟩) ?_; rotate_left; (focus (intro w9 hSw; go_simp; try with_reducible rfl)); simp only [Act.put, List.setIfInBounds_toArray, List.set_cons_zero, List.set_cons_succ]
          refine wpG_take (i := 43) (oi := ⟨some 84, _, _, _, _, _⟩) (v := ?_) rfl (by kernel_rfl) (by kernel_rfl) (by kernel_rfl) (Or.inl ⟨by rfl, unib_val ?_⟩) ?_; rotate_left; (focus (intro w9 hSw; go_simp; try with_reducible rfl)); simp only [Act.put, List.setIfInBounds_toArray, List.set_cons_zero, List.set_cons_succ]
          refine wpG_take (i := 44) (oi := ⟨some 85, _, _, _, _, _⟩) (v := ?_) rfl (by kernel_rfl) (by kernel_rfl) (by kernel_rfl) (Or.inl ⟨by rfl, unib_val ?_⟩) ?_; rotate_left; (focus (intro w9 hSw; have q9 := T11_6'.out.below hSw T11_6'.out.lt; have q0 := q9.c0; have q1 := q9.c1; have q2 := q9.c2; go_simp; try with_reducible rfl)); simp only [Act.put, List.setIfInBounds_toArray, List.set_cons_zero, List.set_cons_succ]
          refine wpG_take (i := 45) (oi := ⟨some 86, _, _, _, _, _⟩) (v := ?_) rfl (by kernel_rfl) (by kernel_rfl) (by kernel_rfl) (Or.inl ⟨by rfl, unib_val ?_⟩) ?_; rotate_left; (focus (intro w9 hSw; have q9 := T3_6'.out.below hSw T3_6'.out.lt; have q0 := q9.c0; have q1 := q9.c1; have q2 := q9.c2; go_simp; try with_reducible rfl)); simp only [Act.put, List.setIfInBounds_toArray, List.set_cons_zero, List.set_cons_succ]
          refine wpG_take (i := 46) (oi := ⟨some 87, _, _, _, _, _⟩) rfl (by kernel_rfl) (by kernel_rfl) (by kernel_rfl) (Or.inl ⟨by rfl, unib_call_if ?_ (fun w9 hSw => JXA.out w9 (LE.out w9 hSw))⟩) ?_; (focus (intro w9 hSw; go_simp; try with_reducible rfl)); simp only [Act.put, List.setIfInBounds_toArray, List.set_cons_zero, List.set_cons_succ]
          refine wpG_take (i := 47) (oi := ⟨some 88, _, _, _, _, _⟩) (v := ?_) rfl (by kernel_rfl) (by kernel_rfl) (by kernel_rfl) (Or.inl ⟨by rfl, unib_val ?_⟩) ?_; rotate_left; (focus (intro w9 hSw; have q9 := T11_6'.out.below hSw T11_6'.out.lt; have q0 := q9.c0; have q1 := q9.c1; have q2 := q9.c2; go_simp; try with_reducible rfl)); simp only [Act.put, List.setIfInBounds_toArray, List.set_cons_zero, List.set_cons_succ]
          refine wpG_take (i := 48) (oi := ⟨some 89, _, _, _, _, _⟩) (v := ?_) rfl (by kernel_rfl) (by kernel_rfl) (by kernel_rfl) (Or.inl ⟨by rfl, unib_val ?_⟩) ?_; rotate_left; (focus (intro w9 hSw; have q0 := EX.out w9; go_simp; try with_reducible rfl)); simp only [Act.put, List.setIfInBounds_toArray, List.set_cons_zero, List.set_cons_succ]
          refine wpG_take (i := 49) (oi := ⟨some 90, _, _, _, _, _⟩) (v := ?_) rfl (by kernel_rfl) (by kernel_rfl) (by kernel_rfl) (Or.inl ⟨by rfl, unib_val ?_⟩) ?_; rotate_left; (focus (intro w9 hSw; go_simp; try with_reducible rfl)); simp only [Act.put, List.setIfInBounds_toArray, List.set_cons_zero, List.set_cons_succ]
          refine wpG_take (i := 50) (oi := ⟨some 6, _, _, _, _, _⟩) (v := ?_) rfl (by kernel_rfl) (by kernel_rfl) (by kernel_rfl) (Or.inl ⟨by rfl, unib_val ?_⟩) ?_; rotate_left; (focus (intro w9 hSw; go_simp; try with_reducible rfl)); simp only [Act.put, List.setIfInBounds_toArray, List.set_cons_zero, List.set_cons_succ]
          refine wpG_done (by kernel_rfl) ?_ _
          intro w9 hSw _
          go_wp2
          go_ret
          exact ⟨rfl, B11.out.trans (hSw.mono B11.out.size)⟩
        · skip
          have hx : cjoin a b = b := cjoin_yes hl
          have hy : cjoin a (cjoin b c) = cjoin b c := by rw [cjoin_assoc, hx]
          have hba : cjoin b a = b := by rw [cjoin_comm, hx]
          obtain ⟨u, hu⟩ : ∃ u, u = cjoin b c := ⟨_, rfl⟩
          obtain ⟨y, hyy⟩ : ∃ y, y = cjoin b c := ⟨_, rfl⟩
          have su : u.s.size ≤ 300 := by rw [hu]; exact cjoin_size sb sc
          have JAB := Lib.hid (fun (w : World) (hl : Laid w) => cjoin_any a b w hl sa sb)
          have JXC := Lib.hid (fun (w : World) (hl : Laid w) => cjoin_any b c w hl sb sc)
          have JBC := Lib.hid (fun (w : World) (hl : Laid w) => cjoin_any b c w hl sb sc)
          have JAU := Lib.hid (fun (w : World) (hl : Laid w) => cjoin_any a u w hl sa su)
          have JBA := Lib.hid (fun (w : World) (hl : Laid w) => cjoin_any b a w hl sb sa)
          have JAA := Lib.hid (fun (w : World) (hl : Laid w) => cjoin_any a a w hl sa sa)
          have JXA := Lib.hid (fun (w : World) (hl : Laid w) => cjoin_any b a w hl sb sa)
          have LXA := Lib.hid (fun (w : World) (hl : Laid w) => cless_any b a w hl sb sa)
          have LXB := Lib.hid (fun (w : World) (hl : Laid w) => cless_any b b w hl sb sb)
          rw [hx] at JAB
          rw [← hyy] at JXC
          rw [← hu] at JBC
          rw [show cjoin a u = y by rw [hu, hy, hyy]] at JAU
          rw [hba] at JBA
          rw [cjoin_self] at JAA
          rw [show cjoin b a = b from hba] at JXA
          rw [show cless b a = false from cless_not hl] at LXA
          rw [show cless b b = false from cless_self b] at LXB
          have EA := Lib.hid (cl_same a)
          have EB := Lib.hid (cl_same b)
          have EX := Lib.hid (cl_same b)
          have EY := Lib.hid (cl_same y)
          have NBA := Lib.hid (fun (x y : Result Next) => cl_if (a := b) (b := a) (fun e => cless_ne hl e.symm) x y)
          dsimp only [Cel.v] at JAB JXC JBC JAU JBA JAA JXA
          dsimp only [Cel.v] at LXA LXB
          clear hx hy hba hu hyy su hl sa sb sc
          have B0 := Lib.hid (Below.refl w.heap.size w)
          have T3n := ClAt.new w a
          have T3 := Lib.hid (T3n)
          clear T3n
          have B1 := Lib.hid (B0.out.alloc B0.out.size (.cells #[.int .i64 a.n, .int .i64 a.r, .string a.s] 25))
          have T3' := Lib.hid (T3.out.old (.cells #[.int .i64 b.n, .int .i64 b.r, .string b.s] 25))
          have T4n := ClAt.new (w.alloc (.cells #[.int .i64 a.n, .int .i64 a.r, .string a.s] 25)) b
          simp only [World.size_alloc] at T4n
          have T4 := Lib.hid (T4n)
          clear T4n
          have B2 := Lib.hid (B1.out.alloc B1.out.size (.cells #[.int .i64 b.n, .int .i64 b.r, .string b.s] 25))
          have T3'' := Lib.hid (T3'.out.old (.cells #[.int .i64 c.n, .int .i64 c.r, .string c.s] 25))
          have T4' := Lib.hid (T4.out.old (.cells #[.int .i64 c.n, .int .i64 c.r, .string c.s] 25))
          have T5n := ClAt.new ((w.alloc (.cells #[.int .i64 a.n, .int .i64 a.r, .string a.s] 25)).alloc (.cells #[.int .i64 b.n, .int .i64 b.r, .string b.s] 25)) c
          simp only [World.size_alloc] at T5n
          have T5 := Lib.hid (T5n)
          clear T5n
          have B3 := Lib.hid (B2.out.alloc B2.out.size (.cells #[.int .i64 c.n, .int .i64 c.r, .string c.s] 25))
          go_enter Tryd.func4, Tryd.ntmps4
          go_wp2_with fail
          refine (clAwake _ (LD.out _ B3.out)).mono ?_
          rintro e w1 ⟨rfl, hb⟩
          have T3_1 := Lib.hid (T3''.out.below hb T3''.out.lt)
          have T4_1 := Lib.hid (T4'.out.below hb T4'.out.lt)
          have T5_1 := Lib.hid (T5.out.below hb T5.out.lt)
          have B4 := Lib.hid (B3.out.trans (hb.mono B3.out.size))
          clear hb
          have c30 := T3_1.out.c0
          have c31 := T3_1.out.c1
          have c32 := T3_1.out.c2
          have c40 := T4_1.out.c0
          have c41 := T4_1.out.c1
          have c42 := T4_1.out.c2
          have c50 := T5_1.out.c0
          have c51 := T5_1.out.c1
          have c52 := T5_1.out.c2
          go_wp2_with fail
          refine (FA.out _).mono ?_
          rintro e w2 ⟨rfl, hb⟩
          clear c30 c31 c32 c40 c41 c42 c50 c51 c52
          have T3_2 := Lib.hid (T3_1.out.below hb T3_1.out.lt)
          have T4_2 := Lib.hid (T4_1.out.below hb T4_1.out.lt)
          have T5_2 := Lib.hid (T5_1.out.below hb T5_1.out.lt)
          have B5 := Lib.hid (B4.out.trans (hb.mono B4.out.size))
          clear hb
          have c30 := T3_2.out.c0
          have c31 := T3_2.out.c1
          have c32 := T3_2.out.c2
          have c40 := T4_2.out.c0
          have c41 := T4_2.out.c1
          have c42 := T4_2.out.c2
          have c50 := T5_2.out.c0
          have c51 := T5_2.out.c1
          have c52 := T5_2.out.c2
          go_wp2_with fail
          refine (FB.out _).mono ?_
          rintro e w3 ⟨rfl, hb⟩
          clear c30 c31 c32 c40 c41 c42 c50 c51 c52
          have T3_3 := Lib.hid (T3_2.out.below hb T3_2.out.lt)
          have T4_3 := Lib.hid (T4_2.out.below hb T4_2.out.lt)
          have T5_3 := Lib.hid (T5_2.out.below hb T5_2.out.lt)
          have B6 := Lib.hid (B5.out.trans (hb.mono B5.out.size))
          clear hb
          have c30 := T3_3.out.c0
          have c31 := T3_3.out.c1
          have c32 := T3_3.out.c2
          have c40 := T4_3.out.c0
          have c41 := T4_3.out.c1
          have c42 := T4_3.out.c2
          have c50 := T5_3.out.c0
          have c51 := T5_3.out.c1
          have c52 := T5_3.out.c2
          go_wp2_with fail
          refine (FC.out _).mono ?_
          rintro e w4 ⟨rfl, hb⟩
          clear c30 c31 c32 c40 c41 c42 c50 c51 c52
          have T3_4 := Lib.hid (T3_3.out.below hb T3_3.out.lt)
          have T4_4 := Lib.hid (T4_3.out.below hb T4_3.out.lt)
          have T5_4 := Lib.hid (T5_3.out.below hb T5_3.out.lt)
          have B7 := Lib.hid (B6.out.trans (hb.mono B6.out.size))
          clear hb
          have c30 := T3_4.out.c0
          have c31 := T3_4.out.c1
          have c32 := T3_4.out.c2
          have c40 := T4_4.out.c0
          have c41 := T4_4.out.c1
          have c42 := T4_4.out.c2
          have c50 := T5_4.out.c0
          have c51 := T5_4.out.c1
          have c52 := T5_4.out.c2
          go_wp2_with fail
          refine (JAB.out _ (LD.out _ B7.out)).mono ?_
          rintro e w5 ⟨rfl, hb⟩
          clear c30 c31 c32 c40 c41 c42 c50 c51 c52
          have T3_5 := Lib.hid (T3_4.out.below hb T3_4.out.lt)
          have T4_5 := Lib.hid (T4_4.out.below hb T4_4.out.lt)
          have T5_5 := Lib.hid (T5_4.out.below hb T5_4.out.lt)
          have B8 := Lib.hid (B7.out.trans (hb.mono B7.out.size))
          clear hb
          have T3_5' := Lib.hid (T3_5.out.old (.cells #[.int .i64 b.n, .int .i64 b.r, .string b.s] 25))
          have T4_5' := Lib.hid (T4_5.out.old (.cells #[.int .i64 b.n, .int .i64 b.r, .string b.s] 25))
          have T5_5' := Lib.hid (T5_5.out.old (.cells #[.int .i64 b.n, .int .i64 b.r, .string b.s] 25))
          have T11n := ClAt.new w5 b
          have T11 := Lib.hid (T11n)
          clear T11n
          have B9 := Lib.hid (B8.out.alloc B8.out.size (.cells #[.int .i64 b.n, .int .i64 b.r, .string b.s] 25))
          have c30 := T3_5'.out.c0
          have c31 := T3_5'.out.c1
          have c32 := T3_5'.out.c2
          have c40 := T4_5'.out.c0
          have c41 := T4_5'.out.c1
          have c42 := T4_5'.out.c2
          have c50 := T5_5'.out.c0
          have c51 := T5_5'.out.c1
          have c52 := T5_5'.out.c2
          have c110 := T11.out.c0
          have c111 := T11.out.c1
          have c112 := T11.out.c2
          go_wp2_with fail
          refine (JXC.out _ (LD.out _ B9.out)).mono ?_
          rintro e w6 ⟨rfl, hb⟩
          clear c30 c31 c32 c40 c41 c42 c50 c51 c52 c110 c111 c112
          have T3_6 := Lib.hid (T3_5'.out.below hb T3_5'.out.lt)
          have T4_6 := Lib.hid (T4_5'.out.below hb T4_5'.out.lt)
          have T5_6 := Lib.hid (T5_5'.out.below hb T5_5'.out.lt)
          have T11_6 := Lib.hid (T11.out.below hb T11.out.lt)
          have B10 := Lib.hid (B9.out.trans (hb.mono B9.out.size))
          clear hb
          have T3_6' := Lib.hid (T3_6.out.old (.cells #[.int .i64 y.n, .int .i64 y.r, .string y.s] 25))
          have T4_6' := Lib.hid (T4_6.out.old (.cells #[.int .i64 y.n, .int .i64 y.r, .string y.s] 25))
          have T5_6' := Lib.hid (T5_6.out.old (.cells #[.int .i64 y.n, .int .i64 y.r, .string y.s] 25))
          have T11_6' := Lib.hid (T11_6.out.old (.cells #[.int .i64 y.n, .int .i64 y.r, .string y.s] 25))
          have T12n := ClAt.new w6 y
          have T12 := Lib.hid (T12n)
          clear T12n
          have B11 := Lib.hid (B10.out.alloc B10.out.size (.cells #[.int .i64 y.n, .int .i64 y.r, .string y.s] 25))
          go_wp2_with fail
          have LE := Lib.hid (fun (w9 : World) (hS : Below (w6.alloc (.cells #[.int .i64 y.n, .int .i64 y.r, .string y.s] 25)).heap.size (w6.alloc (.cells #[.int .i64 y.n, .int .i64 y.r, .string y.s] 25)) w9) => LD.out w9 (B11.out.trans (hS.mono B11.out.size)))
          refine wp_region_G (w6.alloc (.cells #[.int .i64 y.n, .int .i64 y.r, .string y.s] 25)) (by kernel_rfl) ?_
          refine wpG_take (i := 0) (oi := ⟨some 41, _, _, _, _, _⟩) (v := ?_) rfl (by kernel_rfl) (by kernel_rfl) (by kernel_rfl) (Or.inl ⟨by rfl, unib_val ?_⟩) ?_; rotate_left; (focus (intro w9 hSw; have q9 := T12.out.below hSw T12.out.lt; have q0 := q9.c0; have q1 := q9.c1; have q2 := q9.c2; go_simp; try with_reducible rfl)); simp only [Act.put, List.setIfInBounds_toArray, List.set_cons_zero, List.set_cons_succ]
          refine wpG_take (i := 1) (oi := ⟨some 42, _, _, _, _, _⟩) (v := ?_) rfl (by kernel_rfl) (by kernel_rfl) (by kernel_rfl) (Or.inl ⟨by rfl, unib_val ?_⟩) ?_; rotate_left; (focus (intro w9 hSw; have q9 := T3_6'.out.below hSw T3_6'.out.lt; have q0 := q9.c0; have q1 := q9.c1; have q2 := q9.c2; go_simp; try with_reducible rfl)); simp only [Act.put, List.setIfInBounds_toArray, List.set_cons_zero, List.set_cons_succ]
          refine wpG_take (i := 2) (oi := ⟨some 43, _, _, _, _, _⟩) (v := ?_) rfl (by kernel_rfl) (by kernel_rfl) (by kernel_rfl) (Or.inl ⟨by rfl, unib_val ?_⟩) ?_; rotate_left; (focus (intro w9 hSw; have q9 := T4_6'.out.below hSw T4_6'.out.lt; have q0 := q9.c0; have q1 := q9.c1; have q2 := q9.c2; go_simp; try with_reducible rfl)); simp only [Act.put, List.setIfInBounds_toArray, List.set_cons_zero, List.set_cons_succ]
          refine wpG_take (i := 3) (oi := ⟨some 44, _, _, _, _, _⟩) (v := ?_) rfl (by kernel_rfl) (by kernel_rfl) (by kernel_rfl) (Or.inl ⟨by rfl, unib_val ?_⟩) ?_; rotate_left; (focus (intro w9 hSw; have q9 := T5_6'.out.below hSw T5_6'.out.lt; have q0 := q9.c0; have q1 := q9.c1; have q2 := q9.c2; go_simp; try with_reducible rfl)); simp only [Act.put, List.setIfInBounds_toArray, List.set_cons_zero, List.set_cons_succ]
          refine wpG_take (i := 4) (oi := ⟨some 45, _, _, _, _, _⟩) rfl (by kernel_rfl) (by kernel_rfl) (by kernel_rfl) (Or.inl ⟨by rfl, unib_call_if ?_ (fun w9 hSw => JBC.out w9 (LE.out w9 hSw))⟩) ?_; (focus (intro w9 hSw; go_simp; try with_reducible rfl)); simp only [Act.put, List.setIfInBounds_toArray, List.set_cons_zero, List.set_cons_succ]
          refine wpG_take (i := 5) (oi := ⟨some 46, _, _, _, _, _⟩) rfl (by kernel_rfl) (by kernel_rfl) (by kernel_rfl) (Or.inl ⟨by rfl, unib_call_if ?_ (fun w9 hSw => JAU.out w9 (LE.out w9 hSw))⟩) ?_; (focus (intro w9 hSw; go_simp; try with_reducible rfl)); simp only [Act.put, List.setIfInBounds_toArray, List.set_cons_zero, List.set_cons_succ]
          refine wpG_take (i := 6) (oi := ⟨some 47, _, _, _, _, _⟩) (v := ?_) rfl (by kernel_rfl) (by kernel_rfl) (by kernel_rfl) (Or.inl ⟨by rfl, unib_val ?_⟩) ?_; rotate_left; (focus (intro w9 hSw; have q0 := EY.out w9; go_simp; try with_reducible rfl)); simp only [Act.put, List.setIfInBounds_toArray, List.set_cons_zero, List.set_cons_succ]
          refine wpG_take (i := 7) (oi := ⟨some 48, _, _, _, _, _⟩) (v := ?_) rfl (by kernel_rfl) (by kernel_rfl) (by kernel_rfl) (Or.inl ⟨by rfl, unib_val ?_⟩) ?_; rotate_left; (focus (intro w9 hSw; go_simp; try with_reducible rfl)); simp only [Act.put, List.setIfInBounds_toArray, List.set_cons_zero, List.set_cons_succ]
          refine wpG_take (i := 8) (oi := ⟨some 49, _, _, _, _, _⟩) (v := ?_) rfl (by kernel_rfl) (by kernel_rfl) (by kernel_rfl) (Or.inl ⟨by rfl, unib_val ?_⟩) ?_; rotate_left; (focus (intro w9 hSw; have q9 := T11_6'.out.below hSw T11_6'.out.lt; have q0 := q9.c0; have q1 := q9.c1; have q2 := q9.c2; go_simp; try with_reducible rfl)); simp only [Act.put, List.setIfInBounds_toArray, List.set_cons_zero, List.set_cons_succ]
          refine wpG_take (i := 9) (oi := ⟨some 50, _, _, _, _, _⟩) (v := ?_) rfl (by kernel_rfl) (by kernel_rfl) (by kernel_rfl) (Or.inl ⟨by rfl, unib_val ?_⟩) ?_; rotate_left; (focus (intro w9 hSw; have q9 := T4_6'.out.below hSw T4_6'.out.lt; have q0 := q9.c0; have q1 := q9.c1; have q2 := q9.c2; go_simp; try with_reducible rfl)); simp only [Act.put, List.setIfInBounds_toArray, List.set_cons_zero, List.set_cons_succ]
          refine wpG_take (i := 10) (oi := ⟨some 51, _, _, _, _, _⟩) (v := ?_) rfl (by kernel_rfl) (by kernel_rfl) (by kernel_rfl) (Or.inl ⟨by rfl, unib_val ?_⟩) ?_; rotate_left; (focus (intro w9 hSw; have q9 := T3_6'.out.below hSw T3_6'.out.lt; have q0 := q9.c0; have q1 := q9.c1; have q2 := q9.c2; go_simp; try with_reducible rfl)); simp only [Act.put, List.setIfInBounds_toArray, List.set_cons_zero, List.set_cons_succ]
          refine wpG_take (i := 11) (oi := ⟨some 52, _, _, _, _, _⟩) rfl (by kernel_rfl) (by kernel_rfl) (by kernel_rfl) (Or.inl ⟨by rfl, unib_call_if ?_ (fun w9 hSw => JBA.out w9 (LE.out w9 hSw))⟩) ?_; (focus (intro w9 hSw; go_simp; try with_reducible rfl)); simp only [Act.put, List.setIfInBounds_toArray, List.set_cons_zero, List.set_cons_succ]
          refine wpG_take (i := 12) (oi := ⟨some 53, _, _, _, _, _⟩) (v := ?_) rfl (by kernel_rfl) (by kernel_rfl) (by kernel_rfl) (Or.inl ⟨by rfl, unib_val ?_⟩) ?_; rotate_left; (focus (intro w9 hSw; have q0 := EX.out w9; go_simp; try with_reducible rfl)); simp only [Act.put, List.setIfInBounds_toArray, List.set_cons_zero, List.set_cons_succ]
          refine wpG_take (i := 13) (oi := ⟨some 54, _, _, _, _, _⟩) (v := ?_) rfl (by kernel_rfl) (by kernel_rfl) (by kernel_rfl) (Or.inl ⟨by rfl, unib_val ?_⟩) ?_; rotate_left; (focus (intro w9 hSw; go_simp; try with_reducible rfl)); simp only [Act.put, List.setIfInBounds_toArray, List.set_cons_zero, List.set_cons_succ]
          refine wpG_take (i := 14) (oi := ⟨some 55, _, _, _, _, _⟩) (v := ?_) rfl (by kernel_rfl) (by kernel_rfl) (by kernel_rfl) (Or.inl ⟨by rfl, unib_val ?_⟩) ?_; rotate_left; (focus (intro w9 hSw; go_simp; try with_reducible rfl)); simp only [Act.put, List.setIfInBounds_toArray, List.set_cons_zero, List.set_cons_succ]
          refine wpG_take (i := 15) (oi := ⟨some 56, _, _, _, _, _⟩) (v := ?_) rfl (by kernel_rfl) (by kernel_rfl) (by kernel_rfl) (Or.inl ⟨by rfl, unib_val ?_⟩) ?_; rotate_left; (focus (intro w9 hSw; have q9 := T3_6'.out.below hSw T3_6'.out.lt; have q0 := q9.c0; have q1 := q9.c1; have q2 := q9.c2; go_simp; try with_reducible rfl)); simp only [Act.put, List.setIfInBounds_toArray, List.set_cons_zero, List.set_cons_succ]
          refine wpG_take (i := 16) (oi := ⟨some 57, _, _, _, _, _⟩) (v := ?_) rfl (by kernel_rfl) (by kernel_rfl) (by kernel_rfl) (Or.inl ⟨by rfl, unib_val ?_⟩) ?_; rotate_left; (focus (intro w9 hSw; have q9 := T3_6'.out.below hSw T3_6'.out.lt; have q0 := q9.c0; have q1 := q9.c1; have q2 := q9.c2; go_simp; try with_reducible rfl)); simp only [Act.put, List.setIfInBounds_toArray, List.set_cons_zero, List.set_cons_succ]
          refine wpG_take (i := 17) (oi := ⟨some 58, _, _, _, _, _⟩) rfl (by kernel_rfl) (by kernel_rfl) (by kernel_rfl) (Or.inl ⟨by rfl, unib_call_if ?_ (fun w9 hSw => JAA.out w9 (LE.out w9 hSw))⟩) ?_; (focus (intro w9 hSw; go_simp; try with_reducible rfl)); simp only [Act.put, List.setIfInBounds_toArray, List.set_cons_zero, List.set_cons_succ]
          refine wpG_take (i := 18) (oi := ⟨some 59, _, _, _, _, _⟩) (v := ?_) rfl (by kernel_rfl) (by kernel_rfl) (by kernel_rfl) (Or.inl ⟨by rfl, unib_val ?_⟩) ?_; rotate_left; (focus (intro w9 hSw; have q9 := T3_6'.out.below hSw T3_6'.out.lt; have q0 := q9.c0; have q1 := q9.c1; have q2 := q9.c2; go_simp; try with_reducible rfl)); simp only [Act.put, List.setIfInBounds_toArray, List.set_cons_zero, List.set_cons_succ]
          refine wpG_take (i := 19) (oi := ⟨some 60, _, _, _, _, _⟩) (v := ?_) rfl (by kernel_rfl) (by kernel_rfl) (by kernel_rfl) (Or.inl ⟨by rfl, unib_val ?_⟩) ?_; rotate_left; (focus (intro w9 hSw; have q0 := EA.out w9; go_simp; try with_reducible rfl)); simp only [Act.put, List.setIfInBounds_toArray, List.set_cons_zero, List.set_cons_succ]
          refine wpG_take (i := 20) (oi := ⟨some 61, _, _, _, _, _⟩) (v := ?_) rfl (by kernel_rfl) (by kernel_rfl) (by kernel_rfl) (Or.inl ⟨by rfl, unib_val ?_⟩) ?_; rotate_left; (focus (intro w9 hSw; go_simp; try with_reducible rfl)); simp only [Act.put, List.setIfInBounds_toArray, List.set_cons_zero, List.set_cons_succ]
          refine wpG_take (i := 21) (oi := ⟨some 62, _, _, _, _, _⟩) (v := ?_) rfl (by kernel_rfl) (by kernel_rfl) (by kernel_rfl) (Or.inl ⟨by rfl, unib_val ?_⟩) ?_; rotate_left; (focus (intro w9 hSw; go_simp; try with_reducible rfl)); simp only [Act.put, List.setIfInBounds_toArray, List.set_cons_zero, List.set_cons_succ]
          refine wpG_take (i := 22) (oi := ⟨some 63, _, _, _, _, _⟩) (v := ?_) rfl (by kernel_rfl) (by kernel_rfl) (by kernel_rfl) (Or.inl ⟨by rfl, unib_val ?_⟩) ?_; rotate_left; (focus (intro w9 hSw; have q9 := T11_6'.out.below hSw T11_6'.out.lt; have q0 := q9.c0; have q1 := q9.c1; have q2 := q9.c2; go_simp; try with_reducible rfl)); simp only [Act.put, List.setIfInBounds_toArray, List.set_cons_zero, List.set_cons_succ]
          refine wpG_take (i := 23) (oi := ⟨some 64, _, _, _, _, _⟩) (v := ?_) rfl (by kernel_rfl) (by kernel_rfl) (by kernel_rfl) (Or.inl ⟨by rfl, unib_val ?_⟩) ?_; rotate_left; (focus (intro w9 hSw; have q9 := T3_6'.out.below hSw T3_6'.out.lt; have q0 := q9.c0; have q1 := q9.c1; have q2 := q9.c2; go_simp; try with_reducible rfl)); simp only [Act.put, List.setIfInBounds_toArray, List.set_cons_zero, List.set_cons_succ]
          refine wpG_take (i := 24) (oi := ⟨some 65, _, _, _, _, _⟩) (v := ?_) rfl (by kernel_rfl) (by kernel_rfl) (by kernel_rfl) (Or.inl ⟨by rfl, unib_val ?_⟩) ?_; rotate_left; (focus (intro w9 hSw; go_simp; rw [NBA.out]; try with_reducible rfl)); simp only [Act.put, List.setIfInBounds_toArray, List.set_cons_zero, List.set_cons_succ]
          refine wpG_take (i := 25) (oi := ⟨some 66, _, _, _, _, _⟩) (v := ?_) rfl (by kernel_rfl) (by kernel_rfl) (by kernel_rfl) (Or.inl ⟨by rfl, unib_val ?_⟩) ?_; rotate_left; (focus (intro w9 hSw; go_simp; try with_reducible rfl)); simp only [Act.put, List.setIfInBounds_toArray, List.set_cons_zero, List.set_cons_succ]
          refine wpG_take (i := 26) (oi := ⟨some 67, _, _, _, _, _⟩) (v := ?_) rfl (by kernel_rfl) (by kernel_rfl) (by kernel_rfl) (Or.inl ⟨by rfl, unib_val ?_⟩) ?_; rotate_left; (focus (intro w9 hSw; have q9 := T11_6'.out.below hSw T11_6'.out.lt; have q0 := q9.c0; have q1 := q9.c1; have q2 := q9.c2; go_simp; try with_reducible rfl)); simp only [Act.put, List.setIfInBounds_toArray, List.set_cons_zero, List.set_cons_succ]
          refine wpG_take (i := 27) (oi := ⟨some 68, _, _, _, _, _⟩) (v := ?_) rfl (by kernel_rfl) (by kernel_rfl) (by kernel_rfl) (Or.inl ⟨by rfl, unib_val ?_⟩) ?_; rotate_left; (focus (intro w9 hSw; have q9 := T4_6'.out.below hSw T4_6'.out.lt; have q0 := q9.c0; have q1 := q9.c1; have q2 := q9.c2; go_simp; try with_reducible rfl)); simp only [Act.put, List.setIfInBounds_toArray, List.set_cons_zero, List.set_cons_succ]
          refine wpG_take (i := 28) (oi := ⟨some 69, _, _, _, _, _⟩) (v := ?_) rfl (by kernel_rfl) (by kernel_rfl) (by kernel_rfl) (Or.inl ⟨by rfl, unib_val ?_⟩) ?_; rotate_left; (focus (intro w9 hSw; have q0 := EB.out w9; go_simp; try with_reducible rfl)); simp only [Act.put, List.setIfInBounds_toArray, List.set_cons_zero, List.set_cons_succ]
          refine wpG_take (i := 29) (oi := ⟨some 70, _, _, _, _, _⟩) (v := ?_) rfl (by kernel_rfl) (by kernel_rfl) (by kernel_rfl) (Or.inl ⟨by rfl, unib_val ?_⟩) ?_; rotate_left; (focus (intro w9 hSw; go_simp; try with_reducible rfl)); simp only [Act.put, List.setIfInBounds_toArray, List.set_cons_zero, List.set_cons_succ]
          refine wpG_take (i := 30) (oi := ⟨some 71, _, _, _, _, _⟩) (v := ?_) rfl (by kernel_rfl) (by kernel_rfl) (by kernel_rfl) (Or.inl ⟨by rfl, unib_val ?_⟩) ?_; rotate_left; (focus (intro w9 hSw; go_simp; try with_reducible rfl)); simp only [Act.put, List.setIfInBounds_toArray, List.set_cons_zero, List.set_cons_succ]
          refine wpG_take (i := 31) (oi := ⟨some 72, _, _, _, _, _⟩) (v := ?_) rfl (by kernel_rfl) (by kernel_rfl) (by kernel_rfl) (Or.inl ⟨by rfl, unib_val ?_⟩) ?_; rotate_left; (focus (intro w9 hSw; go_simp; try with_reducible rfl)); simp only [Act.put, List.setIfInBounds_toArray, List.set_cons_zero, List.set_cons_succ]
          refine wpG_take (i := 32) (oi := ⟨some 73, _, _, _, _, _⟩) (v := ?_) rfl (by kernel_rfl) (by kernel_rfl) (by kernel_rfl) (Or.inl ⟨by rfl, unib_val ?_⟩) ?_; rotate_left; (focus (intro w9 hSw; have q9 := T11_6'.out.below hSw T11_6'.out.lt; have q0 := q9.c0; have q1 := q9.c1; have q2 := q9.c2; go_simp; try with_reducible rfl)); simp only [Act.put, List.setIfInBounds_toArray, List.set_cons_zero, List.set_cons_succ]
          refine wpG_take (i := 33) (oi := ⟨some 74, _, _, _, _, _⟩) (v := ?_) rfl (by kernel_rfl) (by kernel_rfl) (by kernel_rfl) (Or.inl ⟨by rfl, unib_val ?_⟩) ?_; rotate_left; (focus (intro w9 hSw; have q9 := T3_6'.out.below hSw T3_6'.out.lt; have q0 := q9.c0; have q1 := q9.c1; have q2 := q9.c2; go_simp; try with_reducible rfl)); simp only [Act.put, List.setIfInBounds_toArray, List.set_cons_zero, List.set_cons_succ]
          refine wpG_take (i := 34) (oi := ⟨some 75, _, _, _, _, _⟩) rfl (by kernel_rfl) (by kernel_rfl) (by kernel_rfl) (Or.inl ⟨by rfl, unib_call_if ?_ (fun w9 hSw => LXA.out w9 (LE.out w9 hSw))⟩) ?_; (focus (intro w9 hSw; go_simp; try with_reducible rfl)); simp only [Act.put, List.setIfInBounds_toArray, List.set_cons_zero, List.set_cons_succ]
          refine wpG_take (i := 35) (oi := ⟨some 76, _, _, _, _, _⟩) (v := ?_) rfl (by kernel_rfl) (by kernel_rfl) (by kernel_rfl) (Or.inl ⟨by rfl, unib_val ?_⟩) ?_; rotate_left; (focus (intro w9 hSw; go_simp; try with_reducible rfl)); simp only [Act.put, List.setIfInBounds_toArray, List.set_cons_zero, List.set_cons_succ]
          refine wpG_take (i := 36) (oi := ⟨some 77, _, _, _, _, _⟩) (v := ?_) rfl (by kernel_rfl) (by kernel_rfl) (by kernel_rfl) (Or.inl ⟨by rfl, unib_val ?_⟩) ?_; rotate_left; (focus (intro w9 hSw; go_simp; try with_reducible rfl)); simp only [Act.put, List.setIfInBounds_toArray, List.set_cons_zero, List.set_cons_succ]
          refine wpG_take (i := 37) (oi := ⟨some 78, _, _, _, _, _⟩) (v := ?_) rfl (by kernel_rfl) (by kernel_rfl) (by kernel_rfl) (Or.inl ⟨by rfl, unib_val ?_⟩) ?_; rotate_left; (focus (intro w9 hSw; go_simp; try with_reducible rfl)); simp only [Act.put, List.setIfInBounds_toArray, List.set_cons_zero, List.set_cons_succ]
          refine wpG_take (i := 38) (oi := ⟨some 79, _, _, _, _, _⟩) (v := ?_) rfl (by kernel_rfl) (by kernel_rfl) (by kernel_rfl) (Or.inl ⟨by rfl, unib_val ?_⟩) ?_; rotate_left; (focus (intro w9 hSw; have q9 := T11_6'.out.below hSw T11_6'.out.lt; have q0 := q9.c0; have q1 := q9.c1; have q2 := q9.c2; go_simp; try with_reducible rfl)); simp only [Act.put, List.setIfInBounds_toArray, List.set_cons_zero, List.set_cons_succ]
          refine wpG_take (i := 39) (oi := ⟨some 80, _, _, _, _, _⟩) (v := ?_) rfl (by kernel_rfl) (by kernel_rfl) (by kernel_rfl) (Or.inl ⟨by rfl, unib_val ?_⟩) ?_; rotate_left; (focus (intro w9 hSw; have q9 := T4_6'.out.below hSw T4_6'.out.lt; have q0 := q9.c0; have q1 := q9.c1; have q2 := q9.c2; go_simp; try with_reducible rfl)); simp only [Act.put, List.setIfInBounds_toArray, List.set_cons_zero, List.set_cons_succ]
          refine wpG_take (i := 40) (oi := ⟨some 81, _, _, _, _, _⟩) rfl (by kernel_rfl) (by kernel_rfl) (by kernel_rfl) (Or.inl ⟨by rfl, unib_call_if ?_ (fun w9 hSw => LXB.out w9 (LE.out w9 hSw))⟩) ?_; (focus (intro w9 hSw; go_simp; try with_reducible rfl)); simp only [Act.put, List.setIfInBounds_toArray, List.set_cons_zero, List.set_cons_succ]
          refine wpG_take (i := 41) (oi := ⟨some 82, _, _, _, _, _⟩) (v := ?_) rfl (by kernel_rfl) (by kernel_rfl) (by kernel_rfl) (Or.inl ⟨by rfl, unib_val ?_⟩) ?_; rotate_left; (focus (intro w9 hSw; go_simp; try with_reducible rfl)); simp only [Act.put, List.setIfInBounds_toArray, List.set_cons_zero, List.set_cons_succ]
          refine wpG_take (i := 42) (oi := ⟨some 83, _, _, _, _, _⟩) (v := ?_) rfl (by kernel_rfl) (by kernel_rfl) (by kernel_rfl) (Or.inl ⟨by rfl, unib_val ?_⟩) ?_; rotate_left; (focus (intro w9 hSw; go_simp; try with_reducible rfl)); simp only [Act.put, List.setIfInBounds_toArray, List.set_cons_zero, List.set_cons_succ]
          refine wpG_take (i := 43) (oi := ⟨some 84, _, _, _, _, _⟩) (v := ?_) rfl (by kernel_rfl) (by kernel_rfl) (by kernel_rfl) (Or.inl ⟨by rfl, unib_val ?_⟩) ?_; rotate_left; (focus (intro w9 hSw; go_simp; try with_reducible rfl)); simp only [Act.put, List.setIfInBounds_toArray, List.set_cons_zero, List.set_cons_succ]
          refine wpG_take (i := 44) (oi := ⟨some 85, _, _, _, _, _⟩) (v := ?_) rfl (by kernel_rfl) (by kernel_rfl) (by kernel_rfl) (Or.inl ⟨by rfl, unib_val ?_⟩) ?_; rotate_left; (focus (intro w9 hSw; have q9 := T11_6'.out.below hSw T11_6'.out.lt; have q0 := q9.c0; have q1 := q9.c1; have q2 := q9.c2; go_simp; try with_reducible rfl)); simp only [Act.put, List.setIfInBounds_toArray, List.set_cons_zero, List.set_cons_succ]
          refine wpG_take (i := 45) (oi := ⟨some 86, _, _, _, _, _⟩) (v := ?_) rfl (by kernel_rfl) (by kernel_rfl) (by kernel_rfl) (Or.inl ⟨by rfl, unib_val ?_⟩) ?_; rotate_left; (focus (intro w9 hSw; have q9 := T3_6'.out.below hSw T3_6'.out.lt; have q0 := q9.c0; have q1 := q9.c1; have q2 := q9.c2; go_simp; try with_reducible rfl)); simp only [Act.put, List.setIfInBounds_toArray, List.set_cons_zero, List.set_cons_succ]
          refine wpG_take (i := 46) (oi := ⟨some 87, _, _, _, _, _⟩) rfl (by kernel_rfl) (by kernel_rfl) (by kernel_rfl) (Or.inl ⟨by rfl, unib_call_if ?_ (fun w9 hSw => JXA.out w9 (LE.out w9 hSw))⟩) ?_; (focus (intro w9 hSw; go_simp; try with_reducible rfl)); simp only [Act.put, List.setIfInBounds_toArray, List.set_cons_zero, List.set_cons_succ]
          refine wpG_take (i := 47) (oi := ⟨some 88, _, _, _, _, _⟩) (v := ?_) rfl (by kernel_rfl) (by kernel_rfl) (by kernel_rfl) (Or.inl ⟨by rfl, unib_val ?_⟩) ?_; rotate_left; (focus (intro w9 hSw; have q9 := T11_6'.out.below hSw T11_6'.out.lt; have q0 := q9.c0; have q1 := q9.c1; have q2 := q9.c2; go_simp; try with_reducible rfl)); simp only [Act.put, List.setIfInBounds_toArray, List.set_cons_zero, List.set_cons_succ]
          refine wpG_take (i := 48) (oi := ⟨some 89, _, _, _, _, _⟩) (v := ?_) rfl (by kernel_rfl) (by kernel_rfl) (by kernel_rfl) (Or.inl ⟨by rfl, unib_val ?_⟩) ?_; rotate_left; (focus (intro w9 hSw; have q0 := EX.out w9; go_simp; try with_reducible rfl)); simp only [Act.put, List.setIfInBounds_toArray, List.set_cons_zero, List.set_cons_succ]
          refine wpG_take (i := 49) (oi := ⟨some 90, _, _, _, _, _⟩) (v := ?_) rfl (by kernel_rfl) (by kernel_rfl) (by kernel_rfl) (Or.inl ⟨by rfl, unib_val ?_⟩) ?_; rotate_left; (focus (intro w9 hSw; go_simp; try with_reducible rfl)); simp only [Act.put, List.setIfInBounds_toArray, List.set_cons_zero, List.set_cons_succ]
          refine wpG_take (i := 50) (oi := ⟨some 6, _, _, _, _, _⟩) (v := ?_) rfl (by kernel_rfl) (by kernel_rfl) (by kernel_rfl) (Or.inl ⟨by rfl, unib_val ?_⟩) ?_; rotate_left; (focus (intro w9 hSw; go_simp; try with_reducible rfl)); simp only [Act.put, List.setIfInBounds_toArray, List.set_cons_zero, List.set_cons_succ]
          refine wpG_done (by kernel_rfl) ?_ _
          intro w9 hSw _
          go_wp2
          go_ret
          exact ⟨rfl, B11.out.trans (hSw.mono B11.out.size)⟩
end Go.Proofs.YtgjdeemabbmicaaDoor
