/-
  The law CellOrder: for every three cells it answers true, and nothing that was there is written.
-/
import Derived.Test.YtgjdeemabbmicaaDoorClAwake
import Derived.Test.YtgjdeemabbmicaaDoorClArgs
import Derived.Test.YtgjdeemabbmicaaDoorClFacts
namespace Go.Proofs.YtgjdeemabbmicaaDoor
open Go.RowKit WM
set_option linter.unusedVariables false
set_option maxHeartbeats 8000000 in
theorem walk_cellOrder (a b c : Cel) (w : World) (hlaid : Laid w) (ha : IsCel a) (hb : IsCel b) (hc : IsCel c) :
    Calls Tryd.prog 5 #[a.v, b.v, c.v] w fun e w' => e = .returned (.bool true) ∧ Below w.heap.size w w' := by
  have LD := Lib.hid (fun (X : World) (hX : Below w.heap.size w X) => hlaid.below hX (Nat.le_refl _))
  have FA := Lib.hid (few_any a)
  have FB := Lib.hid (few_any b)
  have FC := Lib.hid (few_any c)
  dsimp only [Cel.v] at FA FB FC ⊢
  clear hlaid ha hb hc
  cases ga : cfew a
  · rw [ga] at FA
    clear ga
    have B0 := Lib.hid (Below.refl w.heap.size w)
    have T3n := ClAt.new w a
    have T3 := Lib.hid (T3n)
    clear T3n
    have B1 := Lib.hid (B0.out.alloc B0.out.size (.cells #[.int .i64 a.n, .int .i64 a.r, .string a.s] 25))
    have T3' := Lib.hid (T3.out.old (.cells #[.int .i64 b.n, .int .i64 b.r, .string b.s] 25))
    have T4n := ClAt.new (w.alloc (.cells #[.int .i64 a.n, .int .i64 a.r, .string a.s] 25)) b
    simp only [World.size_alloc] at T4n
    have T4 := Lib.hid (T4n)
    clear T4n
    have B2 := Lib.hid (B1.out.alloc B1.out.size (.cells #[.int .i64 b.n, .int .i64 b.r, .string b.s] 25))
    have T3'' := Lib.hid (T3'.out.old (.cells #[.int .i64 c.n, .int .i64 c.r, .string c.s] 25))
    have T4' := Lib.hid (T4.out.old (.cells #[.int .i64 c.n, .int .i64 c.r, .string c.s] 25))
    have T5n := ClAt.new ((w.alloc (.cells #[.int .i64 a.n, .int .i64 a.r, .string a.s] 25)).alloc (.cells #[.int .i64 b.n, .int .i64 b.r, .string b.s] 25)) c
    simp only [World.size_alloc] at T5n
    have T5 := Lib.hid (T5n)
    clear T5n
    have B3 := Lib.hid (B2.out.alloc B2.out.size (.cells #[.int .i64 c.n, .int .i64 c.r, .string c.s] 25))
    go_enter Tryd.func5, Tryd.ntmps5
    go_wp2_with fail
    refine (clAwake _ (LD.out _ B3.out)).mono ?_
    rintro e w1 ⟨rfl, hb⟩
    have T3_1 := Lib.hid (T3''.out.below hb T3''.out.lt)
    have T4_1 := Lib.hid (T4'.out.below hb T4'.out.lt)
    have T5_1 := Lib.hid (T5.out.below hb T5.out.lt)
    have B4 := Lib.hid (B3.out.trans (hb.mono B3.out.size))
    clear hb
    have c30 := T3_1.out.c0
    have c31 := T3_1.out.c1
    have c32 := T3_1.out.c2
    have c40 := T4_1.out.c0
    have c41 := T4_1.out.c1
    have c42 := T4_1.out.c2
    have c50 := T5_1.out.c0
    have c51 := T5_1.out.c1
    have c52 := T5_1.out.c2
    go_wp2_with fail
    refine (FA.out _).mono ?_
    rintro e w2 ⟨rfl, hb⟩
    clear c30 c31 c32 c40 c41 c42 c50 c51 c52
    have T3_2 := Lib.hid (T3_1.out.below hb T3_1.out.lt)
    have T4_2 := Lib.hid (T4_1.out.below hb T4_1.out.lt)
    have T5_2 := Lib.hid (T5_1.out.below hb T5_1.out.lt)
    have B5 := Lib.hid (B4.out.trans (hb.mono B4.out.size))
    clear hb
    have c30 := T3_2.out.c0
    have c31 := T3_2.out.c1
    have c32 := T3_2.out.c2
    have c40 := T4_2.out.c0
    have c41 := T4_2.out.c1
    have c42 := T4_2.out.c2
    have c50 := T5_2.out.c0
    have c51 := T5_2.out.c1
    have c52 := T5_2.out.c2
    go_wp2_with fail
    refine (FB.out _).mono ?_
    rintro e w3 ⟨rfl, hb⟩
    clear c30 c31 c32 c40 c41 c42 c50 c51 c52
    have T3_3 := Lib.hid (T3_2.out.below hb T3_2.out.lt)
    have T4_3 := Lib.hid (T4_2.out.below hb T4_2.out.lt)
    have T5_3 := Lib.hid (T5_2.out.below hb T5_2.out.lt)
    have B6 := Lib.hid (B5.out.trans (hb.mono B5.out.size))
    clear hb
    have c30 := T3_3.out.c0
    have c31 := T3_3.out.c1
    have c32 := T3_3.out.c2
    have c40 := T4_3.out.c0
    have c41 := T4_3.out.c1
    have c42 := T4_3.out.c2
    have c50 := T5_3.out.c0
    have c51 := T5_3.out.c1
    have c52 := T5_3.out.c2
    go_wp2_with fail
    refine (FC.out _).mono ?_
    rintro e w4 ⟨rfl, hb⟩
    clear c30 c31 c32 c40 c41 c42 c50 c51 c52
    have T3_4 := Lib.hid (T3_3.out.below hb T3_3.out.lt)
    have T4_4 := Lib.hid (T4_3.out.below hb T4_3.out.lt)
    have T5_4 := Lib.hid (T5_3.out.below hb T5_3.out.lt)
    have B7 := Lib.hid (B6.out.trans (hb.mono B6.out.size))
    clear hb
    have c30 := T3_4.out.c0
    have c31 := T3_4.out.c1
    have c32 := T3_4.out.c2
    have c40 := T4_4.out.c0
    have c41 := T4_4.out.c1
    have c42 := T4_4.out.c2
    have c50 := T5_4.out.c0
    have c51 := T5_4.out.c1
    have c52 := T5_4.out.c2
    go_wp2
    go_ret
    exact ⟨rfl, B7.out⟩
  · have sa : a.s.size ≤ 300 := by simpa [cfew] using ga
    rw [ga] at FA
    clear ga
    cases gb : cfew b
    · rw [gb] at FB
      clear gb sa
      have B0 := Lib.hid (Below.refl w.heap.size w)
      have T3n := ClAt.new w a
      have T3 := Lib.hid (T3n)
      clear T3n
      have B1 := Lib.hid (B0.out.alloc B0.out.size (.cells #[.int .i64 a.n, .int .i64 a.r, .string a.s] 25))
      have T3' := Lib.hid (T3.out.old (.cells #[.int .i64 b.n, .int .i64 b.r, .string b.s] 25))
      have T4n := ClAt.new (w.alloc (.cells #[.int .i64 a.n, .int .i64 a.r, .string a.s] 25)) b
      simp only [World.size_alloc] at T4n
      have T4 := Lib.hid (T4n)
      clear T4n
      have B2 := Lib.hid (B1.out.alloc B1.out.size (.cells #[.int .i64 b.n, .int .i64 b.r, .string b.s] 25))
      have T3'' := Lib.hid (T3'.out.old (.cells #[.int .i64 c.n, .int .i64 c.r, .string c.s] 25))
      have T4' := Lib.hid (T4.out.old (.cells #[.int .i64 c.n, .int .i64 c.r, .string c.s] 25))
      have T5n := ClAt.new ((w.alloc (.cells #[.int .i64 a.n, .int .i64 a.r, .string a.s] 25)).alloc (.cells #[.int .i64 b.n, .int .i64 b.r, .string b.s] 25)) c
      simp only [World.size_alloc] at T5n
      have T5 := Lib.hid (T5n)
      clear T5n
      have B3 := Lib.hid (B2.out.alloc B2.out.size (.cells #[.int .i64 c.n, .int .i64 c.r, .string c.s] 25))
      go_enter Tryd.func5, Tryd.ntmps5
      go_wp2_with fail
      refine (clAwake _ (LD.out _ B3.out)).mono ?_
      rintro e w1 ⟨rfl, hb⟩
      have T3_1 := Lib.hid (T3''.out.below hb T3''.out.lt)
      have T4_1 := Lib.hid (T4'.out.below hb T4'.out.lt)
      have T5_1 := Lib.hid (T5.out.below hb T5.out.lt)
      have B4 := Lib.hid (B3.out.trans (hb.mono B3.out.size))
      clear hb
      have c30 := T3_1.out.c0
      have c31 := T3_1.out.c1
      have c32 := T3_1.out.c2
      have c40 := T4_1.out.c0
      have c41 := T4_1.out.c1
      have c42 := T4_1.out.c2
      have c50 := T5_1.out.c0
      have c51 := T5_1.out.c1
      have c52 := T5_1.out.c2
      go_wp2_with fail
      refine (FA.out _).mono ?_
      rintro e w2 ⟨rfl, hb⟩
      clear c30 c31 c32 c40 c41 c42 c50 c51 c52
      have T3_2 := Lib.hid (T3_1.out.below hb T3_1.out.lt)
      have T4_2 := Lib.hid (T4_1.out.below hb T4_1.out.lt)
      have T5_2 := Lib.hid (T5_1.out.below hb T5_1.out.lt)
      have B5 := Lib.hid (B4.out.trans (hb.mono B4.out.size))
      clear hb
      have c30 := T3_2.out.c0
      have c31 := T3_2.out.c1
      have c32 := T3_2.out.c2
      have c40 := T4_2.out.c0
      have c41 := T4_2.out.c1
      have c42 := T4_2.out.c2
      have c50 := T5_2.out.c0
      have c51 := T5_2.out.c1
      have c52 := T5_2.out.c2
      go_wp2_with fail
      refine (FB.out _).mono ?_
      rintro e w3 ⟨rfl, hb⟩
      clear c30 c31 c32 c40 c41 c42 c50 c51 c52
      have T3_3 := Lib.hid (T3_2.out.below hb T3_2.out.lt)
      have T4_3 := Lib.hid (T4_2.out.below hb T4_2.out.lt)
      have T5_3 := Lib.hid (T5_2.out.below hb T5_2.out.lt)
      have B6 := Lib.hid (B5.out.trans (hb.mono B5.out.size))
      clear hb
      have c30 := T3_3.out.c0
      have c31 := T3_3.out.c1
      have c32 := T3_3.out.c2
      have c40 := T4_3.out.c0
      have c41 := T4_3.out.c1
      have c42 := T4_3.out.c2
      have c50 := T5_3.out.c0
      have c51 := T5_3.out.c1
      have c52 := T5_3.out.c2
      go_wp2_with fail
      refine (FC.out _).mono ?_
      rintro e w4 ⟨rfl, hb⟩
      clear c30 c31 c32 c40 c41 c42 c50 c51 c52
      have T3_4 := Lib.hid (T3_3.out.below hb T3_3.out.lt)
      have T4_4 := Lib.hid (T4_3.out.below hb T4_3.out.lt)
      have T5_4 := Lib.hid (T5_3.out.below hb T5_3.out.lt)
      have B7 := Lib.hid (B6.out.trans (hb.mono B6.out.size))
      clear hb
      have c30 := T3_4.out.c0
      have c31 := T3_4.out.c1
      have c32 := T3_4.out.c2
      have c40 := T4_4.out.c0
      have c41 := T4_4.out.c1
      have c42 := T4_4.out.c2
      have c50 := T5_4.out.c0
      have c51 := T5_4.out.c1
      have c52 := T5_4.out.c2
      go_wp2
      go_ret
      exact ⟨rfl, B7.out⟩
    · have sb : b.s.size ≤ 300 := by simpa [cfew] using gb
      rw [gb] at FB
      clear gb
      cases gc : cfew c
      · rw [gc] at FC
        clear gc sa sb
        have B0 := Lib.hid (Below.refl w.heap.size w)
        have T3n := ClAt.new w a
        have T3 := Lib.hid (T3n)
        clear T3n
        have B1 := Lib.hid (B0.out.alloc B0.out.size (.cells #[.int .i64 a.n, .int .i64 a.r, .string a.s] 25))
        have T3' := Lib.hid (T3.out.old (.cells #[.int .i64 b.n, .int .i64 b.r, .string b.s] 25))
        have T4n := ClAt.new (w.alloc (.cells #[.int .i64 a.n, .int .i64 a.r, .string a.s] 25)) b
        simp only [World.size_alloc] at T4n
        have T4 := Lib.hid (T4n)
        clear T4n
        have B2 := Lib.hid (B1.out.alloc B1.out.size (.cells #[.int .i64 b.n, .int .i64 b.r, .string b.s] 25))
        have T3'' := Lib.hid (T3'.out.old (.cells #[.int .i64 c.n, .int .i64 c.r, .string c.s] 25))
        have T4' := Lib.hid (T4.out.old (.cells #[.int .i64 c.n, .int .i64 c.r, .string c.s] 25))
        have T5n := ClAt.new ((w.alloc (.cells #[.int .i64 a.n, .int .i64 a.r, .string a.s] 25)).alloc (.cells #[.int .i64 b.n, .int .i64 b.r, .string b.s] 25)) c
        simp only [World.size_alloc] at T5n
        have T5 := Lib.hid (T5n)
        clear T5n
        have B3 := Lib.hid (B2.out.alloc B2.out.size (.cells #[.int .i64 c.n, .int .i64 c.r, .string c.s] 25))
        go_enter Tryd.func5, Tryd.ntmps5
        go_wp2_with fail
        refine (clAwake _ (LD.out _ B3.out)).mono ?_
        rintro e w1 ⟨rfl, hb⟩
        have T3_1 := Lib.hid (T3''.out.below hb T3''.out.lt)
        have T4_1 := Lib.hid (T4'.out.below hb T4'.out.lt)
        have T5_1 := Lib.hid (T5.out.below hb T5.out.lt)
        have B4 := Lib.hid (B3.out.trans (hb.mono B3.out.size))
        clear hb
        have c30 := T3_1.out.c0
        have c31 := T3_1.out.c1
        have c32 := T3_1.out.c2
        have c40 := T4_1.out.c0
        have c41 := T4_1.out.c1
        have c42 := T4_1.out.c2
        have c50 := T5_1.out.c0
        have c51 := T5_1.out.c1
        have c52 := T5_1.out.c2
        go_wp2_with fail
        refine (FA.out _).mono ?_
        rintro e w2 ⟨rfl, hb⟩
        clear c30 c31 c32 c40 c41 c42 c50 c51 c52
        have T3_2 := Lib.hid (T3_1.out.below hb T3_1.out.lt)
        have T4_2 := Lib.hid (T4_1.out.below hb T4_1.out.lt)
        have T5_2 := Lib.hid (T5_1.out.below hb T5_1.out.lt)
        have B5 := Lib.hid (B4.out.trans (hb.mono B4.out.size))
        clear hb
        have c30 := T3_2.out.c0
        have c31 := T3_2.out.c1
        have c32 := T3_2.out.c2
        have c40 := T4_2.out.c0
        have c41 := T4_2.out.c1
        have c42 := T4_2.out.c2
        have c50 := T5_2.out.c0
        have c51 := T5_2.out.c1
        have c52 := T5_2.out.c2
        go_wp2_with fail
        refine (FB.out _).mono ?_
        rintro e w3 ⟨rfl, hb⟩
        clear c30 c31 c32 c40 c41 c42 c50 c51 c52
        have T3_3 := Lib.hid (T3_2.out.below hb T3_2.out.lt)
        have T4_3 := Lib.hid (T4_2.out.below hb T4_2.out.lt)
        have T5_3 := Lib.hid (T5_2.out.below hb T5_2.out.lt)
        have B6 := Lib.hid (B5.out.trans (hb.mono B5.out.size))
        clear hb
        have c30 := T3_3.out.c0
        have c31 := T3_3.out.c1
        have c32 := T3_3.out.c2
        have c40 := T4_3.out.c0
        have c41 := T4_3.out.c1
        have c42 := T4_3.out.c2
        have c50 := T5_3.out.c0
        have c51 := T5_3.out.c1
        have c52 := T5_3.out.c2
        go_wp2_with fail
        refine (FC.out _).mono ?_
        rintro e w4 ⟨rfl, hb⟩
        clear c30 c31 c32 c40 c41 c42 c50 c51 c52
        have T3_4 := Lib.hid (T3_3.out.below hb T3_3.out.lt)
        have T4_4 := Lib.hid (T4_3.out.below hb T4_3.out.lt)
        have T5_4 := Lib.hid (T5_3.out.below hb T5_3.out.lt)
        have B7 := Lib.hid (B6.out.trans (hb.mono B6.out.size))
        clear hb
        have c30 := T3_4.out.c0
        have c31 := T3_4.out.c1
        have c32 := T3_4.out.c2
        have c40 := T4_4.out.c0
        have c41 := T4_4.out.c1
        have c42 := T4_4.out.c2
        have c50 := T5_4.out.c0
        have c51 := T5_4.out.c1
        have c52 := T5_4.out.c2
        go_wp2
        go_ret
        exact ⟨rfl, B7.out⟩
      · have sc : c.s.size ≤ 300 := by simpa [cfew] using gc
        rw [gc] at FC
        clear gc
        by_cases hne : a = b
        · subst hne
          have LAB := Lib.hid (fun (w : World) (hl : Laid w) => cless_any a a w hl sa sa)
          have LBC := Lib.hid (fun (w : World) (hl : Laid w) => cless_any a c w hl sa sc)
          rw [cless_self] at LAB
          have LBA := LAB
          have hab := cl_same a
          have OA := Lib.hid (fun (w : World) (hl : Laid w) => of_any a.s w hl (by omega))
          have eq := eq_dig (SH.sum_bytes (nums a.s)) (SH.sum_bytes (nums a.s)) (SH.sum_len (nums a.s)) (SH.sum_len (nums a.s))
          unfold DSumPost at OA
          rw [show (SH.sum (nums a.s) == SH.sum (nums a.s)) = true by simp] at eq
          have OB := OA
          have EQ := Lib.hid eq
          dsimp only [Cel.v] at LAB LBA LBC
          generalize bvals (SH.sum (nums a.s)) = VA at *
          clear eq sa sb sc
          have B0 := Lib.hid (Below.refl w.heap.size w)
          have T3n := ClAt.new w a
          have T3 := Lib.hid (T3n)
          clear T3n
          have B1 := Lib.hid (B0.out.alloc B0.out.size (.cells #[.int .i64 a.n, .int .i64 a.r, .string a.s] 25))
          have T3' := Lib.hid (T3.out.old (.cells #[.int .i64 a.n, .int .i64 a.r, .string a.s] 25))
          have T4n := ClAt.new (w.alloc (.cells #[.int .i64 a.n, .int .i64 a.r, .string a.s] 25)) a
          simp only [World.size_alloc] at T4n
          have T4 := Lib.hid (T4n)
          clear T4n
          have B2 := Lib.hid (B1.out.alloc B1.out.size (.cells #[.int .i64 a.n, .int .i64 a.r, .string a.s] 25))
          have T3'' := Lib.hid (T3'.out.old (.cells #[.int .i64 c.n, .int .i64 c.r, .string c.s] 25))
          have T4' := Lib.hid (T4.out.old (.cells #[.int .i64 c.n, .int .i64 c.r, .string c.s] 25))
          have T5n := ClAt.new ((w.alloc (.cells #[.int .i64 a.n, .int .i64 a.r, .string a.s] 25)).alloc (.cells #[.int .i64 a.n, .int .i64 a.r, .string a.s] 25)) c
          simp only [World.size_alloc] at T5n
          have T5 := Lib.hid (T5n)
          clear T5n
          have B3 := Lib.hid (B2.out.alloc B2.out.size (.cells #[.int .i64 c.n, .int .i64 c.r, .string c.s] 25))
          go_enter Tryd.func5, Tryd.ntmps5
          go_wp2_with fail
          refine (clAwake _ (LD.out _ B3.out)).mono ?_
          rintro e w1 ⟨rfl, hb⟩
          have T3_1 := Lib.hid (T3''.out.below hb T3''.out.lt)
          have T4_1 := Lib.hid (T4'.out.below hb T4'.out.lt)
          have T5_1 := Lib.hid (T5.out.below hb T5.out.lt)
          have B4 := Lib.hid (B3.out.trans (hb.mono B3.out.size))
          clear hb
          have c30 := T3_1.out.c0
          have c31 := T3_1.out.c1
          have c32 := T3_1.out.c2
          have c40 := T4_1.out.c0
          have c41 := T4_1.out.c1
          have c42 := T4_1.out.c2
          have c50 := T5_1.out.c0
          have c51 := T5_1.out.c1
          have c52 := T5_1.out.c2
          go_wp2_with fail
          refine (FA.out _).mono ?_
          rintro e w2 ⟨rfl, hb⟩
          clear c30 c31 c32 c40 c41 c42 c50 c51 c52
          have T3_2 := Lib.hid (T3_1.out.below hb T3_1.out.lt)
          have T4_2 := Lib.hid (T4_1.out.below hb T4_1.out.lt)
          have T5_2 := Lib.hid (T5_1.out.below hb T5_1.out.lt)
          have B5 := Lib.hid (B4.out.trans (hb.mono B4.out.size))
          clear hb
          have c30 := T3_2.out.c0
          have c31 := T3_2.out.c1
          have c32 := T3_2.out.c2
          have c40 := T4_2.out.c0
          have c41 := T4_2.out.c1
          have c42 := T4_2.out.c2
          have c50 := T5_2.out.c0
          have c51 := T5_2.out.c1
          have c52 := T5_2.out.c2
          go_wp2_with fail
          refine (FB.out _).mono ?_
          rintro e w3 ⟨rfl, hb⟩
          clear c30 c31 c32 c40 c41 c42 c50 c51 c52
          have T3_3 := Lib.hid (T3_2.out.below hb T3_2.out.lt)
          have T4_3 := Lib.hid (T4_2.out.below hb T4_2.out.lt)
          have T5_3 := Lib.hid (T5_2.out.below hb T5_2.out.lt)
          have B6 := Lib.hid (B5.out.trans (hb.mono B5.out.size))
          clear hb
          have c30 := T3_3.out.c0
          have c31 := T3_3.out.c1
          have c32 := T3_3.out.c2
          have c40 := T4_3.out.c0
          have c41 := T4_3.out.c1
          have c42 := T4_3.out.c2
          have c50 := T5_3.out.c0
          have c51 := T5_3.out.c1
          have c52 := T5_3.out.c2
          go_wp2_with fail
          refine (FC.out _).mono ?_
          rintro e w4 ⟨rfl, hb⟩
          clear c30 c31 c32 c40 c41 c42 c50 c51 c52
          have T3_4 := Lib.hid (T3_3.out.below hb T3_3.out.lt)
          have T4_4 := Lib.hid (T4_3.out.below hb T4_3.out.lt)
          have T5_4 := Lib.hid (T5_3.out.below hb T5_3.out.lt)
          have B7 := Lib.hid (B6.out.trans (hb.mono B6.out.size))
          clear hb
          have c30 := T3_4.out.c0
          have c31 := T3_4.out.c1
          have c32 := T3_4.out.c2
          have c40 := T4_4.out.c0
          have c41 := T4_4.out.c1
          have c42 := T4_4.out.c2
          have c50 := T5_4.out.c0
          have c51 := T5_4.out.c1
          have c52 := T5_4.out.c2
          go_wp2_with fail
          refine (LAB.out _ (LD.out _ B7.out)).mono ?_
          rintro e w5 ⟨rfl, hb⟩
          clear c30 c31 c32 c40 c41 c42 c50 c51 c52
          have T3_5 := Lib.hid (T3_4.out.below hb T3_4.out.lt)
          have T4_5 := Lib.hid (T4_4.out.below hb T4_4.out.lt)
          have T5_5 := Lib.hid (T5_4.out.below hb T5_4.out.lt)
          have B8 := Lib.hid (B7.out.trans (hb.mono B7.out.size))
          clear hb
          have c30 := T3_5.out.c0
          have c31 := T3_5.out.c1
          have c32 := T3_5.out.c2
          have c40 := T4_5.out.c0
          have c41 := T4_5.out.c1
          have c42 := T4_5.out.c2
          have c50 := T5_5.out.c0
          have c51 := T5_5.out.c1
          have c52 := T5_5.out.c2
          go_wp2_with fail
          refine (LBA.out _ (LD.out _ B8.out)).mono ?_
          rintro e w6 ⟨rfl, hb⟩
          clear c30 c31 c32 c40 c41 c42 c50 c51 c52
          have T3_6 := Lib.hid (T3_5.out.below hb T3_5.out.lt)
          have T4_6 := Lib.hid (T4_5.out.below hb T4_5.out.lt)
          have T5_6 := Lib.hid (T5_5.out.below hb T5_5.out.lt)
          have B9 := Lib.hid (B8.out.trans (hb.mono B8.out.size))
          clear hb
          have c30 := T3_6.out.c0
          have c31 := T3_6.out.c1
          have c32 := T3_6.out.c2
          have c40 := T4_6.out.c0
          have c41 := T4_6.out.c1
          have c42 := T4_6.out.c2
          have c50 := T5_6.out.c0
          have c51 := T5_6.out.c1
          have c52 := T5_6.out.c2
          go_wp2_with fail
          refine (LBC.out _ (LD.out _ B9.out)).mono ?_
          rintro e w7 ⟨rfl, hb⟩
          clear c30 c31 c32 c40 c41 c42 c50 c51 c52
          have T3_7 := Lib.hid (T3_6.out.below hb T3_6.out.lt)
          have T4_7 := Lib.hid (T4_6.out.below hb T4_6.out.lt)
          have T5_7 := Lib.hid (T5_6.out.below hb T5_6.out.lt)
          have B10 := Lib.hid (B9.out.trans (hb.mono B9.out.size))
          clear hb
          have c30 := T3_7.out.c0
          have c31 := T3_7.out.c1
          have c32 := T3_7.out.c2
          have c40 := T4_7.out.c0
          have c41 := T4_7.out.c1
          have c42 := T4_7.out.c2
          have c50 := T5_7.out.c0
          have c51 := T5_7.out.c1
          have c52 := T5_7.out.c2
          go_wp2_with fail
          clear c30 c31 c32 c40 c41 c42 c50 c51 c52
          have LE := Lib.hid (fun (w9 : World) (hS : Below w7.heap.size w7 w9) => LD.out w9 (B10.out.trans (hS.mono B10.out.size)))
          refine wp_region_G w7 (by kernel_rfl) ?_
          refine wpG_take (i := 0) (oi := ⟨some 83, _, _, _, _, _⟩) (v := ?_) rfl (by kernel_rfl) (by kernel_rfl) (by kernel_rfl) (Or.inl ⟨by rfl, unib_val ?_⟩) ?_; rotate_left; (focus (intro w9 hSw; go_simp; try with_reducible rfl)); simp only [Act.put, List.setIfInBounds_toArray, List.set_cons_zero, List.set_cons_succ]
          refine wpG_take (i := 1) (oi := ⟨some 84, _, _, _, _, _⟩) (v := ?_) rfl (by kernel_rfl) (by kernel_rfl) (by kernel_rfl) (Or.inl ⟨by rfl, unib_val ?_⟩) ?_; rotate_left; (focus (intro w9 hSw; have q9 := T3_7.out.below hSw T3_7.out.lt; have q2 := q9.c2; go_simp; try with_reducible rfl)); simp only [Act.put, List.setIfInBounds_toArray, List.set_cons_zero, List.set_cons_succ]
          refine wpG_take (i := 2) (oi := ⟨some 85, _, _, _, _, _⟩) rfl (by kernel_rfl) (by kernel_rfl) (by kernel_rfl) (Or.inl ⟨by rfl, unib_call_if ?_ (fun w9 hSw => OA.out w9 (LE.out w9 hSw))⟩) ?_; (focus (intro w9 hSw; go_simp; try with_reducible rfl)); simp only [Act.put, List.setIfInBounds_toArray, List.set_cons_zero, List.set_cons_succ]
          refine wpG_take (i := 3) (oi := ⟨some 86, _, _, _, _, _⟩) (v := ?_) rfl (by kernel_rfl) (by kernel_rfl) (by kernel_rfl) (Or.inl ⟨by rfl, unib_val ?_⟩) ?_; rotate_left; (focus (intro w9 hSw; go_simp; try with_reducible rfl)); simp only [Act.put, List.setIfInBounds_toArray, List.set_cons_zero, List.set_cons_succ]
          refine wpG_take (i := 4) (oi := ⟨some 87, _, _, _, _, _⟩) (v := ?_) rfl (by kernel_rfl) (by kernel_rfl) (by kernel_rfl) (Or.inl ⟨by rfl, unib_val ?_⟩) ?_; rotate_left; (focus (intro w9 hSw; have q9 := T4_7.out.below hSw T4_7.out.lt; have q2 := q9.c2; go_simp; try with_reducible rfl)); simp only [Act.put, List.setIfInBounds_toArray, List.set_cons_zero, List.set_cons_succ]
          refine wpG_take (i := 5) (oi := ⟨some 88, _, _, _, _, _⟩) rfl (by kernel_rfl) (by kernel_rfl) (by kernel_rfl) (Or.inl ⟨by rfl, unib_call_if ?_ (fun w9 hSw => OB.out w9 (LE.out w9 hSw))⟩) ?_; (focus (intro w9 hSw; go_simp; try with_reducible rfl)); simp only [Act.put, List.setIfInBounds_toArray, List.set_cons_zero, List.set_cons_succ]
          refine wpG_take (i := 6) (oi := ⟨some 89, _, _, _, _, _⟩) (v := ?_) rfl (by kernel_rfl) (by kernel_rfl) (by kernel_rfl) (Or.inl ⟨by rfl, unib_val ?_⟩) ?_; rotate_left; (focus (intro w9 hSw; have q0 := EQ.out w9; go_simp; try with_reducible rfl)); simp only [Act.put, List.setIfInBounds_toArray, List.set_cons_zero, List.set_cons_succ]
          refine wpG_take (i := 7) (oi := ⟨some 90, _, _, _, _, _⟩) (v := ?_) rfl (by kernel_rfl) (by kernel_rfl) (by kernel_rfl) (Or.inl ⟨by rfl, unib_val ?_⟩) ?_; rotate_left; (focus (intro w9 hSw; go_simp; try with_reducible rfl)); simp only [Act.put, List.setIfInBounds_toArray, List.set_cons_zero, List.set_cons_succ]
          refine wpG_take (i := 8) (oi := ⟨some 91, _, _, _, _, _⟩) rfl (by kernel_rfl) (by kernel_rfl) (by kernel_rfl) (Or.inr ⟨by rfl, rfl⟩) ?_; simp only [Act.put, List.setIfInBounds_toArray, List.set_cons_zero, List.set_cons_succ]
          refine wpG_take (i := 9) (oi := ⟨some 92, _, _, _, _, _⟩) rfl (by kernel_rfl) (by kernel_rfl) (by kernel_rfl) (Or.inr ⟨by rfl, rfl⟩) ?_; simp only [Act.put, List.setIfInBounds_toArray, List.set_cons_zero, List.set_cons_succ]
          refine wpG_take (i := 10) (oi := ⟨some 93, _, _, _, _, _⟩) rfl (by kernel_rfl) (by kernel_rfl) (by kernel_rfl) (Or.inr ⟨by rfl, rfl⟩) ?_; simp only [Act.put, List.setIfInBounds_toArray, List.set_cons_zero, List.set_cons_succ]
          refine wpG_take (i := 11) (oi := ⟨some 94, _, _, _, _, _⟩) rfl (by kernel_rfl) (by kernel_rfl) (by kernel_rfl) (Or.inr ⟨by rfl, rfl⟩) ?_; simp only [Act.put, List.setIfInBounds_toArray, List.set_cons_zero, List.set_cons_succ]
          refine wpG_take (i := 12) (oi := ⟨some 95, _, _, _, _, _⟩) rfl (by kernel_rfl) (by kernel_rfl) (by kernel_rfl) (Or.inr ⟨by rfl, rfl⟩) ?_; simp only [Act.put, List.setIfInBounds_toArray, List.set_cons_zero, List.set_cons_succ]
          refine wpG_take (i := 13) (oi := ⟨some 96, _, _, _, _, _⟩) rfl (by kernel_rfl) (by kernel_rfl) (by kernel_rfl) (Or.inr ⟨by rfl, rfl⟩) ?_; simp only [Act.put, List.setIfInBounds_toArray, List.set_cons_zero, List.set_cons_succ]
          refine wpG_take (i := 14) (oi := ⟨some 97, _, _, _, _, _⟩) rfl (by kernel_rfl) (by kernel_rfl) (by kernel_rfl) (Or.inr ⟨by rfl, rfl⟩) ?_; simp only [Act.put, List.setIfInBounds_toArray, List.set_cons_zero, List.set_cons_succ]
          refine wpG_take (i := 15) (oi := ⟨some 98, _, _, _, _, _⟩) rfl (by kernel_rfl) (by kernel_rfl) (by kernel_rfl) (Or.inr ⟨by rfl, rfl⟩) ?_; simp only [Act.put, List.setIfInBounds_toArray, List.set_cons_zero, List.set_cons_succ]
          refine wpG_take (i := 16) (oi := ⟨some 99, _, _, _, _, _⟩) rfl (by kernel_rfl) (by kernel_rfl) (by kernel_rfl) (Or.inr ⟨by rfl, rfl⟩) ?_; simp only [Act.put, List.setIfInBounds_toArray, List.set_cons_zero, List.set_cons_succ]
          refine wpG_take (i := 17) (oi := ⟨some 100, _, _, _, _, _⟩) (v := ?_) rfl (by kernel_rfl) (by kernel_rfl) (by kernel_rfl) (Or.inl ⟨by rfl, unib_val ?_⟩) ?_; rotate_left; (focus (intro w9 hSw; go_simp; try with_reducible rfl)); simp only [Act.put, List.setIfInBounds_toArray, List.set_cons_zero, List.set_cons_succ]
          refine wpG_take (i := 18) (oi := ⟨some 6, _, _, _, _, _⟩) (v := ?_) rfl (by kernel_rfl) (by kernel_rfl) (by kernel_rfl) (Or.inl ⟨by rfl, unib_val ?_⟩) ?_; rotate_left; (focus (intro w9 hSw; go_simp; try with_reducible rfl)); simp only [Act.put, List.setIfInBounds_toArray, List.set_cons_zero, List.set_cons_succ]
          refine wpG_done (by kernel_rfl) ?_ _
          intro w9 hSw _
          go_wp2
          go_ret
          exact ⟨rfl, B10.out.trans (hSw.mono B10.out.size)⟩
        · skip
          have LAB := Lib.hid (fun (w : World) (hl : Laid w) => cless_any a b w hl sa sb)
          have LBA := Lib.hid (fun (w : World) (hl : Laid w) => cless_any b a w hl sb sa)
          have LBC := Lib.hid (fun (w : World) (hl : Laid w) => cless_any b c w hl sb sc)
          have LAC := Lib.hid (fun (w : World) (hl : Laid w) => cless_any a c w hl sa sc)
          dsimp only [Cel.v] at LAB LBA LBC LAC
          cases hx : cless a b
          · have hy : cless b a = true := by
              cases h : cless b a
              · exact absurd (cless_total hx h) hne
              · rfl
            rw [hx] at LAB
            rw [hy] at LBA
            clear LAC
            by_cases hst : a.n = b.n ∧ a.r = b.r
            · obtain ⟨hn, hr⟩ := hst
              have hst1 : stLess a.n a.r b.n b.r = false := by rw [hn, hr]; exact stLess_self _ _
              have hst2 : stLess b.n b.r a.n a.r = false := by rw [hn, hr]; exact stLess_self _ _
              have hss : ∀ w, (Op.equalIn 10000 23 (.agg #[.int .i64 a.n, .int .i64 a.r]) (.agg #[.int .i64 b.n, .int .i64 b.r])).run Tryd.prog w = .ok true w := by
                intro w
                rw [hn, hr]
                go_simp
              clear hn hr
              have OA := Lib.hid (fun (w : World) (hl : Laid w) => of_any a.s w hl (by omega))
              have OB := Lib.hid (fun (w : World) (hl : Laid w) => of_any b.s w hl (by omega))
              have DL := Lib.hid (fun (w : World) => less_any (SH.sum (nums a.s)) (SH.sum (nums b.s)) w (SH.sum_bytes _) (SH.sum_bytes _) (SH.sum_len _) (SH.sum_len _))
              have eq := eq_dig (SH.sum_bytes (nums a.s)) (SH.sum_bytes (nums b.s)) (SH.sum_len (nums a.s)) (SH.sum_len (nums b.s))
              unfold DSumPost at OA OB
              by_cases hd : SH.sum (nums a.s) = SH.sum (nums b.s)
              · rw [show (SH.sum (nums a.s) == SH.sum (nums b.s)) = true by rw [hd]; simp] at eq
                have EQ := Lib.hid eq
                have hab := cl_ne hne
                clear eq hd DL sa sb sc hst1 hst2
                generalize bvals (SH.sum (nums a.s)) = VA at *
                generalize bvals (SH.sum (nums b.s)) = VB at *
                have B0 := Lib.hid (Below.refl w.heap.size w)
                have T3n := ClAt.new w a
                have T3 := Lib.hid (T3n)
                clear T3n
                have B1 := Lib.hid (B0.out.alloc B0.out.size (.cells #[.int .i64 a.n, .int .i64 a.r, .string a.s] 25))
                have T3' := Lib.hid (T3.out.old (.cells #[.int .i64 b.n, .int .i64 b.r, .string b.s] 25))
                have T4n := ClAt.new (w.alloc (.cells #[.int .i64 a.n, .int .i64 a.r, .string a.s] 25)) b
                simp only [World.size_alloc] at T4n
                have T4 := Lib.hid (T4n)
                clear T4n
                have B2 := Lib.hid (B1.out.alloc B1.out.size (.cells #[.int .i64 b.n, .int .i64 b.r, .string b.s] 25))
                have T3'' := Lib.hid (T3'.out.old (.cells #[.int .i64 c.n, .int .i64 c.r, .string c.s] 25))
                have T4' := Lib.hid (T4.out.old (.cells #[.int .i64 c.n, .int .i64 c.r, .string c.s] 25))
                have T5n := ClAt.new ((w.alloc (.cells #[.int .i64 a.n, .int .i64 a.r, .string a.s] 25)).alloc (.cells #[.int .i64 b.n, .int .i64 b.r, .string b.s] 25)) c
                simp only [World.size_alloc] at T5n
                have T5 := Lib.hid (T5n)
                clear T5n
                have B3 := Lib.hid (B2.out.alloc B2.out.size (.cells #[.int .i64 c.n, .int .i64 c.r, .string c.s] 25))
                go_enter Tryd.func5, Tryd.ntmps5
                go_wp2_with fail
                refine (clAwake _ (LD.out _ B3.out)).mono ?_
                rintro e w1 ⟨rfl, hb⟩
                have T3_1 := Lib.hid (T3''.out.below hb T3''.out.lt)
                have T4_1 := Lib.hid (T4'.out.below hb T4'.out.lt)
                have T5_1 := Lib.hid (T5.out.below hb T5.out.lt)
                have B4 := Lib.hid (B3.out.trans (hb.mono B3.out.size))
                clear hb
                have c30 := T3_1.out.c0
                have c31 := T3_1.out.c1
                have c32 := T3_1.out.c2
                have c40 := T4_1.out.c0
                have c41 := T4_1.out.c1
                have c42 := T4_1.out.c2
                have c50 := T5_1.out.c0
                have c51 := T5_1.out.c1
                have c52 := T5_1.out.c2
                go_wp2_with fail
                refine (FA.out _).mono ?_
                rintro e w2 ⟨rfl, hb⟩
                clear c30 c31 c32 c40 c41 c42 c50 c51 c52
                have T3_2 := Lib.hid (T3_1.out.below hb T3_1.out.lt)
                have T4_2 := Lib.hid (T4_1.out.below hb T4_1.out.lt)
                have T5_2 := Lib.hid (T5_1.out.below hb T5_1.out.lt)
                have B5 := Lib.hid (B4.out.trans (hb.mono B4.out.size))
                clear hb
                have c30 := T3_2.out.c0
                have c31 := T3_2.out.c1
                have c32 := T3_2.out.c2
                have c40 := T4_2.out.c0
                have c41 := T4_2.out.c1
                have c42 := T4_2.out.c2
                have c50 := T5_2.out.c0
                have c51 := T5_2.out.c1
                have c52 := T5_2.out.c2
                go_wp2_with fail
                refine (FB.out _).mono ?_
                rintro e w3 ⟨rfl, hb⟩
                clear c30 c31 c32 c40 c41 c42 c50 c51 c52
                have T3_3 := Lib.hid (T3_2.out.below hb T3_2.out.lt)
                have T4_3 := Lib.hid (T4_2.out.below hb T4_2.out.lt)
                have T5_3 := Lib.hid (T5_2.out.below hb T5_2.out.lt)
                have B6 := Lib.hid (B5.out.trans (hb.mono B5.out.size))
                clear hb
                have c30 := T3_3.out.c0
                have c31 := T3_3.out.c1
                have c32 := T3_3.out.c2
                have c40 := T4_3.out.c0
                have c41 := T4_3.out.c1
                have c42 := T4_3.out.c2
                have c50 := T5_3.out.c0
                have c51 := T5_3.out.c1
                have c52 := T5_3.out.c2
                go_wp2_with fail
                refine (FC.out _).mono ?_
                rintro e w4 ⟨rfl, hb⟩
                clear c30 c31 c32 c40 c41 c42 c50 c51 c52
                have T3_4 := Lib.hid (T3_3.out.below hb T3_3.out.lt)
                have T4_4 := Lib.hid (T4_3.out.below hb T4_3.out.lt)
                have T5_4 := Lib.hid (T5_3.out.below hb T5_3.out.lt)
                have B7 := Lib.hid (B6.out.trans (hb.mono B6.out.size))
                clear hb
                have c30 := T3_4.out.c0
                have c31 := T3_4.out.c1
                have c32 := T3_4.out.c2
                have c40 := T4_4.out.c0
                have c41 := T4_4.out.c1
                have c42 := T4_4.out.c2
                have c50 := T5_4.out.c0
                have c51 := T5_4.out.c1
                have c52 := T5_4.out.c2
                go_wp2_with fail
                refine (LAB.out _ (LD.out _ B7.out)).mono ?_
                rintro e w5 ⟨rfl, hb⟩
                clear c30 c31 c32 c40 c41 c42 c50 c51 c52
                have T3_5 := Lib.hid (T3_4.out.below hb T3_4.out.lt)
                have T4_5 := Lib.hid (T4_4.out.below hb T4_4.out.lt)
                have T5_5 := Lib.hid (T5_4.out.below hb T5_4.out.lt)
                have B8 := Lib.hid (B7.out.trans (hb.mono B7.out.size))
                clear hb
                have c30 := T3_5.out.c0
                have c31 := T3_5.out.c1
                have c32 := T3_5.out.c2
                have c40 := T4_5.out.c0
                have c41 := T4_5.out.c1
                have c42 := T4_5.out.c2
                have c50 := T5_5.out.c0
                have c51 := T5_5.out.c1
                have c52 := T5_5.out.c2
                go_wp2_with fail
                refine (LBA.out _ (LD.out _ B8.out)).mono ?_
                rintro e w6 ⟨rfl, hb⟩
                clear c30 c31 c32 c40 c41 c42 c50 c51 c52
                have T3_6 := Lib.hid (T3_5.out.below hb T3_5.out.lt)
                have T4_6 := Lib.hid (T4_5.out.below hb T4_5.out.lt)
                have T5_6 := Lib.hid (T5_5.out.below hb T5_5.out.lt)
                have B9 := Lib.hid (B8.out.trans (hb.mono B8.out.size))
                clear hb
                have c30 := T3_6.out.c0
                have c31 := T3_6.out.c1
                have c32 := T3_6.out.c2
                have c40 := T4_6.out.c0
                have c41 := T4_6.out.c1
                have c42 := T4_6.out.c2
                have c50 := T5_6.out.c0
                have c51 := T5_6.out.c1
                have c52 := T5_6.out.c2
                go_wp2_with fail
                refine (LBC.out _ (LD.out _ B9.out)).mono ?_
                rintro e w7 ⟨rfl, hb⟩
                clear c30 c31 c32 c40 c41 c42 c50 c51 c52
                have T3_7 := Lib.hid (T3_6.out.below hb T3_6.out.lt)
                have T4_7 := Lib.hid (T4_6.out.below hb T4_6.out.lt)
                have T5_7 := Lib.hid (T5_6.out.below hb T5_6.out.lt)
                have B10 := Lib.hid (B9.out.trans (hb.mono B9.out.size))
                clear hb
                have c30 := T3_7.out.c0
                have c31 := T3_7.out.c1
                have c32 := T3_7.out.c2
                have c40 := T4_7.out.c0
                have c41 := T4_7.out.c1
                have c42 := T4_7.out.c2
                have c50 := T5_7.out.c0
                have c51 := T5_7.out.c1
                have c52 := T5_7.out.c2
                go_wp2_with fail
                clear c30 c31 c32 c40 c41 c42 c50 c51 c52
                have LE := Lib.hid (fun (w9 : World) (hS : Below w7.heap.size w7 w9) => LD.out w9 (B10.out.trans (hS.mono B10.out.size)))
                refine wp_region_G w7 (by kernel_rfl) ?_
                refine wpG_take (i := 0) (oi := ⟨some 83, _, _, _, _, _⟩) (v := ?_) rfl (by kernel_rfl) (by kernel_rfl) (by kernel_rfl) (Or.inl ⟨by rfl, unib_val ?_⟩) ?_; rotate_left; (focus (intro w9 hSw; go_simp; try with_reducible rfl)); simp only [Act.put, List.setIfInBounds_toArray, List.set_cons_zero, List.set_cons_succ]
                refine wpG_take (i := 1) (oi := ⟨some 84, _, _, _, _, _⟩) (v := ?_) rfl (by kernel_rfl) (by kernel_rfl) (by kernel_rfl) (Or.inl ⟨by rfl, unib_val ?_⟩) ?_; rotate_left; (focus (intro w9 hSw; have q9 := T3_7.out.below hSw T3_7.out.lt; have q2 := q9.c2; go_simp; try with_reducible rfl)); simp only [Act.put, List.setIfInBounds_toArray, List.set_cons_zero, List.set_cons_succ]
                refine wpG_take (i := 2) (oi := ⟨some 85, _, _, _, _, _⟩) rfl (by kernel_rfl) (by kernel_rfl) (by kernel_rfl) (Or.inl ⟨by rfl, unib_call_if ?_ (fun w9 hSw => OA.out w9 (LE.out w9 hSw))⟩) ?_; (focus (intro w9 hSw; go_simp; try with_reducible rfl)); simp only [Act.put, List.setIfInBounds_toArray, List.set_cons_zero, List.set_cons_succ]
                refine wpG_take (i := 3) (oi := ⟨some 86, _, _, _, _, _⟩) (v := ?_) rfl (by kernel_rfl) (by kernel_rfl) (by kernel_rfl) (Or.inl ⟨by rfl, unib_val ?_⟩) ?_; rotate_left; (focus (intro w9 hSw; go_simp; try with_reducible rfl)); simp only [Act.put, List.setIfInBounds_toArray, List.set_cons_zero, List.set_cons_succ]
                refine wpG_take (i := 4) (oi := ⟨some 87, _, _, _, _, _⟩) (v := ?_) rfl (by kernel_rfl) (by kernel_rfl) (by kernel_rfl) (Or.inl ⟨by rfl, unib_val ?_⟩) ?_; rotate_left; (focus (intro w9 hSw; have q9 := T4_7.out.below hSw T4_7.out.lt; have q2 := q9.c2; go_simp; try with_reducible rfl)); simp only [Act.put, List.setIfInBounds_toArray, List.set_cons_zero, List.set_cons_succ]
                refine wpG_take (i := 5) (oi := ⟨some 88, _, _, _, _, _⟩) rfl (by kernel_rfl) (by kernel_rfl) (by kernel_rfl) (Or.inl ⟨by rfl, unib_call_if ?_ (fun w9 hSw => OB.out w9 (LE.out w9 hSw))⟩) ?_; (focus (intro w9 hSw; go_simp; try with_reducible rfl)); simp only [Act.put, List.setIfInBounds_toArray, List.set_cons_zero, List.set_cons_succ]
                refine wpG_take (i := 6) (oi := ⟨some 89, _, _, _, _, _⟩) (v := ?_) rfl (by kernel_rfl) (by kernel_rfl) (by kernel_rfl) (Or.inl ⟨by rfl, unib_val ?_⟩) ?_; rotate_left; (focus (intro w9 hSw; have q0 := EQ.out w9; go_simp; try with_reducible rfl)); simp only [Act.put, List.setIfInBounds_toArray, List.set_cons_zero, List.set_cons_succ]
                refine wpG_take (i := 7) (oi := ⟨some 90, _, _, _, _, _⟩) (v := ?_) rfl (by kernel_rfl) (by kernel_rfl) (by kernel_rfl) (Or.inl ⟨by rfl, unib_val ?_⟩) ?_; rotate_left; (focus (intro w9 hSw; go_simp; try with_reducible rfl)); simp only [Act.put, List.setIfInBounds_toArray, List.set_cons_zero, List.set_cons_succ]
                refine wpG_take (i := 8) (oi := ⟨some 91, _, _, _, _, _⟩) rfl (by kernel_rfl) (by kernel_rfl) (by kernel_rfl) (Or.inr ⟨by rfl, rfl⟩) ?_; simp only [Act.put, List.setIfInBounds_toArray, List.set_cons_zero, List.set_cons_succ]
                refine wpG_take (i := 9) (oi := ⟨some 92, _, _, _, _, _⟩) rfl (by kernel_rfl) (by kernel_rfl) (by kernel_rfl) (Or.inr ⟨by rfl, rfl⟩) ?_; simp only [Act.put, List.setIfInBounds_toArray, List.set_cons_zero, List.set_cons_succ]
                refine wpG_take (i := 10) (oi := ⟨some 93, _, _, _, _, _⟩) rfl (by kernel_rfl) (by kernel_rfl) (by kernel_rfl) (Or.inr ⟨by rfl, rfl⟩) ?_; simp only [Act.put, List.setIfInBounds_toArray, List.set_cons_zero, List.set_cons_succ]
                refine wpG_take (i := 11) (oi := ⟨some 94, _, _, _, _, _⟩) rfl (by kernel_rfl) (by kernel_rfl) (by kernel_rfl) (Or.inr ⟨by rfl, rfl⟩) ?_; simp only [Act.put, List.setIfInBounds_toArray, List.set_cons_zero, List.set_cons_succ]
                refine wpG_take (i := 12) (oi := ⟨some 95, _, _, _, _, _⟩) rfl (by kernel_rfl) (by kernel_rfl) (by kernel_rfl) (Or.inr ⟨by rfl, rfl⟩) ?_; simp only [Act.put, List.setIfInBounds_toArray, List.set_cons_zero, List.set_cons_succ]
                refine wpG_take (i := 13) (oi := ⟨some 96, _, _, _, _, _⟩) rfl (by kernel_rfl) (by kernel_rfl) (by kernel_rfl) (Or.inr ⟨by rfl, rfl⟩) ?_; simp only [Act.put, List.setIfInBounds_toArray, List.set_cons_zero, List.set_cons_succ]
                refine wpG_take (i := 14) (oi := ⟨some 97, _, _, _, _, _⟩) rfl (by kernel_rfl) (by kernel_rfl) (by kernel_rfl) (Or.inr ⟨by rfl, rfl⟩) ?_; simp only [Act.put, List.setIfInBounds_toArray, List.set_cons_zero, List.set_cons_succ]
                refine wpG_take (i := 15) (oi := ⟨some 98, _, _, _, _, _⟩) rfl (by kernel_rfl) (by kernel_rfl) (by kernel_rfl) (Or.inr ⟨by rfl, rfl⟩) ?_; simp only [Act.put, List.setIfInBounds_toArray, List.set_cons_zero, List.set_cons_succ]
                refine wpG_take (i := 16) (oi := ⟨some 99, _, _, _, _, _⟩) rfl (by kernel_rfl) (by kernel_rfl) (by kernel_rfl) (Or.inr ⟨by rfl, rfl⟩) ?_; simp only [Act.put, List.setIfInBounds_toArray, List.set_cons_zero, List.set_cons_succ]
                refine wpG_take (i := 17) (oi := ⟨some 100, _, _, _, _, _⟩) (v := ?_) rfl (by kernel_rfl) (by kernel_rfl) (by kernel_rfl) (Or.inl ⟨by rfl, unib_val ?_⟩) ?_; rotate_left; (focus (intro w9 hSw; go_simp; try with_reducible rfl)); simp only [Act.put, List.setIfInBounds_toArray, List.set_cons_zero, List.set_cons_succ]
                refine wpG_take (i := 18) (oi := ⟨some 6, _, _, _, _, _⟩) (v := ?_) rfl (by kernel_rfl) (by kernel_rfl) (by kernel_rfl) (Or.inl ⟨by rfl, unib_val ?_⟩) ?_; rotate_left; (focus (intro w9 hSw; go_simp; try with_reducible rfl)); simp only [Act.put, List.setIfInBounds_toArray, List.set_cons_zero, List.set_cons_succ]
                refine wpG_done (by kernel_rfl) ?_ _
                intro w9 hSw _
                go_wp2
                go_ret
                exact ⟨rfl, B10.out.trans (hSw.mono B10.out.size)⟩
              · rw [show (SH.sum (nums a.s) == SH.sum (nums b.s)) = false by simpa using hd] at eq
                have EQ := Lib.hid eq
                have hab := cl_ne hne
                have hdl : lessL (SH.sum (nums a.s)) (SH.sum (nums b.s)) = false := by
                  cases h : lessL (SH.sum (nums a.s)) (SH.sum (nums b.s))
                  · cases h2 : lessL (SH.sum (nums b.s)) (SH.sum (nums a.s))
                    · exact absurd (lessL_total h h2) hd
                    · simp [cless, hst1, hst2, h, h2] at hx <;> try simp_all
                  · simp [cless, hst1, hst2, h] at hx <;> try simp_all
                rw [hdl] at DL
                clear eq hd hdl sa sb sc hst1 hst2
                generalize bvals (SH.sum (nums a.s)) = VA at *
                generalize bvals (SH.sum (nums b.s)) = VB at *
                have B0 := Lib.hid (Below.refl w.heap.size w)
                have T3n := ClAt.new w a
                have T3 := Lib.hid (T3n)
                clear T3n
                have B1 := Lib.hid (B0.out.alloc B0.out.size (.cells #[.int .i64 a.n, .int .i64 a.r, .string a.s] 25))
                have T3' := Lib.hid (T3.out.old (.cells #[.int .i64 b.n, .int .i64 b.r, .string b.s] 25))
                have T4n := ClAt.new (w.alloc (.cells #[.int .i64 a.n, .int .i64 a.r, .string a.s] 25)) b
                simp only [World.size_alloc] at T4n
                have T4 := Lib.hid (T4n)
                clear T4n
                have B2 := Lib.hid (B1.out.alloc B1.out.size (.cells #[.int .i64 b.n, .int .i64 b.r, .string b.s] 25))
                have T3'' := Lib.hid (T3'.out.old (.cells #[.int .i64 c.n, .int .i64 c.r, .string c.s] 25))
                have T4' := Lib.hid (T4.out.old (.cells #[.int .i64 c.n, .int .i64 c.r, .string c.s] 25))
                have T5n := ClAt.new ((w.alloc (.cells #[.int .i64 a.n, .int .i64 a.r, .string a.s] 25)).alloc (.cells #[.int .i64 b.n, .int .i64 b.r, .string b.s] 25)) c
                simp only [World.size_alloc] at T5n
                have T5 := Lib.hid (T5n)
                clear T5n
                have B3 := Lib.hid (B2.out.alloc B2.out.size (.cells #[.int .i64 c.n, .int .i64 c.r, .string c.s] 25))
                go_enter Tryd.func5, Tryd.ntmps5
                go_wp2_with fail
                refine (clAwake _ (LD.out _ B3.out)).mono ?_
                rintro e w1 ⟨rfl, hb⟩
                have T3_1 := Lib.hid (T3''.out.below hb T3''.out.lt)
                have T4_1 := Lib.hid (T4'.out.below hb T4'.out.lt)
                have T5_1 := Lib.hid (T5.out.below hb T5.out.lt)
                have B4 := Lib.hid (B3.out.trans (hb.mono B3.out.size))
                clear hb
                have c30 := T3_1.out.c0
                have c31 := T3_1.out.c1
                have c32 := T3_1.out.c2
                have c40 := T4_1.out.c0
                have c41 := T4_1.out.c1
                have c42 := T4_1.out.c2
                have c50 := T5_1.out.c0
                have c51 := T5_1.out.c1
                have c52 := T5_1.out.c2
                go_wp2_with fail
                refine (FA.out _).mono ?_
                rintro e w2 ⟨rfl, hb⟩
                clear c30 c31 c32 c40 c41 c42 c50 c51 c52
                have T3_2 := Lib.hid (T3_1.out.below hb T3_1.out.lt)
                have T4_2 := Lib.hid (T4_1.out.below hb T4_1.out.lt)
                have T5_2 := Lib.hid (T5_1.out.below hb T5_1.out.lt)
                have B5 := Lib.hid (B4.out.trans (hb.mono B4.out.size))
                clear hb
                have c30 := T3_2.out.c0
                have c31 := T3_2.out.c1
                have c32 := T3_2.out.c2
                have c40 := T4_2.out.c0
                have c41 := T4_2.out.c1
                have c42 := T4_2.out.c2
                have c50 := T5_2.out.c0
                have c51 := T5_2.out.c1
                have c52 := T5_2.out.c2
                go_wp2_with fail
                refine (FB.out _).mono ?_
                rintro e w3 ⟨rfl, hb⟩
                clear c30 c31 c32 c40 c41 c42 c50 c51 c52
                have T3_3 := Lib.hid (T3_2.out.below hb T3_2.out.lt)
                have T4_3 := Lib.hid (T4_2.out.below hb T4_2.out.lt)
                have T5_3 := Lib.hid (T5_2.out.below hb T5_2.out.lt)
                have B6 := Lib.hid (B5.out.trans (hb.mono B5.out.size))
                clear hb
                have c30 := T3_3.out.c0
                have c31 := T3_3.out.c1
                have c32 := T3_3.out.c2
                have c40 := T4_3.out.c0
                have c41 := T4_3.out.c1
                have c42 := T4_3.out.c2
                have c50 := T5_3.out.c0
                have c51 := T5_3.out.c1
                have c52 := T5_3.out.c2
                go_wp2_with fail
                refine (FC.out _).mono ?_
                rintro e w4 ⟨rfl, hb⟩
                clear c30 c31 c32 c40 c41 c42 c50 c51 c52
                have T3_4 := Lib.hid (T3_3.out.below hb T3_3.out.lt)
                have T4_4 := Lib.hid (T4_3.out.below hb T4_3.out.lt)
                have T5_4 := Lib.hid (T5_3.out.below hb T5_3.out.lt)
                have B7 := Lib.hid (B6.out.trans (hb.mono B6.out.size))
                clear hb
                have c30 := T3_4.out.c0
                have c31 := T3_4.out.c1
                have c32 := T3_4.out.c2
                have c40 := T4_4.out.c0
                have c41 := T4_4.out.c1
                have c42 := T4_4.out.c2
                have c50 := T5_4.out.c0
                have c51 := T5_4.out.c1
                have c52 := T5_4.out.c2
                go_wp2_with fail
                refine (LAB.out _ (LD.out _ B7.out)).mono ?_
                rintro e w5 ⟨rfl, hb⟩
                clear c30 c31 c32 c40 c41 c42 c50 c51 c52
                have T3_5 := Lib.hid (T3_4.out.below hb T3_4.out.lt)
                have T4_5 := Lib.hid (T4_4.out.below hb T4_4.out.lt)
                have T5_5 := Lib.hid (T5_4.out.below hb T5_4.out.lt)
                have B8 := Lib.hid (B7.out.trans (hb.mono B7.out.size))
                clear hb
                have c30 := T3_5.out.c0
                have c31 := T3_5.out.c1
                have c32 := T3_5.out.c2
                have c40 := T4_5.out.c0
                have c41 := T4_5.out.c1
                have c42 := T4_5.out.c2
                have c50 := T5_5.out.c0
                have c51 := T5_5.out.c1
                have c52 := T5_5.out.c2
                go_wp2_with fail
                refine (LBA.out _ (LD.out _ B8.out)).mono ?_
                rintro e w6 ⟨rfl, hb⟩
                clear c30 c31 c32 c40 c41 c42 c50 c51 c52
                have T3_6 := Lib.hid (T3_5.out.below hb T3_5.out.lt)
                have T4_6 := Lib.hid (T4_5.out.below hb T4_5.out.lt)
                have T5_6 := Lib.hid (T5_5.out.below hb T5_5.out.lt)
                have B9 := Lib.hid (B8.out.trans (hb.mono B8.out.size))
                clear hb
                have c30 := T3_6.out.c0
                have c31 := T3_6.out.c1
                have c32 := T3_6.out.c2
                have c40 := T4_6.out.c0
                have c41 := T4_6.out.c1
                have c42 := T4_6.out.c2
                have c50 := T5_6.out.c0
                have c51 := T5_6.out.c1
                have c52 := T5_6.out.c2
                go_wp2_with fail
                refine (LBC.out _ (LD.out _ B9.out)).mono ?_
                rintro e w7 ⟨rfl, hb⟩
                clear c30 c31 c32 c40 c41 c42 c50 c51 c52
                have T3_7 := Lib.hid (T3_6.out.below hb T3_6.out.lt)
                have T4_7 := Lib.hid (T4_6.out.below hb T4_6.out.lt)
                have T5_7 := Lib.hid (T5_6.out.below hb T5_6.out.lt)
                have B10 := Lib.hid (B9.out.trans (hb.mono B9.out.size))
                clear hb
                have c30 := T3_7.out.c0
                have c31 := T3_7.out.c1
                have c32 := T3_7.out.c2
                have c40 := T4_7.out.c0
                have c41 := T4_7.out.c1
                have c42 := T4_7.out.c2
                have c50 := T5_7.out.c0
                have c51 := T5_7.out.c1
                have c52 := T5_7.out.c2
                go_wp2_with fail
                clear c30 c31 c32 c40 c41 c42 c50 c51 c52
                have LE := Lib.hid (fun (w9 : World) (hS : Below w7.heap.size w7 w9) => LD.out w9 (B10.out.trans (hS.mono B10.out.size)))
                refine wp_region_G w7 (by kernel_rfl) ?_
                refine wpG_take (i := 0) (oi := ⟨some 83, _, _, _, _, _⟩) (v := ?_) rfl (by kernel_rfl) (by kernel_rfl) (by kernel_rfl) (Or.inl ⟨by rfl, unib_val ?_⟩) ?_; rotate_left; (focus (intro w9 hSw; go_simp; try with_reducible rfl)); simp only [Act.put, List.setIfInBounds_toArray, List.set_cons_zero, List.set_cons_succ]
                refine wpG_take (i := 1) (oi := ⟨some 84, _, _, _, _, _⟩) (v := ?_) rfl (by kernel_rfl) (by kernel_rfl) (by kernel_rfl) (Or.inl ⟨by rfl, unib_val ?_⟩) ?_; rotate_left; (focus (intro w9 hSw; have q9 := T3_7.out.below hSw T3_7.out.lt; have q2 := q9.c2; go_simp; try with_reducible rfl)); simp only [Act.put, List.setIfInBounds_toArray, List.set_cons_zero, List.set_cons_succ]
                refine wpG_take (i := 2) (oi := ⟨some 85, _, _, _, _, _⟩) rfl (by kernel_rfl) (by kernel_rfl) (by kernel_rfl) (Or.inl ⟨by rfl, unib_call_if ?_ (fun w9 hSw => OA.out w9 (LE.out w9 hSw))⟩) ?_; (focus (intro w9 hSw; go_simp; try with_reducible rfl)); simp only [Act.put, List.setIfInBounds_toArray, List.set_cons_zero, List.set_cons_succ]
                refine wpG_take (i := 3) (oi := ⟨some 86, _, _, _, _, _⟩) (v := ?_) rfl (by kernel_rfl) (by kernel_rfl) (by kernel_rfl) (Or.inl ⟨by rfl, unib_val ?_⟩) ?_; rotate_left; (focus (intro w9 hSw; go_simp; try with_reducible rfl)); simp only [Act.put, List.setIfInBounds_toArray, List.set_cons_zero, List.set_cons_succ]
                refine wpG_take (i := 4) (oi := ⟨some 87, _, _, _, _, _⟩) (v := ?_) rfl (by kernel_rfl) (by kernel_rfl) (by kernel_rfl) (Or.inl ⟨by rfl, unib_val ?_⟩) ?_; rotate_left; (focus (intro w9 hSw; have q9 := T4_7.out.below hSw T4_7.out.lt; have q2 := q9.c2; go_simp; try with_reducible rfl)); simp only [Act.put, List.setIfInBounds_toArray, List.set_cons_zero, List.set_cons_succ]
                refine wpG_take (i := 5) (oi := ⟨some 88, _, _, _, _, _⟩) rfl (by kernel_rfl) (by kernel_rfl) (by kernel_rfl) (Or.inl ⟨by rfl, unib_call_if ?_ (fun w9 hSw => OB.out w9 (LE.out w9 hSw))⟩) ?_; (focus (intro w9 hSw; go_simp; try with_reducible rfl)); simp only [Act.put, List.setIfInBounds_toArray, List.set_cons_zero, List.set_cons_succ]
                refine wpG_take (i := 6) (oi := ⟨some 89, _, _, _, _, _⟩) (v := ?_) rfl (by kernel_rfl) (by kernel_rfl) (by kernel_rfl) (Or.inl ⟨by rfl, unib_val ?_⟩) ?_; rotate_left; (focus (intro w9 hSw; have q0 := EQ.out w9; go_simp; try with_reducible rfl)); simp only [Act.put, List.setIfInBounds_toArray, List.set_cons_zero, List.set_cons_succ]
                refine wpG_take (i := 7) (oi := ⟨some 90, _, _, _, _, _⟩) (v := ?_) rfl (by kernel_rfl) (by kernel_rfl) (by kernel_rfl) (Or.inl ⟨by rfl, unib_val ?_⟩) ?_; rotate_left; (focus (intro w9 hSw; go_simp; try with_reducible rfl)); simp only [Act.put, List.setIfInBounds_toArray, List.set_cons_zero, List.set_cons_succ]
                refine wpG_take (i := 8) (oi := ⟨some 91, _, _, _, _, _⟩) (v := ?_) rfl (by kernel_rfl) (by kernel_rfl) (by kernel_rfl) (Or.inl ⟨by rfl, unib_val ?_⟩) ?_; rotate_left; (focus (intro w9 hSw; go_simp; try with_reducible rfl)); simp only [Act.put, List.setIfInBounds_toArray, List.set_cons_zero, List.set_cons_succ]
                refine wpG_take (i := 9) (oi := ⟨some 92, _, _, _, _, _⟩) (v := ?_) rfl (by kernel_rfl) (by kernel_rfl) (by kernel_rfl) (Or.inl ⟨by rfl, unib_val ?_⟩) ?_; rotate_left; (focus (intro w9 hSw; go_simp; try with_reducible rfl)); simp only [Act.put, List.setIfInBounds_toArray, List.set_cons_zero, List.set_cons_succ]
                refine wpG_take (i := 10) (oi := ⟨some 93, _, _, _, _, _⟩) (v := ?_) rfl (by kernel_rfl) (by kernel_rfl) (by kernel_rfl) (Or.inl ⟨by rfl, unib_val ?_⟩) ?_; rotate_left; (focus (intro w9 hSw; have q9 := T3_7.out.below hSw T3_7.out.lt; have q2 := q9.c2; go_simp; try with_reducible rfl)); simp only [Act.put, List.setIfInBounds_toArray, List.set_cons_zero, List.set_cons_succ]
                refine wpG_take (i := 11) (oi := ⟨some 94, _, _, _, _, _⟩) rfl (by kernel_rfl) (by kernel_rfl) (by kernel_rfl) (Or.inl ⟨by rfl, unib_call_if ?_ (fun w9 hSw => OA.out w9 (LE.out w9 hSw))⟩) ?_; (focus (intro w9 hSw; go_simp; try with_reducible rfl)); simp only [Act.put, List.setIfInBounds_toArray, List.set_cons_zero, List.set_cons_succ]
                refine wpG_take (i := 12) (oi := ⟨some 95, _, _, _, _, _⟩) (v := ?_) rfl (by kernel_rfl) (by kernel_rfl) (by kernel_rfl) (Or.inl ⟨by rfl, unib_val ?_⟩) ?_; rotate_left; (focus (intro w9 hSw; go_simp; try with_reducible rfl)); simp only [Act.put, List.setIfInBounds_toArray, List.set_cons_zero, List.set_cons_succ]
                refine wpG_take (i := 13) (oi := ⟨some 96, _, _, _, _, _⟩) (v := ?_) rfl (by kernel_rfl) (by kernel_rfl) (by kernel_rfl) (Or.inl ⟨by rfl, unib_val ?_⟩) ?_; rotate_left; (focus (intro w9 hSw; have q9 := T4_7.out.below hSw T4_7.out.lt; have q2 := q9.c2; go_simp; try with_reducible rfl)); simp only [Act.put, List.setIfInBounds_toArray, List.set_cons_zero, List.set_cons_succ]
                refine wpG_take (i := 14) (oi := ⟨some 97, _, _, _, _, _⟩) rfl (by kernel_rfl) (by kernel_rfl) (by kernel_rfl) (Or.inl ⟨by rfl, unib_call_if ?_ (fun w9 hSw => OB.out w9 (LE.out w9 hSw))⟩) ?_; (focus (intro w9 hSw; go_simp; try with_reducible rfl)); simp only [Act.put, List.setIfInBounds_toArray, List.set_cons_zero, List.set_cons_succ]
                refine wpG_take (i := 15) (oi := ⟨some 98, _, _, _, _, _⟩) rfl (by kernel_rfl) (by kernel_rfl) (by kernel_rfl) (Or.inl ⟨by rfl, unib_call ?_ DL.out⟩) ?_; (focus (intro w9 hSw; go_simp; try with_reducible rfl)); simp only [Act.put, List.setIfInBounds_toArray, List.set_cons_zero, List.set_cons_succ]
                refine wpG_take (i := 16) (oi := ⟨some 99, _, _, _, _, _⟩) (v := ?_) rfl (by kernel_rfl) (by kernel_rfl) (by kernel_rfl) (Or.inl ⟨by rfl, unib_val ?_⟩) ?_; rotate_left; (focus (intro w9 hSw; go_simp; try with_reducible rfl)); simp only [Act.put, List.setIfInBounds_toArray, List.set_cons_zero, List.set_cons_succ]
                refine wpG_take (i := 17) (oi := ⟨some 100, _, _, _, _, _⟩) (v := ?_) rfl (by kernel_rfl) (by kernel_rfl) (by kernel_rfl) (Or.inl ⟨by rfl, unib_val ?_⟩) ?_; rotate_left; (focus (intro w9 hSw; go_simp; try with_reducible rfl)); simp only [Act.put, List.setIfInBounds_toArray, List.set_cons_zero, List.set_cons_succ]
                refine wpG_take (i := 18) (oi := ⟨some 6, _, _, _, _, _⟩) (v := ?_) rfl (by kernel_rfl) (by kernel_rfl) (by kernel_rfl) (Or.inl ⟨by rfl, unib_val ?_⟩) ?_; rotate_left; (focus (intro w9 hSw; go_simp; try with_reducible rfl)); simp only [Act.put, List.setIfInBounds_toArray, List.set_cons_zero, List.set_cons_succ]
                refine wpG_done (by kernel_rfl) ?_ _
                intro w9 hSw _
                go_wp2
                go_ret
                exact ⟨rfl, B10.out.trans (hSw.mono B10.out.size)⟩
            · have hab := cl_ne hne
              have hss := st_ne hst
              have SAB := Lib.hid (stLess_any a.n a.r b.n b.r)
              have hsl : stLess a.n a.r b.n b.r = false := by
                cases h : stLess a.n a.r b.n b.r
                · cases h2 : stLess b.n b.r a.n a.r
                  · first | rfl | (rw [st_no] at h h2; exact absurd (by omega) hst)
                  · simp [cless, h, h2] at hx <;> try simp_all
                · simp [cless, h] at hx <;> try simp_all
              rw [hsl] at SAB
              unfold st at SAB
              clear sa sb sc hst hsl
              have B0 := Lib.hid (Below.refl w.heap.size w)
              have T3n := ClAt.new w a
              have T3 := Lib.hid (T3n)
              clear T3n
              have B1 := Lib.hid (B0.out.alloc B0.out.size (.cells #[.int .i64 a.n, .int .i64 a.r, .string a.s] 25))
              have T3' := Lib.hid (T3.out.old (.cells #[.int .i64 b.n, .int .i64 b.r, .string b.s] 25))
              have T4n := ClAt.new (w.alloc (.cells #[.int .i64 a.n, .int .i64 a.r, .string a.s] 25)) b
              simp only [World.size_alloc] at T4n
              have T4 := Lib.hid (T4n)
              clear T4n
              have B2 := Lib.hid (B1.out.alloc B1.out.size (.cells #[.int .i64 b.n, .int .i64 b.r, .string b.s] 25))
              have T3'' := Lib.hid (T3'.out.old (.cells #[.int .i64 c.n, .int .i64 c.r, .string c.s] 25))
              have T4' := Lib.hid (T4.out.old (.cells #[.int .i64 c.n, .int .i64 c.r, .string c.s] 25))
              have T5n := ClAt.new ((w.alloc (.cells #[.int .i64 a.n, .int .i64 a.r, .string a.s] 25)).alloc (.cells #[.int .i64 b.n, .int .i64 b.r, .string b.s] 25)) c
              simp only [World.size_alloc] at T5n
              have T5 := Lib.hid (T5n)
              clear T5n
              have B3 := Lib.hid (B2.out.alloc B2.out.size (.cells #[.int .i64 c.n, .int .i64 c.r, .string c.s] 25))
              go_enter Tryd.func5, Tryd.ntmps5
              go_wp2_with fail
              refine (clAwake _ (LD.out _ B3.out)).mono ?_
              rintro e w1 ⟨rfl, hb⟩
              have T3_1 := Lib.hid (T3''.out.below hb T3''.out.lt)
              have T4_1 := Lib.hid (T4'.out.below hb T4'.out.lt)
              have T5_1 := Lib.hid (T5.out.below hb T5.out.lt)
              have B4 := Lib.hid (B3.out.trans (hb.mono B3.out.size))
              clear hb
              have c30 := T3_1.out.c0
              have c31 := T3_1.out.c1
              have c32 := T3_1.out.c2
              have c40 := T4_1.out.c0
              have c41 := T4_1.out.c1
              have c42 := T4_1.out.c2
              have c50 := T5_1.out.c0
              have c51 := T5_1.out.c1
              have c52 := T5_1.out.c2
              go_wp2_with fail
              refine (FA.out _).mono ?_
              rintro e w2 ⟨rfl, hb⟩
              clear c30 c31 c32 c40 c41 c42 c50 c51 c52
              have T3_2 := Lib.hid (T3_1.out.below hb T3_1.out.lt)
              have T4_2 := Lib.hid (T4_1.out.below hb T4_1.out.lt)
              have T5_2 := Lib.hid (T5_1.out.below hb T5_1.out.lt)
              have B5 := Lib.hid (B4.out.trans (hb.mono B4.out.size))
              clear hb
              have c30 := T3_2.out.c0
              have c31 := T3_2.out.c1
              have c32 := T3_2.out.c2
              have c40 := T4_2.out.c0
              have c41 := T4_2.out.c1
              have c42 := T4_2.out.c2
              have c50 := T5_2.out.c0
              have c51 := T5_2.out.c1
              have c52 := T5_2.out.c2
              go_wp2_with fail
              refine (FB.out _).mono ?_
              rintro e w3 ⟨rfl, hb⟩
              clear c30 c31 c32 c40 c41 c42 c50 c51 c52
              have T3_3 := Lib.hid (T3_2.out.below hb T3_2.out.lt)
              have T4_3 := Lib.hid (T4_2.out.below hb T4_2.out.lt)
              have T5_3 := Lib.hid (T5_2.out.below hb T5_2.out.lt)
              have B6 := Lib.hid (B5.out.trans (hb.mono B5.out.size))
              clear hb
              have c30 := T3_3.out.c0
              have c31 := T3_3.out.c1
              have c32 := T3_3.out.c2
              have c40 := T4_3.out.c0
              have c41 := T4_3.out.c1
              have c42 := T4_3.out.c2
              have c50 := T5_3.out.c0
              have c51 := T5_3.out.c1
              have c52 := T5_3.out.c2
              go_wp2_with fail
              refine (FC.out _).mono ?_
              rintro e w4 ⟨rfl, hb⟩
              clear c30 c31 c32 c40 c41 c42 c50 c51 c52
              have T3_4 := Lib.hid (T3_3.out.below hb T3_3.out.lt)
              have T4_4 := Lib.hid (T4_3.out.below hb T4_3.out.lt)
              have T5_4 := Lib.hid (T5_3.out.below hb T5_3.out.lt)
              have B7 := Lib.hid (B6.out.trans (hb.mono B6.out.size))
              clear hb
              have c30 := T3_4.out.c0
              have c31 := T3_4.out.c1
              have c32 := T3_4.out.c2
              have c40 := T4_4.out.c0
              have c41 := T4_4.out.c1
              have c42 := T4_4.out.c2
              have c50 := T5_4.out.c0
              have c51 := T5_4.out.c1
              have c52 := T5_4.out.c2
              go_wp2_with fail
              refine (LAB.out _ (LD.out _ B7.out)).mono ?_
              rintro e w5 ⟨rfl, hb⟩
              clear c30 c31 c32 c40 c41 c42 c50 c51 c52
              have T3_5 := Lib.hid (T3_4.out.below hb T3_4.out.lt)
              have T4_5 := Lib.hid (T4_4.out.below hb T4_4.out.lt)
              have T5_5 := Lib.hid (T5_4.out.below hb T5_4.out.lt)
              have B8 := Lib.hid (B7.out.trans (hb.mono B7.out.size))
              clear hb
              have c30 := T3_5.out.c0
              have c31 := T3_5.out.c1
              have c32 := T3_5.out.c2
              have c40 := T4_5.out.c0
              have c41 := T4_5.out.c1
              have c42 := T4_5.out.c2
              have c50 := T5_5.out.c0
              have c51 := T5_5.out.c1
              have c52 := T5_5.out.c2
              go_wp2_with fail
              refine (LBA.out _ (LD.out _ B8.out)).mono ?_
              rintro e w6 ⟨rfl, hb⟩
              clear c30 c31 c32 c40 c41 c42 c50 c51 c52
              have T3_6 := Lib.hid (T3_5.out.below hb T3_5.out.lt)
              have T4_6 := Lib.hid (T4_5.out.below hb T4_5.out.lt)
              have T5_6 := Lib.hid (T5_5.out.below hb T5_5.out.lt)
              have B9 := Lib.hid (B8.out.trans (hb.mono B8.out.size))
              clear hb
              have c30 := T3_6.out.c0
              have c31 := T3_6.out.c1
              have c32 := T3_6.out.c2
              have c40 := T4_6.out.c0
              have c41 := T4_6.out.c1
              have c42 := T4_6.out.c2
              have c50 := T5_6.out.c0
              have c51 := T5_6.out.c1
              have c52 := T5_6.out.c2
              go_wp2_with fail
              refine (LBC.out _ (LD.out _ B9.out)).mono ?_
              rintro e w7 ⟨rfl, hb⟩
              clear c30 c31 c32 c40 c41 c42 c50 c51 c52
              have T3_7 := Lib.hid (T3_6.out.below hb T3_6.out.lt)
              have T4_7 := Lib.hid (T4_6.out.below hb T4_6.out.lt)
              have T5_7 := Lib.hid (T5_6.out.below hb T5_6.out.lt)
              have B10 := Lib.hid (B9.out.trans (hb.mono B9.out.size))
              clear hb
              have c30 := T3_7.out.c0
              have c31 := T3_7.out.c1
              have c32 := T3_7.out.c2
              have c40 := T4_7.out.c0
              have c41 := T4_7.out.c1
              have c42 := T4_7.out.c2
              have c50 := T5_7.out.c0
              have c51 := T5_7.out.c1
              have c52 := T5_7.out.c2
              go_wp2_with fail
              refine (SAB.out _).mono ?_
              rintro e w8 ⟨rfl, hb⟩
              clear c30 c31 c32 c40 c41 c42 c50 c51 c52
              have T3_8 := Lib.hid (T3_7.out.below hb T3_7.out.lt)
              have T4_8 := Lib.hid (T4_7.out.below hb T4_7.out.lt)
              have T5_8 := Lib.hid (T5_7.out.below hb T5_7.out.lt)
              have B11 := Lib.hid (B10.out.trans (hb.mono B10.out.size))
              clear hb
              go_wp2
              go_ret
              exact ⟨rfl, B11.out⟩
          · have hy : cless b a = false := cless_not hx
            rw [hx] at LAB
            rw [hy] at LBA
            cases hz : cless b c
            · rw [hz] at LBC
              clear LAC hz
              by_cases hst : a.n = b.n ∧ a.r = b.r
              · obtain ⟨hn, hr⟩ := hst
                have hst1 : stLess a.n a.r b.n b.r = false := by rw [hn, hr]; exact stLess_self _ _
                have hst2 : stLess b.n b.r a.n a.r = false := by rw [hn, hr]; exact stLess_self _ _
                have hss : ∀ w, (Op.equalIn 10000 23 (.agg #[.int .i64 a.n, .int .i64 a.r]) (.agg #[.int .i64 b.n, .int .i64 b.r])).run Tryd.prog w = .ok true w := by
                  intro w
                  rw [hn, hr]
                  go_simp
                clear hn hr
                have OA := Lib.hid (fun (w : World) (hl : Laid w) => of_any a.s w hl (by omega))
                have OB := Lib.hid (fun (w : World) (hl : Laid w) => of_any b.s w hl (by omega))
                have DL := Lib.hid (fun (w : World) => less_any (SH.sum (nums a.s)) (SH.sum (nums b.s)) w (SH.sum_bytes _) (SH.sum_bytes _) (SH.sum_len _) (SH.sum_len _))
                have eq := eq_dig (SH.sum_bytes (nums a.s)) (SH.sum_bytes (nums b.s)) (SH.sum_len (nums a.s)) (SH.sum_len (nums b.s))
                unfold DSumPost at OA OB
                by_cases hd : SH.sum (nums a.s) = SH.sum (nums b.s)
                · rw [show (SH.sum (nums a.s) == SH.sum (nums b.s)) = true by rw [hd]; simp] at eq
                  have EQ := Lib.hid eq
                  have hab := cl_ne hne
                  clear eq hd DL sa sb sc hst1 hst2
                  generalize bvals (SH.sum (nums a.s)) = VA at *
                  generalize bvals (SH.sum (nums b.s)) = VB at *
                  have B0 := Lib.hid (Below.refl w.heap.size w)
                  have T3n := ClAt.new w a
                  have T3 := Lib.hid (T3n)
                  clear T3n
                  have B1 := Lib.hid (B0.out.alloc B0.out.size (.cells #[.int .i64 a.n, .int .i64 a.r, .string a.s] 25))
                  have T3' := Lib.hid (T3.out.old (.cells #[.int .i64 b.n, .int .i64 b.r, .string b.s] 25))
                  have T4n := ClAt.new (w.alloc (.cells #[.int .i64 a.n, .int .i64 a.r, .string a.s] 25)) b
                  simp only [World.size_alloc] at T4n
                  have T4 := Lib.hid (T4n)
                  clear T4n
                  have B2 := Lib.hid (B1.out.alloc B1.out.size (.cells #[.int .i64 b.n, .int .i64 b.r, .string b.s] 25))
                  have T3'' := Lib.hid (T3'.out.old (.cells #[.int .i64 c.n, .int .i64 c.r, .string c.s] 25))
                  have T4' := Lib.hid (T4.out.old (.cells #[.int .i64 c.n, .int .i64 c.r, .string c.s] 25))
                  have T5n := ClAt.new ((w.alloc (.cells #[.int .i64 a.n, .int .i64 a.r, .string a.s] 25)).alloc (.cells #[.int .i64 b.n, .int .i64 b.r, .string b.s] 25)) c
                  simp only [World.size_alloc] at T5n
                  have T5 := Lib.hid (T5n)
                  clear T5n
                  have B3 := Lib.hid (B2.out.alloc B2.out.size (.cells #[.int .i64 c.n, .int .i64 c.r, .string c.s] 25))
                  go_enter Tryd.func5, Tryd.ntmps5
                  go_wp2_with fail
                  refine (clAwake _ (LD.out _ B3.out)).mono ?_
                  rintro e w1 ⟨rfl, hb⟩
                  have T3_1 := Lib.hid (T3''.out.below hb T3''.out.lt)
                  have T4_1 := Lib.hid (T4'.out.below hb T4'.out.lt)
                  have T5_1 := Lib.hid (T5.out.below hb T5.out.lt)
                  have B4 := Lib.hid (B3.out.trans (hb.mono B3.out.size))
                  clear hb
                  have c30 := T3_1.out.c0
                  have c31 := T3_1.out.c1
                  have c32 := T3_1.out.c2
                  have c40 := T4_1.out.c0
                  have c41 := T4_1.out.c1
                  have c42 := T4_1.out.c2
                  have c50 := T5_1.out.c0
                  have c51 := T5_1.out.c1
                  have c52 := T5_1.out.c2
                  go_wp2_with fail
                  refine (FA.out _).mono ?_
                  rintro e w2 ⟨rfl, hb⟩
                  clear c30 c31 c32 c40 c41 c42 c50 c51 c52
                  have T3_2 := Lib.hid (T3_1.out.below hb T3_1.out.lt)
                  have T4_2 := Lib.hid (T4_1.out.below hb T4_1.out.lt)
                  have T5_2 := Lib.hid (T5_1.out.below hb T5_1.out.lt)
                  have B5 := Lib.hid (B4.out.trans (hb.mono B4.out.size))
                  clear hb
                  have c30 := T3_2.out.c0
                  have c31 := T3_2.out.c1
                  have c32 := T3_2.out.c2
                  have c40 := T4_2.out.c0
                  have c41 := T4_2.out.c1
                  have c42 := T4_2.out.c2
                  have c50 := T5_2.out.c0
                  have c51 := T5_2.out.c1
                  have c52 := T5_2.out.c2
                  go_wp2_with fail
                  refine (FB.out _).mono ?_
                  rintro e w3 ⟨rfl, hb⟩
                  clear c30 c31 c32 c40 c41 c42 c50 c51 c52
                  have T3_3 := Lib.hid (T3_2.out.below hb T3_2.out.lt)
                  have T4_3 := Lib.hid (T4_2.out.below hb T4_2.out.lt)
                  have T5_3 := Lib.hid (T5_2.out.below hb T5_2.out.lt)
                  have B6 := Lib.hid (B5.out.trans (hb.mono B5.out.size))
                  clear hb
                  have c30 := T3_3.out.c0
                  have c31 := T3_3.out.c1
                  have c32 := T3_3.out.c2
                  have c40 := T4_3.out.c0
                  have c41 := T4_3.out.c1
                  have c42 := T4_3.out.c2
                  have c50 := T5_3.out.c0
                  have c51 := T5_3.out.c1
                  have c52 := T5_3.out.c2
                  go_wp2_with fail
                  refine (FC.out _).mono ?_
                  rintro e w4 ⟨rfl, hb⟩
                  clear c30 c31 c32 c40 c41 c42 c50 c51 c52
                  have T3_4 := Lib.hid (T3_3.out.below hb T3_3.out.lt)
                  have T4_4 := Lib.hid (T4_3.out.below hb T4_3.out.lt)
                  have T5_4 := Lib.hid (T5_3.out.below hb T5_3.out.lt)
                  have B7 := Lib.hid (B6.out.trans (hb.mono B6.out.size))
                  clear hb
                  have c30 := T3_4.out.c0
                  have c31 := T3_4.out.c1
                  have c32 := T3_4.out.c2
                  have c40 := T4_4.out.c0
                  have c41 := T4_4.out.c1
                  have c42 := T4_4.out.c2
                  have c50 := T5_4.out.c0
                  have c51 := T5_4.out.c1
                  have c52 := T5_4.out.c2
                  go_wp2_with fail
                  refine (LAB.out _ (LD.out _ B7.out)).mono ?_
                  rintro e w5 ⟨rfl, hb⟩
                  clear c30 c31 c32 c40 c41 c42 c50 c51 c52
                  have T3_5 := Lib.hid (T3_4.out.below hb T3_4.out.lt)
                  have T4_5 := Lib.hid (T4_4.out.below hb T4_4.out.lt)
                  have T5_5 := Lib.hid (T5_4.out.below hb T5_4.out.lt)
                  have B8 := Lib.hid (B7.out.trans (hb.mono B7.out.size))
                  clear hb
                  have c30 := T3_5.out.c0
                  have c31 := T3_5.out.c1
                  have c32 := T3_5.out.c2
                  have c40 := T4_5.out.c0
                  have c41 := T4_5.out.c1
                  have c42 := T4_5.out.c2
                  have c50 := T5_5.out.c0
                  have c51 := T5_5.out.c1
                  have c52 := T5_5.out.c2
                  go_wp2_with fail
                  refine (LBA.out _ (LD.out _ B8.out)).mono ?_
                  rintro e w6 ⟨rfl, hb⟩
                  clear c30 c31 c32 c40 c41 c42 c50 c51 c52
                  have T3_6 := Lib.hid (T3_5.out.below hb T3_5.out.lt)
                  have T4_6 := Lib.hid (T4_5.out.below hb T4_5.out.lt)
                  have T5_6 := Lib.hid (T5_5.out.below hb T5_5.out.lt)
                  have B9 := Lib.hid (B8.out.trans (hb.mono B8.out.size))
                  clear hb
                  have c30 := T3_6.out.c0
                  have c31 := T3_6.out.c1
                  have c32 := T3_6.out.c2
                  have c40 := T4_6.out.c0
                  have c41 := T4_6.out.c1
                  have c42 := T4_6.out.c2
                  have c50 := T5_6.out.c0
                  have c51 := T5_6.out.c1
                  have c52 := T5_6.out.c2
                  go_wp2_with fail
                  refine (LBC.out _ (LD.out _ B9.out)).mono ?_
                  rintro e w7 ⟨rfl, hb⟩
                  clear c30 c31 c32 c40 c41 c42 c50 c51 c52
                  have T3_7 := Lib.hid (T3_6.out.below hb T3_6.out.lt)
                  have T4_7 := Lib.hid (T4_6.out.below hb T4_6.out.lt)
                  have T5_7 := Lib.hid (T5_6.out.below hb T5_6.out.lt)
                  have B10 := Lib.hid (B9.out.trans (hb.mono B9.out.size))
                  clear hb
                  have c30 := T3_7.out.c0
                  have c31 := T3_7.out.c1
                  have c32 := T3_7.out.c2
                  have c40 := T4_7.out.c0
                  have c41 := T4_7.out.c1
                  have c42 := T4_7.out.c2
                  have c50 := T5_7.out.c0
                  have c51 := T5_7.out.c1
                  have c52 := T5_7.out.c2
                  go_wp2_with fail
                  clear c30 c31 c32 c40 c41 c42 c50 c51 c52
                  have LE := Lib.hid (fun (w9 : World) (hS : Below w7.heap.size w7 w9) => LD.out w9 (B10.out.trans (hS.mono B10.out.size)))
                  refine wp_region_G w7 (by kernel_rfl) ?_
                  refine wpG_take (i := 0) (oi := ⟨some 83, _, _, _, _, _⟩) (v := ?_) rfl (by kernel_rfl) (by kernel_rfl) (by kernel_rfl) (Or.inl ⟨by rfl, unib_val ?_⟩) ?_; rotate_left; (focus (intro w9 hSw; go_simp; try with_reducible rfl)); simp only [Act.put, List.setIfInBounds_toArray, List.set_cons_zero, List.set_cons_succ]
                  refine wpG_take (i := 1) (oi := ⟨some 84, _, _, _, _, _⟩) (v := ?_) rfl (by kernel_rfl) (by kernel_rfl) (by kernel_rfl) (Or.inl ⟨by rfl, unib_val ?_⟩) ?_; rotate_left; (focus (intro w9 hSw; have q9 := T3_7.out.below hSw T3_7.out.lt; have q2 := q9.c2; go_simp; try with_reducible rfl)); simp only [Act.put, List.setIfInBounds_toArray, List.set_cons_zero, List.set_cons_succ]
                  refine wpG_take (i := 2) (oi := ⟨some 85, _, _, _, _, _⟩) rfl (by kernel_rfl) (by kernel_rfl) (by kernel_rfl) (Or.inl ⟨by rfl, unib_call_if ?_ (fun w9 hSw => OA.out w9 (LE.out w9 hSw))⟩) ?_; (focus (intro w9 hSw; go_simp; try with_reducible rfl)); simp only [Act.put, List.setIfInBounds_toArray, List.set_cons_zero, List.set_cons_succ]
                  refine wpG_take (i := 3) (oi := ⟨some 86, _, _, _, _, _⟩) (v := ?_) rfl (by kernel_rfl) (by kernel_rfl) (by kernel_rfl) (Or.inl ⟨by rfl, unib_val ?_⟩) ?_; rotate_left; (focus (intro w9 hSw; go_simp; try with_reducible rfl)); simp only [Act.put, List.setIfInBounds_toArray, List.set_cons_zero, List.set_cons_succ]
                  refine wpG_take (i := 4) (oi := ⟨some 87, _, _, _, _, _⟩) (v := ?_) rfl (by kernel_rfl) (by kernel_rfl) (by kernel_rfl) (Or.inl ⟨by rfl, unib_val ?_⟩) ?_; rotate_left; (focus (intro w9 hSw; have q9 := T4_7.out.below hSw T4_7.out.lt; have q2 := q9.c2; go_simp; try with_reducible rfl)); simp only [Act.put, List.setIfInBounds_toArray, List.set_cons_zero, List.set_cons_succ]
                  refine wpG_take (i := 5) (oi := ⟨some 88, _, _, _, _, _⟩) rfl (by kernel_rfl) (by kernel_rfl) (by kernel_rfl) (Or.inl ⟨by rfl, unib_call_if ?_ (fun w9 hSw => OB.out w9 (LE.out w9 hSw))⟩) ?_; (focus (intro w9 hSw; go_simp; try with_reducible rfl)); simp only [Act.put, List.setIfInBounds_toArray, List.set_cons_zero, List.set_cons_succ]
                  refine wpG_take (i := 6) (oi := ⟨some 89, _, _, _, _, _⟩) (v := ?_) rfl (by kernel_rfl) (by kernel_rfl) (by kernel_rfl) (Or.inl ⟨by rfl, unib_val ?_⟩) ?_; rotate_left; (focus (intro w9 hSw; have q0 := EQ.out w9; go_simp; try with_reducible rfl)); simp only [Act.put, List.setIfInBounds_toArray, List.set_cons_zero, List.set_cons_succ]
                  refine wpG_take (i := 7) (oi := ⟨some 90, _, _, _, _, _⟩) (v := ?_) rfl (by kernel_rfl) (by kernel_rfl) (by kernel_rfl) (Or.inl ⟨by rfl, unib_val ?_⟩) ?_; rotate_left; (focus (intro w9 hSw; go_simp; try with_reducible rfl)); simp only [Act.put, List.setIfInBounds_toArray, List.set_cons_zero, List.set_cons_succ]
                  refine wpG_take (i := 8) (oi := ⟨some 91, _, _, _, _, _⟩) rfl (by kernel_rfl) (by kernel_rfl) (by kernel_rfl) (Or.inr ⟨by rfl, rfl⟩) ?_; simp only [Act.put, List.setIfInBounds_toArray, List.set_cons_zero, List.set_cons_succ]
                  refine wpG_take (i := 9) (oi := ⟨some 92, _, _, _, _, _⟩) rfl (by kernel_rfl) (by kernel_rfl) (by kernel_rfl) (Or.inr ⟨by rfl, rfl⟩) ?_; simp only [Act.put, List.setIfInBounds_toArray, List.set_cons_zero, List.set_cons_succ]
                  refine wpG_take (i := 10) (oi := ⟨some 93, _, _, _, _, _⟩) rfl (by kernel_rfl) (by kernel_rfl) (by kernel_rfl) (Or.inr ⟨by rfl, rfl⟩) ?_; simp only [Act.put, List.setIfInBounds_toArray, List.set_cons_zero, List.set_cons_succ]
                  refine wpG_take (i := 11) (oi := ⟨some 94, _, _, _, _, _⟩) rfl (by kernel_rfl) (by kernel_rfl) (by kernel_rfl) (Or.inr ⟨by rfl, rfl⟩) ?_; simp only [Act.put, List.setIfInBounds_toArray, List.set_cons_zero, List.set_cons_succ]
                  refine wpG_take (i := 12) (oi := ⟨some 95, _, _, _, _, _⟩) rfl (by kernel_rfl) (by kernel_rfl) (by kernel_rfl) (Or.inr ⟨by rfl, rfl⟩) ?_; simp only [Act.put, List.setIfInBounds_toArray, List.set_cons_zero, List.set_cons_succ]
                  refine wpG_take (i := 13) (oi := ⟨some 96, _, _, _, _, _⟩) rfl (by kernel_rfl) (by kernel_rfl) (by kernel_rfl) (Or.inr ⟨by rfl, rfl⟩) ?_; simp only [Act.put, List.setIfInBounds_toArray, List.set_cons_zero, List.set_cons_succ]
                  refine wpG_take (i := 14) (oi := ⟨some 97, _, _, _, _, _⟩) rfl (by kernel_rfl) (by kernel_rfl) (by kernel_rfl) (Or.inr ⟨by rfl, rfl⟩) ?_; simp only [Act.put, List.setIfInBounds_toArray, List.set_cons_zero, List.set_cons_succ]
                  refine wpG_take (i := 15) (oi := ⟨some 98, _, _, _, _, _⟩) rfl (by kernel_rfl) (by kernel_rfl) (by kernel_rfl) (Or.inr ⟨by rfl, rfl⟩) ?_; simp only [Act.put, List.setIfInBounds_toArray, List.set_cons_zero, List.set_cons_succ]
                  refine wpG_take (i := 16) (oi := ⟨some 99, _, _, _, _, _⟩) rfl (by kernel_rfl) (by kernel_rfl) (by kernel_rfl) (Or.inr ⟨by rfl, rfl⟩) ?_; simp only [Act.put, List.setIfInBounds_toArray, List.set_cons_zero, List.set_cons_succ]
                  refine wpG_take (i := 17) (oi := ⟨some 100, _, _, _, _, _⟩) (v := ?_) rfl (by kernel_rfl) (by kernel_rfl) (by kernel_rfl) (Or.inl ⟨by rfl, unib_val ?_⟩) ?_; rotate_left; (focus (intro w9 hSw; go_simp; try with_reducible rfl)); simp only [Act.put, List.setIfInBounds_toArray, List.set_cons_zero, List.set_cons_succ]
                  refine wpG_take (i := 18) (oi := ⟨some 6, _, _, _, _, _⟩) (v := ?_) rfl (by kernel_rfl) (by kernel_rfl) (by kernel_rfl) (Or.inl ⟨by rfl, unib_val ?_⟩) ?_; rotate_left; (focus (intro w9 hSw; go_simp; try with_reducible rfl)); simp only [Act.put, List.setIfInBounds_toArray, List.set_cons_zero, List.set_cons_succ]
                  refine wpG_done (by kernel_rfl) ?_ _
                  intro w9 hSw _
                  go_wp2
                  go_ret
                  exact ⟨rfl, B10.out.trans (hSw.mono B10.out.size)⟩
                · rw [show (SH.sum (nums a.s) == SH.sum (nums b.s)) = false by simpa using hd] at eq
                  have EQ := Lib.hid eq
                  have hab := cl_ne hne
                  have hdl : lessL (SH.sum (nums a.s)) (SH.sum (nums b.s)) = true := by
                    cases h : lessL (SH.sum (nums a.s)) (SH.sum (nums b.s))
                    · cases h2 : lessL (SH.sum (nums b.s)) (SH.sum (nums a.s))
                      · exact absurd (lessL_total h h2) hd
                      · simp [cless, hst1, hst2, h, h2] at hx <;> try simp_all
                    · simp [cless, hst1, hst2, h] at hx <;> try simp_all
                  rw [hdl] at DL
                  clear eq hd hdl sa sb sc hst1 hst2
                  generalize bvals (SH.sum (nums a.s)) = VA at *
                  generalize bvals (SH.sum (nums b.s)) = VB at *
                  have B0 := Lib.hid (Below.refl w.heap.size w)
                  have T3n := ClAt.new w a
                  have T3 := Lib.hid (T3n)
                  clear T3n
                  have B1 := Lib.hid (B0.out.alloc B0.out.size (.cells #[.int .i64 a.n, .int .i64 a.r, .string a.s] 25))
                  have T3' := Lib.hid (T3.out.old (.cells #[.int .i64 b.n, .int .i64 b.r, .string b.s] 25))
                  have T4n := ClAt.new (w.alloc (.cells #[.int .i64 a.n, .int .i64 a.r, .string a.s] 25)) b
                  simp only [World.size_alloc] at T4n
                  have T4 := Lib.hid (T4n)
                  clear T4n
                  have B2 := Lib.hid (B1.out.alloc B1.out.size (.cells #[.int .i64 b.n, .int .i64 b.r, .string b.s] 25))
                  have T3'' := Lib.hid (T3'.out.old (.cells #[.int .i64 c.n, .int .i64 c.r, .string c.s] 25))
                  have T4' := Lib.hid (T4.out.old (.cells #[.int .i64 c.n, .int .i64 c.r, .string c.s] 25))
                  have T5n := ClAt.new ((w.alloc (.cells #[.int .i64 a.n, .int .i64 a.r, .string a.s] 25)).alloc (.cells #[.int .i64 b.n, .int .i64 b.r, .string b.s] 25)) c
                  simp only [World.size_alloc] at T5n
                  have T5 := Lib.hid (T5n)
                  clear T5n
                  have B3 := Lib.hid (B2.out.alloc B2.out.size (.cells #[.int .i64 c.n, .int .i64 c.r, .string c.s] 25))
                  go_enter Tryd.func5, Tryd.ntmps5
                  go_wp2_with fail
                  refine (clAwake _ (LD.out _ B3.out)).mono ?_
                  rintro e w1 ⟨rfl, hb⟩
                  have T3_1 := Lib.hid (T3''.out.below hb T3''.out.lt)
                  have T4_1 := Lib.hid (T4'.out.below hb T4'.out.lt)
                  have T5_1 := Lib.hid (T5.out.below hb T5.out.lt)
                  have B4 := Lib.hid (B3.out.trans (hb.mono B3.out.size))
                  clear hb
                  have c30 := T3_1.out.c0
                  have c31 := T3_1.out.c1
                  have c32 := T3_1.out.c2
                  have c40 := T4_1.out.c0
                  have c41 := T4_1.out.c1
                  have c42 := T4_1.out.c2
                  have c50 := T5_1.out.c0
                  have c51 := T5_1.out.c1
                  have c52 := T5_1.out.c2
                  go_wp2_with fail
                  refine (FA.out _).mono ?_
                  rintro e w2 ⟨rfl, hb⟩
                  clear c30 c31 c32 c40 c41 c42 c50 c51 c52
                  have T3_2 := Lib.hid (T3_1.out.below hb T3_1.out.lt)
                  have T4_2 := Lib.hid (T4_1.out.below hb T4_1.out.lt)
                  have T5_2 := Lib.hid (T5_1.out.below hb T5_1.out.lt)
                  have B5 := Lib.hid (B4.out.trans (hb.mono B4.out.size))
                  clear hb
                  have c30 := T3_2.out.c0
                  have c31 := T3_2.out.c1
                  have c32 := T3_2.out.c2
                  have c40 := T4_2.out.c0
                  have c41 := T4_2.out.c1
                  have c42 := T4_2.out.c2
                  have c50 := T5_2.out.c0
                  have c51 := T5_2.out.c1
                  have c52 := T5_2.out.c2
                  go_wp2_with fail
                  refine (FB.out _).mono ?_
                  rintro e w3 ⟨rfl, hb⟩
                  clear c30 c31 c32 c40 c41 c42 c50 c51 c52
                  have T3_3 := Lib.hid (T3_2.out.below hb T3_2.out.lt)
                  have T4_3 := Lib.hid (T4_2.out.below hb T4_2.out.lt)
                  have T5_3 := Lib.hid (T5_2.out.below hb T5_2.out.lt)
                  have B6 := Lib.hid (B5.out.trans (hb.mono B5.out.size))
                  clear hb
                  have c30 := T3_3.out.c0
                  have c31 := T3_3.out.c1
                  have c32 := T3_3.out.c2
                  have c40 := T4_3.out.c0
                  have c41 := T4_3.out.c1
                  have c42 := T4_3.out.c2
                  have c50 := T5_3.out.c0
                  have c51 := T5_3.out.c1
                  have c52 := T5_3.out.c2
                  go_wp2_with fail
                  refine (FC.out _).mono ?_
                  rintro e w4 ⟨rfl, hb⟩
                  clear c30 c31 c32 c40 c41 c42 c50 c51 c52
                  have T3_4 := Lib.hid (T3_3.out.below hb T3_3.out.lt)
                  have T4_4 := Lib.hid (T4_3.out.below hb T4_3.out.lt)
                  have T5_4 := Lib.hid (T5_3.out.below hb T5_3.out.lt)
                  have B7 := Lib.hid (B6.out.trans (hb.mono B6.out.size))
                  clear hb
                  have c30 := T3_4.out.c0
                  have c31 := T3_4.out.c1
                  have c32 := T3_4.out.c2
                  have c40 := T4_4.out.c0
                  have c41 := T4_4.out.c1
                  have c42 := T4_4.out.c2
                  have c50 := T5_4.out.c0
                  have c51 := T5_4.out.c1
                  have c52 := T5_4.out.c2
                  go_wp2_with fail
                  refine (LAB.out _ (LD.out _ B7.out)).mono ?_
                  rintro e w5 ⟨rfl, hb⟩
                  clear c30 c31 c32 c40 c41 c42 c50 c51 c52
                  have T3_5 := Lib.hid (T3_4.out.below hb T3_4.out.lt)
                  have T4_5 := Lib.hid (T4_4.out.below hb T4_4.out.lt)
                  have T5_5 := Lib.hid (T5_4.out.below hb T5_4.out.lt)
                  have B8 := Lib.hid (B7.out.trans (hb.mono B7.out.size))
                  clear hb
                  have c30 := T3_5.out.c0
                  have c31 := T3_5.out.c1
                  have c32 := T3_5.out.c2
                  have c40 := T4_5.out.c0
                  have c41 := T4_5.out.c1
                  have c42 := T4_5.out.c2
                  have c50 := T5_5.out.c0
                  have c51 := T5_5.out.c1
                  have c52 := T5_5.out.c2
                  go_wp2_with fail
                  refine (LBA.out _ (LD.out _ B8.out)).mono ?_
                  rintro e w6 ⟨rfl, hb⟩
                  clear c30 c31 c32 c40 c41 c42 c50 c51 c52
                  have T3_6 := Lib.hid (T3_5.out.below hb T3_5.out.lt)
                  have T4_6 := Lib.hid (T4_5.out.below hb T4_5.out.lt)
                  have T5_6 := Lib.hid (T5_5.out.below hb T5_5.out.lt)
                  have B9 := Lib.hid (B8.out.trans (hb.mono B8.out.size))
                  clear hb
                  have c30 := T3_6.out.c0
                  have c31 := T3_6.out.c1
                  have c32 := T3_6.out.c2
                  have c40 := T4_6.out.c0
                  have c41 := T4_6.out.c1
                  have c42 := T4_6.out.c2
                  have c50 := T5_6.out.c0
                  have c51 := T5_6.out.c1
                  have c52 := T5_6.out.c2
                  go_wp2_with fail
                  refine (LBC.out _ (LD.out _ B9.out)).mono ?_
                  rintro e w7 ⟨rfl, hb⟩
                  clear c30 c31 c32 c40 c41 c42 c50 c51 c52
                  have T3_7 := Lib.hid (T3_6.out.below hb T3_6.out.lt)
                  have T4_7 := Lib.hid (T4_6.out.below hb T4_6.out.lt)
                  have T5_7 := Lib.hid (T5_6.out.below hb T5_6.out.lt)
                  have B10 := Lib.hid (B9.out.trans (hb.mono B9.out.size))
                  clear hb
                  have c30 := T3_7.out.c0
                  have c31 := T3_7.out.c1
                  have c32 := T3_7.out.c2
                  have c40 := T4_7.out.c0
                  have c41 := T4_7.out.c1
                  have c42 := T4_7.out.c2
                  have c50 := T5_7.out.c0
                  have c51 := T5_7.out.c1
                  have c52 := T5_7.out.c2
                  go_wp2_with fail
                  clear c30 c31 c32 c40 c41 c42 c50 c51 c52
                  have LE := Lib.hid (fun (w9 : World) (hS : Below w7.heap.size w7 w9) => LD.out w9 (B10.out.trans (hS.mono B10.out.size)))
                  refine wp_region_G w7 (by kernel_rfl) ?_
                  refine wpG_take (i := 0) (oi := ⟨some 83, _, _, _, _, _⟩) (v := ?_) rfl (by kernel_rfl) (by kernel_rfl) (by kernel_rfl) (Or.inl ⟨by rfl, unib_val ?_⟩) ?_; rotate_left; (focus (intro w9 hSw; go_simp; try with_reducible rfl)); simp only [Act.put, List.setIfInBounds_toArray, List.set_cons_zero, List.set_cons_succ]
                  refine wpG_take (i := 1) (oi := ⟨some 84, _, _, _, _, _⟩) (v := ?_) rfl (by kernel_rfl) (by kernel_rfl) (by kernel_rfl) (Or.inl ⟨by rfl, unib_val ?_⟩) ?_; rotate_left; (focus (intro w9 hSw; have q9 := T3_7.out.below hSw T3_7.out.lt; have q2 := q9.c2; go_simp; try with_reducible rfl)); simp only [Act.put, List.setIfInBounds_toArray, List.set_cons_zero, List.set_cons_succ]
                  refine wpG_take (i := 2) (oi := ⟨some 85, _, _, _, _, _⟩) rfl (by kernel_rfl) (by kernel_rfl) (by kernel_rfl) (Or.inl ⟨by rfl, unib_call_if ?_ (fun w9 hSw => OA.out w9 (LE.out w9 hSw))⟩) ?_; (focus (intro w9 hSw; go_simp; try with_reducible rfl)); simp only [Act.put, List.setIfInBounds_toArray, List.set_cons_zero, List.set_cons_succ]
                  refine wpG_take (i := 3) (oi := ⟨some 86, _, _, _, _, _⟩) (v := ?_) rfl (by kernel_rfl) (by kernel_rfl) (by kernel_rfl) (Or.inl ⟨by rfl, unib_val ?_⟩) ?_; rotate_left; (focus (intro w9 hSw; go_simp; try with_reducible rfl)); simp only [Act.put, List.setIfInBounds_toArray, List.set_cons_zero, List.set_cons_succ]
                  refine wpG_take (i := 4) (oi := ⟨some 87, _, _, _, _, _⟩) (v := ?_) rfl (by kernel_rfl) (by kernel_rfl) (by kernel_rfl) (Or.inl ⟨by rfl, unib_val ?_⟩) ?_; rotate_left; (focus (intro w9 hSw; have q9 := T4_7.out.below hSw T4_7.out.lt; have q2 := q9.c2; go_simp; try with_reducible rfl)); simp only [Act.put, List.setIfInBounds_toArray, List.set_cons_zero, List.set_cons_succ]
                  refine wpG_take (i := 5) (oi := ⟨some 88, _, _, _, _, _⟩) rfl (by kernel_rfl) (by kernel_rfl) (by kernel_rfl) (Or.inl ⟨by rfl, unib_call_if ?_ (fun w9 hSw => OB.out w9 (LE.out w9 hSw))⟩) ?_; (focus (intro w9 hSw; go_simp; try with_reducible rfl)); simp only [Act.put, List.setIfInBounds_toArray, List.set_cons_zero, List.set_cons_succ]
                  refine wpG_take (i := 6) (oi := ⟨some 89, _, _, _, _, _⟩) (v := ?_) rfl (by kernel_rfl) (by kernel_rfl) (by kernel_rfl) (Or.inl ⟨by rfl, unib_val ?_⟩) ?_; rotate_left; (focus (intro w9 hSw; have q0 := EQ.out w9; go_simp; try with_reducible rfl)); simp only [Act.put, List.setIfInBounds_toArray, List.set_cons_zero, List.set_cons_succ]
                  refine wpG_take (i := 7) (oi := ⟨some 90, _, _, _, _, _⟩) (v := ?_) rfl (by kernel_rfl) (by kernel_rfl) (by kernel_rfl) (Or.inl ⟨by rfl, unib_val ?_⟩) ?_; rotate_left; (focus (intro w9 hSw; go_simp; try with_reducible rfl)); simp only [Act.put, List.setIfInBounds_toArray, List.set_cons_zero, List.set_cons_succ]
                  refine wpG_take (i := 8) (oi := ⟨some 91, _, _, _, _, _⟩) (v := ?_) rfl (by kernel_rfl) (by kernel_rfl) (by kernel_rfl) (Or.inl ⟨by rfl, unib_val ?_⟩) ?_; rotate_left; (focus (intro w9 hSw; go_simp; try with_reducible rfl)); simp only [Act.put, List.setIfInBounds_toArray, List.set_cons_zero, List.set_cons_succ]
                  refine wpG_take (i := 9) (oi := ⟨some 92, _, _, _, _, _⟩) (v := ?_) rfl (by kernel_rfl) (by kernel_rfl) (by kernel_rfl) (Or.inl ⟨by rfl, unib_val ?_⟩) ?_; rotate_left; (focus (intro w9 hSw; go_simp; try with_reducible rfl)); simp only [Act.put, List.setIfInBounds_toArray, List.set_cons_zero, List.set_cons_succ]
                  refine wpG_take (i := 10) (oi := ⟨some 93, _, _, _, _, _⟩) (v := ?_) rfl (by kernel_rfl) (by kernel_rfl) (by kernel_rfl) (Or.inl ⟨by rfl, unib_val ?_⟩) ?_; rotate_left; (focus (intro w9 hSw; have q9 := T3_7.out.below hSw T3_7.out.lt; have q2 := q9.c2; go_simp; try with_reducible rfl)); simp only [Act.put, List.setIfInBounds_toArray, List.set_cons_zero, List.set_cons_succ]
                  refine wpG_take (i := 11) (oi := ⟨some 94, _, _, _, _, _⟩) rfl (by kernel_rfl) (by kernel_rfl) (by kernel_rfl) (Or.inl ⟨by rfl, unib_call_if ?_ (fun w9 hSw => OA.out w9 (LE.out w9 hSw))⟩) ?_; (focus (intro w9 hSw; go_simp; try with_reducible rfl)); simp only [Act.put, List.setIfInBounds_toArray, List.set_cons_zero, List.set_cons_succ]
                  refine wpG_take (i := 12) (oi := ⟨some 95, _, _, _, _, _⟩) (v := ?_) rfl (by kernel_rfl) (by kernel_rfl) (by kernel_rfl) (Or.inl ⟨by rfl, unib_val ?_⟩) ?_; rotate_left; (focus (intro w9 hSw; go_simp; try with_reducible rfl)); simp only [Act.put, List.setIfInBounds_toArray, List.set_cons_zero, List.set_cons_succ]
                  refine wpG_take (i := 13) (oi := ⟨some 96, _, _, _, _, _⟩) (v := ?_) rfl (by kernel_rfl) (by kernel_rfl) (by kernel_rfl) (Or.inl ⟨by rfl, unib_val ?_⟩) ?_; rotate_left; (focus (intro w9 hSw; have q9 := T4_7.out.below hSw T4_7.out.lt; have q2 := q9.c2; go_simp; try with_reducible rfl)); simp only [Act.put, List.setIfInBounds_toArray, List.set_cons_zero, List.set_cons_succ]
                  refine wpG_take (i := 14) (oi := ⟨some 97, _, _, _, _, _⟩) rfl (by kernel_rfl) (by kernel_rfl) (by kernel_rfl) (Or.inl ⟨by rfl, unib_call_if ?_ (fun w9 hSw => OB.out w9 (LE.out w9 hSw))⟩) ?_; (focus (intro w9 hSw; go_simp; try with_reducible rfl)); simp only [Act.put, List.setIfInBounds_toArray, List.set_cons_zero, List.set_cons_succ]
                  refine wpG_take (i := 15) (oi := ⟨some 98, _, _, _, _, _⟩) rfl (by kernel_rfl) (by kernel_rfl) (by kernel_rfl) (Or.inl ⟨by rfl, unib_call ?_ DL.out⟩) ?_; (focus (intro w9 hSw; go_simp; try with_reducible rfl)); simp only [Act.put, List.setIfInBounds_toArray, List.set_cons_zero, List.set_cons_succ]
                  refine wpG_take (i := 16) (oi := ⟨some 99, _, _, _, _, _⟩) (v := ?_) rfl (by kernel_rfl) (by kernel_rfl) (by kernel_rfl) (Or.inl ⟨by rfl, unib_val ?_⟩) ?_; rotate_left; (focus (intro w9 hSw; go_simp; try with_reducible rfl)); simp only [Act.put, List.setIfInBounds_toArray, List.set_cons_zero, List.set_cons_succ]
                  refine wpG_take (i := 17) (oi := ⟨some 100, _, _, _, _, _⟩) (v := ?_) rfl (by kernel_rfl) (by kernel_rfl) (by kernel_rfl) (Or.inl ⟨by rfl, unib_val ?_⟩) ?_; rotate_left; (focus (intro w9 hSw; go_simp; try with_reducible rfl)); simp only [Act.put, List.setIfInBounds_toArray, List.set_cons_zero, List.set_cons_succ]
                  refine wpG_take (i := 18) (oi := ⟨some 6, _, _, _, _, _⟩) (v := ?_) rfl (by kernel_rfl) (by kernel_rfl) (by kernel_rfl) (Or.inl ⟨by rfl, unib_val ?_⟩) ?_; rotate_left; (focus (intro w9 hSw; go_simp; try with_reducible rfl)); simp only [Act.put, List.setIfInBounds_toArray, List.set_cons_zero, List.set_cons_succ]
                  refine wpG_done (by kernel_rfl) ?_ _
                  intro w9 hSw _
                  go_wp2
                  go_ret
                  exact ⟨rfl, B10.out.trans (hSw.mono B10.out.size)⟩
              · have hab := cl_ne hne
                have hss := st_ne hst
                have SAB := Lib.hid (stLess_any a.n a.r b.n b.r)
                have hsl : stLess a.n a.r b.n b.r = true := by
                  cases h : stLess a.n a.r b.n b.r
                  · cases h2 : stLess b.n b.r a.n a.r
                    · first | rfl | (rw [st_no] at h h2; exact absurd (by omega) hst)
                    · simp [cless, h, h2] at hx <;> try simp_all
                  · simp [cless, h] at hx <;> try simp_all
                rw [hsl] at SAB
                unfold st at SAB
                clear sa sb sc hst hsl
                have B0 := Lib.hid (Below.refl w.heap.size w)
                have T3n := ClAt.new w a
                have T3 := Lib.hid (T3n)
                clear T3n
                have B1 := Lib.hid (B0.out.alloc B0.out.size (.cells #[.int .i64 a.n, .int .i64 a.r, .string a.s] 25))
                have T3' := Lib.hid (T3.out.old (.cells #[.int .i64 b.n, .int .i64 b.r, .string b.s] 25))
                have T4n := ClAt.new (w.alloc (.cells #[.int .i64 a.n, .int .i64 a.r, .string a.s] 25)) b
                simp only [World.size_alloc] at T4n
                have T4 := Lib.hid (T4n)
                clear T4n
                have B2 := Lib.hid (B1.out.alloc B1.out.size (.cells #[.int .i64 b.n, .int .i64 b.r, .string b.s] 25))
                have T3'' := Lib.hid (T3'.out.old (.cells #[.int .i64 c.n, .int .i64 c.r, .string c.s] 25))
                have T4' := Lib.hid (T4.out.old (.cells #[.int .i64 c.n, .int .i64 c.r, .string c.s] 25))
                have T5n := ClAt.new ((w.alloc (.cells #[.int .i64 a.n, .int .i64 a.r, .string a.s] 25)).alloc (.cells #[.int .i64 b.n, .int .i64 b.r, .string b.s] 25)) c
                simp only [World.size_alloc] at T5n
                have T5 := Lib.hid (T5n)
                clear T5n
                have B3 := Lib.hid (B2.out.alloc B2.out.size (.cells #[.int .i64 c.n, .int .i64 c.r, .string c.s] 25))
                go_enter Tryd.func5, Tryd.ntmps5
                go_wp2_with fail
                refine (clAwake _ (LD.out _ B3.out)).mono ?_
                rintro e w1 ⟨rfl, hb⟩
                have T3_1 := Lib.hid (T3''.out.below hb T3''.out.lt)
                have T4_1 := Lib.hid (T4'.out.below hb T4'.out.lt)
                have T5_1 := Lib.hid (T5.out.below hb T5.out.lt)
                have B4 := Lib.hid (B3.out.trans (hb.mono B3.out.size))
                clear hb
                have c30 := T3_1.out.c0
                have c31 := T3_1.out.c1
                have c32 := T3_1.out.c2
                have c40 := T4_1.out.c0
                have c41 := T4_1.out.c1
                have c42 := T4_1.out.c2
                have c50 := T5_1.out.c0
                have c51 := T5_1.out.c1
                have c52 := T5_1.out.c2
                go_wp2_with fail
                refine (FA.out _).mono ?_
                rintro e w2 ⟨rfl, hb⟩
                clear c30 c31 c32 c40 c41 c42 c50 c51 c52
                have T3_2 := Lib.hid (T3_1.out.below hb T3_1.out.lt)
                have T4_2 := Lib.hid (T4_1.out.below hb T4_1.out.lt)
                have T5_2 := Lib.hid (T5_1.out.below hb T5_1.out.lt)
                have B5 := Lib.hid (B4.out.trans (hb.mono B4.out.size))
                clear hb
                have c30 := T3_2.out.c0
                have c31 := T3_2.out.c1
                have c32 := T3_2.out.c2
                have c40 := T4_2.out.c0
                have c41 := T4_2.out.c1
                have c42 := T4_2.out.c2
                have c50 := T5_2.out.c0
                have c51 := T5_2.out.c1
                have c52 := T5_2.out.c2
                go_wp2_with fail
                refine (FB.out _).mono ?_
                rintro e w3 ⟨rfl, hb⟩
                clear c30 c31 c32 c40 c41 c42 c50 c51 c52
                have T3_3 := Lib.hid (T3_2.out.below hb T3_2.out.lt)
                have T4_3 := Lib.hid (T4_2.out.below hb T4_2.out.lt)
                have T5_3 := Lib.hid (T5_2.out.below hb T5_2.out.lt)
                have B6 := Lib.hid (B5.out.trans (hb.mono B5.out.size))
                clear hb
                have c30 := T3_3.out.c0
                have c31 := T3_3.out.c1
                have c32 := T3_3.out.c2
                have c40 := T4_3.out.c0
                have c41 := T4_3.out.c1
                have c42 := T4_3.out.c2
                have c50 := T5_3.out.c0
                have c51 := T5_3.out.c1
                have c52 := T5_3.out.c2
                go_wp2_with fail
                refine (FC.out _).mono ?_
                rintro e w4 ⟨rfl, hb⟩
                clear c30 c31 c32 c40 c41 c42 c50 c51 c52
                have T3_4 := Lib.hid (T3_3.out.below hb T3_3.out.lt)
                have T4_4 := Lib.hid (T4_3.out.below hb T4_3.out.lt)
                have T5_4 := Lib.hid (T5_3.out.below hb T5_3.out.lt)
                have B7 := Lib.hid (B6.out.trans (hb.mono B6.out.size))
                clear hb
                have c30 := T3_4.out.c0
                have c31 := T3_4.out.c1
                have c32 := T3_4.out.c2
                have c40 := T4_4.out.c0
                have c41 := T4_4.out.c1
                have c42 := T4_4.out.c2
                have c50 := T5_4.out.c0
                have c51 := T5_4.out.c1
                have c52 := T5_4.out.c2
                go_wp2_with fail
                refine (LAB.out _ (LD.out _ B7.out)).mono ?_
                rintro e w5 ⟨rfl, hb⟩
                clear c30 c31 c32 c40 c41 c42 c50 c51 c52
                have T3_5 := Lib.hid (T3_4.out.below hb T3_4.out.lt)
                have T4_5 := Lib.hid (T4_4.out.below hb T4_4.out.lt)
                have T5_5 := Lib.hid (T5_4.out.below hb T5_4.out.lt)
                have B8 := Lib.hid (B7.out.trans (hb.mono B7.out.size))
                clear hb
                have c30 := T3_5.out.c0
                have c31 := T3_5.out.c1
                have c32 := T3_5.out.c2
                have c40 := T4_5.out.c0
                have c41 := T4_5.out.c1
                have c42 := T4_5.out.c2
                have c50 := T5_5.out.c0
                have c51 := T5_5.out.c1
                have c52 := T5_5.out.c2
                go_wp2_with fail
                refine (LBA.out _ (LD.out _ B8.out)).mono ?_
                rintro e w6 ⟨rfl, hb⟩
                clear c30 c31 c32 c40 c41 c42 c50 c51 c52
                have T3_6 := Lib.hid (T3_5.out.below hb T3_5.out.lt)
                have T4_6 := Lib.hid (T4_5.out.below hb T4_5.out.lt)
                have T5_6 := Lib.hid (T5_5.out.below hb T5_5.out.lt)
                have B9 := Lib.hid (B8.out.trans (hb.mono B8.out.size))
                clear hb
                have c30 := T3_6.out.c0
                have c31 := T3_6.out.c1
                have c32 := T3_6.out.c2
                have c40 := T4_6.out.c0
                have c41 := T4_6.out.c1
                have c42 := T4_6.out.c2
                have c50 := T5_6.out.c0
                have c51 := T5_6.out.c1
                have c52 := T5_6.out.c2
                go_wp2_with fail
                refine (LBC.out _ (LD.out _ B9.out)).mono ?_
                rintro e w7 ⟨rfl, hb⟩
                clear c30 c31 c32 c40 c41 c42 c50 c51 c52
                have T3_7 := Lib.hid (T3_6.out.below hb T3_6.out.lt)
                have T4_7 := Lib.hid (T4_6.out.below hb T4_6.out.lt)
                have T5_7 := Lib.hid (T5_6.out.below hb T5_6.out.lt)
                have B10 := Lib.hid (B9.out.trans (hb.mono B9.out.size))
                clear hb
                have c30 := T3_7.out.c0
                have c31 := T3_7.out.c1
                have c32 := T3_7.out.c2
                have c40 := T4_7.out.c0
                have c41 := T4_7.out.c1
                have c42 := T4_7.out.c2
                have c50 := T5_7.out.c0
                have c51 := T5_7.out.c1
                have c52 := T5_7.out.c2
                go_wp2_with fail
                refine (SAB.out _).mono ?_
                rintro e w8 ⟨rfl, hb⟩
                clear c30 c31 c32 c40 c41 c42 c50 c51 c52
                have T3_8 := Lib.hid (T3_7.out.below hb T3_7.out.lt)
                have T4_8 := Lib.hid (T4_7.out.below hb T4_7.out.lt)
                have T5_8 := Lib.hid (T5_7.out.below hb T5_7.out.lt)
                have B11 := Lib.hid (B10.out.trans (hb.mono B10.out.size))
                clear hb
                go_wp2
                go_ret
                exact ⟨rfl, B11.out⟩
            · have ht := cless_goes hx hz
              rw [hz] at LBC
              rw [ht] at LAC
              clear hz ht
              by_cases hst : a.n = b.n ∧ a.r = b.r
              · obtain ⟨hn, hr⟩ := hst
                have hst1 : stLess a.n a.r b.n b.r = false := by rw [hn, hr]; exact stLess_self _ _
                have hst2 : stLess b.n b.r a.n a.r = false := by rw [hn, hr]; exact stLess_self _ _
                have hss : ∀ w, (Op.equalIn 10000 23 (.agg #[.int .i64 a.n, .int .i64 a.r]) (.agg #[.int .i64 b.n, .int .i64 b.r])).run Tryd.prog w = .ok true w := by
                  intro w
                  rw [hn, hr]
                  go_simp
                clear hn hr
                have OA := Lib.hid (fun (w : World) (hl : Laid w) => of_any a.s w hl (by omega))
                have OB := Lib.hid (fun (w : World) (hl : Laid w) => of_any b.s w hl (by omega))
                have DL := Lib.hid (fun (w : World) => less_any (SH.sum (nums a.s)) (SH.sum (nums b.s)) w (SH.sum_bytes _) (SH.sum_bytes _) (SH.sum_len _) (SH.sum_len _))
                have eq := eq_dig (SH.sum_bytes (nums a.s)) (SH.sum_bytes (nums b.s)) (SH.sum_len (nums a.s)) (SH.sum_len (nums b.s))
                unfold DSumPost at OA OB
                by_cases hd : SH.sum (nums a.s) = SH.sum (nums b.s)
                · rw [show (SH.sum (nums a.s) == SH.sum (nums b.s)) = true by rw [hd]; simp] at eq
                  have EQ := Lib.hid eq
                  have hab := cl_ne hne
                  clear eq hd DL sa sb sc hst1 hst2
                  generalize bvals (SH.sum (nums a.s)) = VA at *
                  generalize bvals (SH.sum (nums b.s)) = VB at *
                  have B0 := Lib.hid (Below.refl w.heap.size w)
                  have T3n := ClAt.new w a
                  have T3 := Lib.hid (T3n)
                  clear T3n
                  have B1 := Lib.hid (B0.out.alloc B0.out.size (.cells #[.int .i64 a.n, .int .i64 a.r, .string a.s] 25))
                  have T3' := Lib.hid (T3.out.old (.cells #[.int .i64 b.n, .int .i64 b.r, .string b.s] 25))
                  have T4n := ClAt.new (w.alloc (.cells #[.int .i64 a.n, .int .i64 a.r, .string a.s] 25)) b
                  simp only [World.size_alloc] at T4n
                  have T4 := Lib.hid (T4n)
                  clear T4n
                  have B2 := Lib.hid (B1.out.alloc B1.out.size (.cells #[.int .i64 b.n, .int .i64 b.r, .string b.s] 25))
                  have T3'' := Lib.hid (T3'.out.old (.cells #[.int .i64 c.n, .int .i64 c.r, .string c.s] 25))
                  have T4' := Lib.hid (T4.out.old (.cells #[.int .i64 c.n, .int .i64 c.r, .string c.s] 25))
                  have T5n := ClAt.new ((w.alloc (.cells #[.int .i64 a.n, .int .i64 a.r, .string a.s] 25)).alloc (.cells #[.int .i64 b.n, .int .i64 b.r, .string b.s] 25)) c
                  simp only [World.size_alloc] at T5n
                  have T5 := Lib.hid (T5n)
                  clear T5n
                  have B3 := Lib.hid (B2.out.alloc B2.out.size (.cells #[.int .i64 c.n, .int .i64 c.r, .string c.s] 25))
                  go_enter Tryd.func5, Tryd.ntmps5
                  go_wp2_with fail
                  refine (clAwake _ (LD.out _ B3.out)).mono ?_
                  rintro e w1 ⟨rfl, hb⟩
                  have T3_1 := Lib.hid (T3''.out.below hb T3''.out.lt)
                  have T4_1 := Lib.hid (T4'.out.below hb T4'.out.lt)
                  have T5_1 := Lib.hid (T5.out.below hb T5.out.lt)
                  have B4 := Lib.hid (B3.out.trans (hb.mono B3.out.size))
                  clear hb
                  have c30 := T3_1.out.c0
                  have c31 := T3_1.out.c1
                  have c32 := T3_1.out.c2
                  have c40 := T4_1.out.c0
                  have c41 := T4_1.out.c1
                  have c42 := T4_1.out.c2
                  have c50 := T5_1.out.c0
                  have c51 := T5_1.out.c1
                  have c52 := T5_1.out.c2
                  go_wp2_with fail
                  refine (FA.out _).mono ?_
                  rintro e w2 ⟨rfl, hb⟩
                  clear c30 c31 c32 c40 c41 c42 c50 c51 c52
                  have T3_2 := Lib.hid (T3_1.out.below hb T3_1.out.lt)
                  have T4_2 := Lib.hid (T4_1.out.below hb T4_1.out.lt)
                  have T5_2 := Lib.hid (T5_1.out.below hb T5_1.out.lt)
                  have B5 := Lib.hid (B4.out.trans (hb.mono B4.out.size))
                  clear hb
                  have c30 := T3_2.out.c0
                  have c31 := T3_2.out.c1
                  have c32 := T3_2.out.c2
                  have c40 := T4_2.out.c0
                  have c41 := T4_2.out.c1
                  have c42 := T4_2.out.c2
                  have c50 := T5_2.out.c0
                  have c51 := T5_2.out.c1
                  have c52 := T5_2.out.c2
                  go_wp2_with fail
                  refine (FB.out _).mono ?_
                  rintro e w3 ⟨rfl, hb⟩
                  clear c30 c31 c32 c40 c41 c42 c50 c51 c52
                  have T3_3 := Lib.hid (T3_2.out.below hb T3_2.out.lt)
                  have T4_3 := Lib.hid (T4_2.out.below hb T4_2.out.lt)
                  have T5_3 := Lib.hid (T5_2.out.below hb T5_2.out.lt)
                  have B6 := Lib.hid (B5.out.trans (hb.mono B5.out.size))
                  clear hb
                  have c30 := T3_3.out.c0
                  have c31 := T3_3.out.c1
                  have c32 := T3_3.out.c2
                  have c40 := T4_3.out.c0
                  have c41 := T4_3.out.c1
                  have c42 := T4_3.out.c2
                  have c50 := T5_3.out.c0
                  have c51 := T5_3.out.c1
                  have c52 := T5_3.out.c2
                  go_wp2_with fail
                  refine (FC.out _).mono ?_
                  rintro e w4 ⟨rfl, hb⟩
                  clear c30 c31 c32 c40 c41 c42 c50 c51 c52
                  have T3_4 := Lib.hid (T3_3.out.below hb T3_3.out.lt)
                  have T4_4 := Lib.hid (T4_3.out.below hb T4_3.out.lt)
                  have T5_4 := Lib.hid (T5_3.out.below hb T5_3.out.lt)
                  have B7 := Lib.hid (B6.out.trans (hb.mono B6.out.size))
                  clear hb
                  have c30 := T3_4.out.c0
                  have c31 := T3_4.out.c1
                  have c32 := T3_4.out.c2
                  have c40 := T4_4.out.c0
                  have c41 := T4_4.out.c1
                  have c42 := T4_4.out.c2
                  have c50 := T5_4.out.c0
                  have c51 := T5_4.out.c1
                  have c52 := T5_4.out.c2
                  go_wp2_with fail
                  refine (LAB.out _ (LD.out _ B7.out)).mono ?_
                  rintro e w5 ⟨rfl, hb⟩
                  clear c30 c31 c32 c40 c41 c42 c50 c51 c52
                  have T3_5 := Lib.hid (T3_4.out.below hb T3_4.out.lt)
                  have T4_5 := Lib.hid (T4_4.out.below hb T4_4.out.lt)
                  have T5_5 := Lib.hid (T5_4.out.below hb T5_4.out.lt)
                  have B8 := Lib.hid (B7.out.trans (hb.mono B7.out.size))
                  clear hb
                  have c30 := T3_5.out.c0
                  have c31 := T3_5.out.c1
                  have c32 := T3_5.out.c2
                  have c40 := T4_5.out.c0
                  have c41 := T4_5.out.c1
                  have c42 := T4_5.out.c2
                  have c50 := T5_5.out.c0
                  have c51 := T5_5.out.c1
                  have c52 := T5_5.out.c2
                  go_wp2_with fail
                  refine (LBA.out _ (LD.out _ B8.out)).mono ?_
                  rintro e w6 ⟨rfl, hb⟩
                  clear c30 c31 c32 c40 c41 c42 c50 c51 c52
                  have T3_6 := Lib.hid (T3_5.out.below hb T3_5.out.lt)
                  have T4_6 := Lib.hid (T4_5.out.below hb T4_5.out.lt)
                  have T5_6 := Lib.hid (T5_5.out.below hb T5_5.out.lt)
                  have B9 := Lib.hid (B8.out.trans (hb.mono B8.out.size))
                  clear hb
                  have c30 := T3_6.out.c0
                  have c31 := T3_6.out.c1
                  have c32 := T3_6.out.c2
                  have c40 := T4_6.out.c0
                  have c41 := T4_6.out.c1
                  have c42 := T4_6.out.c2
                  have c50 := T5_6.out.c0
                  have c51 := T5_6.out.c1
                  have c52 := T5_6.out.c2
                  go_wp2_with fail
                  refine (LBC.out _ (LD.out _ B9.out)).mono ?_
                  rintro e w7 ⟨rfl, hb⟩
                  clear c30 c31 c32 c40 c41 c42 c50 c51 c52
                  have T3_7 := Lib.hid (T3_6.out.below hb T3_6.out.lt)
                  have T4_7 := Lib.hid (T4_6.out.below hb T4_6.out.lt)
                  have T5_7 := Lib.hid (T5_6.out.below hb T5_6.out.lt)
                  have B10 := Lib.hid (B9.out.trans (hb.mono B9.out.size))
                  clear hb
                  have c30 := T3_7.out.c0
                  have c31 := T3_7.out.c1
                  have c32 := T3_7.out.c2
                  have c40 := T4_7.out.c0
                  have c41 := T4_7.out.c1
                  have c42 := T4_7.out.c2
                  have c50 := T5_7.out.c0
                  have c51 := T5_7.out.c1
                  have c52 := T5_7.out.c2
                  go_wp2_with fail
                  refine (LAC.out _ (LD.out _ B10.out)).mono ?_
                  rintro e w8 ⟨rfl, hb⟩
                  clear c30 c31 c32 c40 c41 c42 c50 c51 c52
                  have T3_8 := Lib.hid (T3_7.out.below hb T3_7.out.lt)
                  have T4_8 := Lib.hid (T4_7.out.below hb T4_7.out.lt)
                  have T5_8 := Lib.hid (T5_7.out.below hb T5_7.out.lt)
                  have B11 := Lib.hid (B10.out.trans (hb.mono B10.out.size))
                  clear hb
                  have c30 := T3_8.out.c0
                  have c31 := T3_8.out.c1
                  have c32 := T3_8.out.c2
                  have c40 := T4_8.out.c0
                  have c41 := T4_8.out.c1
                  have c42 := T4_8.out.c2
                  have c50 := T5_8.out.c0
                  have c51 := T5_8.out.c1
                  have c52 := T5_8.out.c2
                  go_wp2_with fail
                  clear c30 c31 c32 c40 c41 c42 c50 c51 c52
                  have LE := Lib.hid (fun (w9 : World) (hS : Below w8.heap.size w8 w9) => LD.out w9 (B11.out.trans (hS.mono B11.out.size)))
                  refine wp_region_G w8 (by kernel_rfl) ?_
                  refine wpG_take (i := 0) (oi := ⟨some 83, _, _, _, _, _⟩) (v := ?_) rfl (by kernel_rfl) (by kernel_rfl) (by kernel_rfl) (Or.inl ⟨by rfl, unib_val ?_⟩) ?_; rotate_left; (focus (intro w9 hSw; go_simp; try with_reducible rfl)); simp only [Act.put, List.setIfInBounds_toArray, List.set_cons_zero, List.set_cons_succ]
                  refine wpG_take (i := 1) (oi := ⟨some 84, _, _, _, _, _⟩) (v := ?_) rfl (by kernel_rfl) (by kernel_rfl) (by kernel_rfl) (Or.inl ⟨by rfl, unib_val ?_⟩) ?_; rotate_left; (focus (intro w9 hSw; have q9 := T3_8.out.below hSw T3_8.out.lt; have q2 := q9.c2; go_simp; try with_reducible rfl)); simp only [Act.put, List.setIfInBounds_toArray, List.set_cons_zero, List.set_cons_succ]
                  refine wpG_take (i := 2) (oi := ⟨some 85, _, _, _, _, _⟩) rfl (by kernel_rfl) (by kernel_rfl) (by kernel_rfl) (Or.inl ⟨by rfl, unib_call_if ?_ (fun w9 hSw => OA.out w9 (LE.out w9 hSw))⟩) ?_; (focus (intro w9 hSw; go_simp; try with_reducible rfl)); simp only [Act.put, List.setIfInBounds_toArray, List.set_cons_zero, List.set_cons_succ]
                  refine wpG_take (i := 3) (oi := ⟨some 86, _, _, _, _, _⟩) (v := ?_) rfl (by kernel_rfl) (by kernel_rfl) (by kernel_rfl) (Or.inl ⟨by rfl, unib_val ?_⟩) ?_; rotate_left; (focus (intro w9 hSw; go_simp; try with_reducible rfl)); simp only [Act.put, List.setIfInBounds_toArray, List.set_cons_zero, List.set_cons_succ]
                  refine wpG_take (i := 4) (oi := ⟨some 87, _, _, _, _, _⟩) (v := ?_) rfl (by kernel_rfl) (by kernel_rfl) (by kernel_rfl) (Or.inl ⟨by rfl, unib_val ?_⟩) ?_; rotate_left; (focus (intro w9 hSw; have q9 := T4_8.out.below hSw T4_8.out.lt; have q2 := q9.c2; go_simp; try with_reducible rfl)); simp only [Act.put, List.setIfInBounds_toArray, List.set_cons_zero, List.set_cons_succ]
                  refine wpG_take (i := 5) (oi := ⟨some 88, _, _, _, _, _⟩) rfl (by kernel_rfl) (by kernel_rfl) (by kernel_rfl) (Or.inl ⟨by rfl, unib_call_if ?_ (fun w9 hSw => OB.out w9 (LE.out w9 hSw))⟩) ?_; (focus (intro w9 hSw; go_simp; try with_reducible rfl)); simp only [Act.put, List.setIfInBounds_toArray, List.set_cons_zero, List.set_cons_succ]
                  refine wpG_take (i := 6) (oi := ⟨some 89, _, _, _, _, _⟩) (v := ?_) rfl (by kernel_rfl) (by kernel_rfl) (by kernel_rfl) (Or.inl ⟨by rfl, unib_val ?_⟩) ?_; rotate_left; (focus (intro w9 hSw; have q0 := EQ.out w9; go_simp; try with_reducible rfl)); simp only [Act.put, List.setIfInBounds_toArray, List.set_cons_zero, List.set_cons_succ]
                  refine wpG_take (i := 7) (oi := ⟨some 90, _, _, _, _, _⟩) (v := ?_) rfl (by kernel_rfl) (by kernel_rfl) (by kernel_rfl) (Or.inl ⟨by rfl, unib_val ?_⟩) ?_; rotate_left; (focus (intro w9 hSw; go_simp; try with_reducible rfl)); simp only [Act.put, List.setIfInBounds_toArray, List.set_cons_zero, List.set_cons_succ]
                  refine wpG_take (i := 8) (oi := ⟨some 91, _, _, _, _, _⟩) rfl (by kernel_rfl) (by kernel_rfl) (by kernel_rfl) (Or.inr ⟨by rfl, rfl⟩) ?_; simp only [Act.put, List.setIfInBounds_toArray, List.set_cons_zero, List.set_cons_succ]
                  refine wpG_take (i := 9) (oi := ⟨some 92, _, _, _, _, _⟩) rfl (by kernel_rfl) (by kernel_rfl) (by kernel_rfl) (Or.inr ⟨by rfl, rfl⟩) ?_; simp only [Act.put, List.setIfInBounds_toArray, List.set_cons_zero, List.set_cons_succ]
                  refine wpG_take (i := 10) (oi := ⟨some 93, _, _, _, _, _⟩) rfl (by kernel_rfl) (by kernel_rfl) (by kernel_rfl) (Or.inr ⟨by rfl, rfl⟩) ?_; simp only [Act.put, List.setIfInBounds_toArray, List.set_cons_zero, List.set_cons_succ]
                  refine wpG_take (i := 11) (oi := ⟨some 94, _, _, _, _, _⟩) rfl (by kernel_rfl) (by kernel_rfl) (by kernel_rfl) (Or.inr ⟨by rfl, rfl⟩) ?_; simp only [Act.put, List.setIfInBounds_toArray, List.set_cons_zero, List.set_cons_succ]
                  refine wpG_take (i := 12) (oi := ⟨some 95, _, _, _, _, _⟩) rfl (by kernel_rfl) (by kernel_rfl) (by kernel_rfl) (Or.inr ⟨by rfl, rfl⟩) ?_; simp only [Act.put, List.setIfInBounds_toArray, List.set_cons_zero, List.set_cons_succ]
                  refine wpG_take (i := 13) (oi := ⟨some 96, _, _, _, _, _⟩) rfl (by kernel_rfl) (by kernel_rfl) (by kernel_rfl) (Or.inr ⟨by rfl, rfl⟩) ?_; simp only [Act.put, List.setIfInBounds_toArray, List.set_cons_zero, List.set_cons_succ]
                  refine wpG_take (i := 14) (oi := ⟨some 97, _, _, _, _, _⟩) rfl (by kernel_rfl) (by kernel_rfl) (by kernel_rfl) (Or.inr ⟨by rfl, rfl⟩) ?_; simp only [Act.put, List.setIfInBounds_toArray, List.set_cons_zero, List.set_cons_succ]
                  refine wpG_take (i := 15) (oi := ⟨some 98, _, _, _, _, _⟩) rfl (by kernel_rfl) (by kernel_rfl) (by kernel_rfl) (Or.inr ⟨by rfl, rfl⟩) ?_; simp only [Act.put, List.setIfInBounds_toArray, List.set_cons_zero, List.set_cons_succ]
                  refine wpG_take (i := 16) (oi := ⟨some 99, _, _, _, _, _⟩) rfl (by kernel_rfl) (by kernel_rfl) (by kernel_rfl) (Or.inr ⟨by rfl, rfl⟩) ?_; simp only [Act.put, List.setIfInBounds_toArray, List.set_cons_zero, List.set_cons_succ]
                  refine wpG_take (i := 17) (oi := ⟨some 100, _, _, _, _, _⟩) (v := ?_) rfl (by kernel_rfl) (by kernel_rfl) (by kernel_rfl) (Or.inl ⟨by rfl, unib_val ?_⟩) ?_; rotate_left; (focus (intro w9 hSw; go_simp; try with_reducible rfl)); simp only [Act.put, List.setIfInBounds_toArray, List.set_cons_zero, List.set_cons_succ]
                  refine wpG_take (i := 18) (oi := ⟨some 6, _, _, _, _, _⟩) (v := ?_) rfl (by kernel_rfl) (by kernel_rfl) (by kernel_rfl) (Or.inl ⟨by rfl, unib_val ?_⟩) ?_; rotate_left; (focus (intro w9 hSw; go_simp; try with_reducible rfl)); simp only [Act.put, List.setIfInBounds_toArray, List.set_cons_zero, List.set_cons_succ]
                  refine wpG_done (by kernel_rfl) ?_ _
                  intro w9 hSw _
                  go_wp2
                  go_ret
                  exact ⟨rfl, B11.out.trans (hSw.mono B11.out.size)⟩
                · rw [show (SH.sum (nums a.s) == SH.sum (nums b.s)) = false by simpa using hd] at eq
                  have EQ := Lib.hid eq
                  have hab := cl_ne hne
                  have hdl : lessL (SH.sum (nums a.s)) (SH.sum (nums b.s)) = true := by
                    cases h : lessL (SH.sum (nums a.s)) (SH.sum (nums b.s))
                    · cases h2 : lessL (SH.sum (nums b.s)) (SH.sum (nums a.s))
                      · exact absurd (lessL_total h h2) hd
                      · simp [cless, hst1, hst2, h, h2] at hx <;> try simp_all
                    · simp [cless, hst1, hst2, h] at hx <;> try simp_all
                  rw [hdl] at DL
                  clear eq hd hdl sa sb sc hst1 hst2
                  generalize bvals (SH.sum (nums a.s)) = VA at *
                  generalize bvals (SH.sum (nums b.s)) = VB at *
                  have B0 := Lib.hid (Below.refl w.heap.size w)
                  have T3n := ClAt.new w a
                  have T3 := Lib.hid (T3n)
                  clear T3n
                  have B1 := Lib.hid (B0.out.alloc B0.out.size (.cells #[.int .i64 a.n, .int .i64 a.r, .string a.s] 25))
                  have T3' := Lib.hid (T3.out.old (.cells #[.int .i64 b.n, .int .i64 b.r, .string b.s] 25))
                  have T4n := ClAt.new (w.alloc (.cells #[.int .i64 a.n, .int .i64 a.r, .string a.s] 25)) b
                  simp only [World.size_alloc] at T4n
                  have T4 := Lib.hid (T4n)
                  clear T4n
                  have B2 := Lib.hid (B1.out.alloc B1.out.size (.cells #[.int .i64 b.n, .int .i64 b.r, .string b.s] 25))
                  have T3'' := Lib.hid (T3'.out.old (.cells #[.int .i64 c.n, .int .i64 c.r, .string c.s] 25))
                  have T4' := Lib.hid (T4.out.old (.cells #[.int .i64 c.n, .int .i64 c.r, .string c.s] 25))
                  have T5n := ClAt.new ((w.alloc (.cells #[.int .i64 a.n, .int .i64 a.r, .string a.s] 25)).alloc (.cells #[.int .i64 b.n, .int .i64 b.r, .string b.s] 25)) c
                  simp only [World.size_alloc] at T5n
                  have T5 := Lib.hid (T5n)
                  clear T5n
                  have B3 := Lib.hid (B2.out.alloc B2.out.size (.cells #[.int .i64 c.n, .int .i64 c.r, .string c.s] 25))
                  go_enter Tryd.func5, Tryd.ntmps5
                  go_wp2_with fail
                  refine (clAwake _ (LD.out _ B3.out)).mono ?_
                  rintro e w1 ⟨rfl, hb⟩
                  have T3_1 := Lib.hid (T3''.out.below hb T3''.out.lt)
                  have T4_1 := Lib.hid (T4'.out.below hb T4'.out.lt)
                  have T5_1 := Lib.hid (T5.out.below hb T5.out.lt)
                  have B4 := Lib.hid (B3.out.trans (hb.mono B3.out.size))
                  clear hb
                  have c30 := T3_1.out.c0
                  have c31 := T3_1.out.c1
                  have c32 := T3_1.out.c2
                  have c40 := T4_1.out.c0
                  have c41 := T4_1.out.c1
                  have c42 := T4_1.out.c2
                  have c50 := T5_1.out.c0
                  have c51 := T5_1.out.c1
                  have c52 := T5_1.out.c2
                  go_wp2_with fail
                  refine (FA.out _).mono ?_
                  rintro e w2 ⟨rfl, hb⟩
                  clear c30 c31 c32 c40 c41 c42 c50 c51 c52
                  have T3_2 := Lib.hid (T3_1.out.below hb T3_1.out.lt)
                  have T4_2 := Lib.hid (T4_1.out.below hb T4_1.out.lt)
                  have T5_2 := Lib.hid (T5_1.out.below hb T5_1.out.lt)
                  have B5 := Lib.hid (B4.out.trans (hb.mono B4.out.size))
                  clear hb
                  have c30 := T3_2.out.c0
                  have c31 := T3_2.out.c1
                  have c32 := T3_2.out.c2
                  have c40 := T4_2.out.c0
                  have c41 := T4_2.out.c1
                  have c42 := T4_2.out.c2
                  have c50 := T5_2.out.c0
                  have c51 := T5_2.out.c1
                  have c52 := T5_2.out.c2
                  go_wp2_with fail
                  refine (FB.out _).mono ?_
                  rintro e w3 ⟨rfl, hb⟩
                  clear c30 c31 c32 c40 c41 c42 c50 c51 c52
                  have T3_3 := Lib.hid (T3_2.out.below hb T3_2.out.lt)
                  have T4_3 := Lib.hid (T4_2.out.below hb T4_2.out.lt)
                  have T5_3 := Lib.hid (T5_2.out.below hb T5_2.out.lt)
                  have B6 := Lib.hid (B5.out.trans (hb.mono B5.out.size))
                  clear hb
                  have c30 := T3_3.out.c0
                  have c31 := T3_3.out.c1
                  have c32 := T3_3.out.c2
                  have c40 := T4_3.out.c0
                  have c41 := T4_3.out.c1
                  have c42 := T4_3.out.c2
                  have c50 := T5_3.out.c0
                  have c51 := T5_3.out.c1
                  have c52 := T5_3.out.c2
                  go_wp2_with fail
                  refine (FC.out _).mono ?_
                  rintro e w4 ⟨rfl, hb⟩
                  clear c30 c31 c32 c40 c41 c42 c50 c51 c52
                  have T3_4 := Lib.hid (T3_3.out.below hb T3_3.out.lt)
                  have T4_4 := Lib.hid (T4_3.out.below hb T4_3.out.lt)
                  have T5_4 := Lib.hid (T5_3.out.below hb T5_3.out.lt)
                  have B7 := Lib.hid (B6.out.trans (hb.mono B6.out.size))
                  clear hb
                  have c30 := T3_4.out.c0
                  have c31 := T3_4.out.c1
                  have c32 := T3_4.out.c2
                  have c40 := T4_4.out.c0
                  have c41 := T4_4.out.c1
                  have c42 := T4_4.out.c2
                  have c50 := T5_4.out.c0
                  have c51 := T5_4.out.c1
                  have c52 := T5_4.out.c2
                  go_wp2_with fail
                  refine (LAB.out _ (LD.out _ B7.out)).mono ?_
                  rintro e w5 ⟨rfl, hb⟩
                  clear c30 c31 c32 c40 c41 c42 c50 c51 c52
                  have T3_5 := Lib.hid (T3_4.out.below hb T3_4.out.lt)
                  have T4_5 := Lib.hid (T4_4.out.below hb T4_4.out.lt)
                  have T5_5 := Lib.hid (T5_4.out.below hb T5_4.out.lt)
                  have B8 := Lib.hid (B7.out.trans (hb.mono B7.out.size))
                  clear hb
                  have c30 := T3_5.out.c0
                  have c31 := T3_5.out.c1
                  have c32 := T3_5.out.c2
                  have c40 := T4_5.out.c0
                  have c41 := T4_5.out.c1
                  have c42 := T4_5.out.c2
                  have c50 := T5_5.out.c0
                  have c51 := T5_5.out.c1
                  have c52 := T5_5.out.c2
                  go_wp2_with fail
                  refine (LBA.out _ (LD.out _ B8.out)).mono ?_
                  rintro e w6 ⟨rfl, hb⟩
                  clear c30 c31 c32 c40 c41 c42 c50 c51 c52
                  have T3_6 := Lib.hid (T3_5.out.below hb T3_5.out.lt)
                  have T4_6 := Lib.hid (T4_5.out.below hb T4_5.out.lt)
                  have T5_6 := Lib.hid (T5_5.out.below hb T5_5.out.lt)
                  have B9 := Lib.hid (B8.out.trans (hb.mono B8.out.size))
                  clear hb
                  have c30 := T3_6.out.c0
                  have c31 := T3_6.out.c1
                  have c32 := T3_6.out.c2
                  have c40 := T4_6.out.c0
                  have c41 := T4_6.out.c1
                  have c42 := T4_6.out.c2
                  have c50 := T5_6.out.c0
                  have c51 := T5_6.out.c1
                  have c52 := T5_6.out.c2
                  go_wp2_with fail
                  refine (LBC.out _ (LD.out _ B9.out)).mono ?_
                  rintro e w7 ⟨rfl, hb⟩
                  clear c30 c31 c32 c40 c41 c42 c50 c51 c52
                  have T3_7 := Lib.hid (T3_6.out.below hb T3_6.out.lt)
                  have T4_7 := Lib.hid (T4_6.out.below hb T4_6.out.lt)
                  have T5_7 := Lib.hid (T5_6.out.below hb T5_6.out.lt)
                  have B10 := Lib.hid (B9.out.trans (hb.mono B9.out.size))
                  clear hb
                  have c30 := T3_7.out.c0
                  have c31 := T3_7.out.c1
                  have c32 := T3_7.out.c2
                  have c40 := T4_7.out.c0
                  have c41 := T4_7.out.c1
                  have c42 := T4_7.out.c2
                  have c50 := T5_7.out.c0
                  have c51 := T5_7.out.c1
                  have c52 := T5_7.out.c2
                  go_wp2_with fail
                  refine (LAC.out _ (LD.out _ B10.out)).mono ?_
                  rintro e w8 ⟨rfl, hb⟩
                  clear c30 c31 c32 c40 c41 c42 c50 c51 c52
                  have T3_8 := Lib.hid (T3_7.out.below hb T3_7.out.lt)
                  have T4_8 := Lib.hid (T4_7.out.below hb T4_7.out.lt)
                  have T5_8 := Lib.hid (T5_7.out.below hb T5_7.out.lt)
                  have B11 := Lib.hid (B10.out.trans (hb.mono B10.out.size))
                  clear hb
                  have c30 := T3_8.out.c0
                  have c31 := T3_8.out.c1
                  have c32 := T3_8.out.c2
                  have c40 := T4_8.out.c0
                  have c41 := T4_8.out.c1
                  have c42 := T4_8.out.c2
                  have c50 := T5_8.out.c0
                  have c51 := T5_8.out.c1
                  have c52 := T5_8.out.c2
                  go_wp2_with fail
                  clear c30 c31 c32 c40 c41 c42 c50 c51 c52
                  have LE := Lib.hid (fun (w9 : World) (hS : Below w8.heap.size w8 w9) => LD.out w9 (B11.out.trans (hS.mono B11.out.size)))
                  refine wp_region_G w8 (by kernel_rfl) ?_
                  refine wpG_take (i := 0) (oi := ⟨some 83, _, _, _, _, _⟩) (v := ?_) rfl (by kernel_rfl) (by kernel_rfl) (by kernel_rfl) (Or.inl ⟨by rfl, unib_val ?_⟩) ?_; rotate_left; (focus (intro w9 hSw; go_simp; try with_reducible rfl)); simp only [Act.put, List.setIfInBounds_toArray, List.set_cons_zero, List.set_cons_succ]
                  refine wpG_take (i := 1) (oi := ⟨some 84, _, _, _, _, _⟩) (v := ?_) rfl (by kernel_rfl) (by kernel_rfl) (by kernel_rfl) (Or.inl ⟨by rfl, unib_val ?_⟩) ?_; rotate_left; (focus (intro w9 hSw; have q9 := T3_8.out.below hSw T3_8.out.lt; have q2 := q9.c2; go_simp; try with_reducible rfl)); simp only [Act.put, List.setIfInBounds_toArray, List.set_cons_zero, List.set_cons_succ]
                  refine wpG_take (i := 2) (oi := ⟨some 85, _, _, _, _, _⟩) rfl (by kernel_rfl) (by kernel_rfl) (by kernel_rfl) (Or.inl ⟨by rfl, unib_call_if ?_ (fun w9 hSw => OA.out w9 (LE.out w9 hSw))⟩) ?_; (focus (intro w9 hSw; go_simp; try with_reducible rfl)); simp only [Act.put, List.setIfInBounds_toArray, List.set_cons_zero, List.set_cons_succ]
                  refine wpG_take (i := 3) (oi := ⟨some 86, _, _, _, _, _⟩) (v := ?_) rfl (by kernel_rfl) (by kernel_rfl) (by kernel_rfl) (Or.inl ⟨by rfl, unib_val ?_⟩) ?_; rotate_left; (focus (intro w9 hSw; go_simp; try with_reducible rfl)); simp only [Act.put, List.setIfInBounds_toArray, List.set_cons_zero, List.set_cons_succ]
                  refine wpG_take (i := 4) (oi := ⟨some 87, _, _, _, _, _⟩) (v := ?_) rfl (by kernel_rfl) (by kernel_rfl) (by kernel_rfl) (Or.inl ⟨by rfl, unib_val ?_⟩) ?_; rotate_left; (focus (intro w9 hSw; have q9 := T4_8.out.below hSw T4_8.out.lt; have q2 := q9.c2; go_simp; try with_reducible rfl)); simp only [Act.put, List.setIfInBounds_toArray, List.set_cons_zero, List.set_cons_succ]
                  refine wpG_take (i := 5) (oi := ⟨some 88, _, _, _, _, _⟩) rfl (by kernel_rfl) (by kernel_rfl) (by kernel_rfl) (Or.inl ⟨by rfl, unib_call_if ?_ (fun w9 hSw => OB.out w9 (LE.out w9 hSw))⟩) ?_; (focus (intro w9 hSw; go_simp; try with_reducible rfl)); simp only [Act.put, List.setIfInBounds_toArray, List.set_cons_zero, List.set_cons_succ]
                  refine wpG_take (i := 6) (oi := ⟨some 89, _, _, _, _, _⟩) (v := ?_) rfl (by kernel_rfl) (by kernel_rfl) (by kernel_rfl) (Or.inl ⟨by rfl, unib_val ?_⟩) ?_; rotate_left; (focus (intro w9 hSw; have q0 := EQ.out w9; go_simp; try with_reducible rfl)); simp only [Act.put, List.setIfInBounds_toArray, List.set_cons_zero, List.set_cons_succ]
                  refine wpG_take (i := 7) (oi := ⟨some 90, _, _, _, _, _⟩) (v := ?_) rfl (by kernel_rfl) (by kernel_rfl) (by kernel_rfl) (Or.inl ⟨by rfl, unib_val ?_⟩) ?_; rotate_left; (focus (intro w9 hSw; go_simp; try with_reducible rfl)); simp only [Act.put, List.setIfInBounds_toArray, List.set_cons_zero, List.set_cons_succ]
                  refine wpG_take (i := 8) (oi := ⟨some 91, _, _, _, _, _⟩) (v := ?_) rfl (by kernel_rfl) (by kernel_rfl) (by kernel_rfl) (Or.inl ⟨by rfl, unib_val ?_⟩) ?_; rotate_left; (focus (intro w9 hSw; go_simp; try with_reducible rfl)); simp only [Act.put, List.setIfInBounds_toArray, List.set_cons_zero, List.set_cons_succ]
                  refine wpG_take (i := 9) (oi := ⟨some 92, _, _, _, _, _⟩) (v := ?_) rfl (by kernel_rfl) (by kernel_rfl) (by kernel_rfl) (Or.inl ⟨by rfl, unib_val ?_⟩) ?_; rotate_left; (focus (intro w9 hSw; go_simp; try with_reducible rfl)); simp only [Act.put, List.setIfInBounds_toArray, List.set_cons_zero, List.set_cons_succ]
                  refine wpG_take (i := 10) (oi := ⟨some 93, _, _, _, _, _⟩) (v := ?_) rfl (by kernel_rfl) (by kernel_rfl) (by kernel_rfl) (Or.inl ⟨by rfl, unib_val ?_⟩) ?_; rotate_left; (focus (intro w9 hSw; have q9 := T3_8.out.below hSw T3_8.out.lt; have q2 := q9.c2; go_simp; try with_reducible rfl)); simp only [Act.put, List.setIfInBounds_toArray, List.set_cons_zero, List.set_cons_succ]
                  refine wpG_take (i := 11) (oi := ⟨some 94, _, _, _, _, _⟩) rfl (by kernel_rfl) (by kernel_rfl) (by kernel_rfl) (Or.inl ⟨by rfl, unib_call_if ?_ (fun w9 hSw => OA.out w9 (LE.out w9 hSw))⟩) ?_; (focus (intro w9 hSw; go_simp; try with_reducible rfl)); simp only [Act.put, List.setIfInBounds_toArray, List.set_cons_zero, List.set_cons_succ]
                  refine wpG_take (i := 12) (oi := ⟨some 95, _, _, _, _, _⟩) (v := ?_) rfl (by kernel_rfl) (by kernel_rfl) (by kernel_rfl) (Or.inl ⟨by rfl, unib_val ?_⟩) ?_; rotate_left; (focus (intro w9 hSw; go_simp; try with_reducible rfl)); simp only [Act.put, List.setIfInBounds_toArray, List.set_cons_zero, List.set_cons_succ]
                  refine wpG_take (i := 13) (oi := ⟨some 96, _, _, _, _, _⟩) (v := ?_) rfl (by kernel_rfl) (by kernel_rfl) (by kernel_rfl) (Or.inl ⟨by rfl, unib_val ?_⟩) ?_; rotate_left; (focus (intro w9 hSw; have q9 := T4_8.out.below hSw T4_8.out.lt; have q2 := q9.c2; go_simp; try with_reducible rfl)); simp only [Act.put, List.setIfInBounds_toArray, List.set_cons_zero, List.set_cons_succ]
                  refine wpG_take (i := 14) (oi := ⟨some 97, _, _, _, _, _⟩) rfl (by kernel_rfl) (by kernel_rfl) (by kernel_rfl) (Or.inl ⟨by rfl, unib_call_if ?_ (fun w9 hSw => OB.out w9 (LE.out w9 hSw))⟩) ?_; (focus (intro w9 hSw; go_simp; try with_reducible rfl)); simp only [Act.put, List.setIfInBounds_toArray, List.set_cons_zero, List.set_cons_succ]
                  refine wpG_take (i := 15) (oi := ⟨some 98, _, _, _, _, _⟩) rfl (by kernel_rfl) (by kernel_rfl) (by kernel_rfl) (Or.inl ⟨by rfl, unib_call ?_ DL.out⟩) ?_; (focus (intro w9 hSw; go_simp; try with_reducible rfl)); simp only [Act.put, List.setIfInBounds_toArray, List.set_cons_zero, List.set_cons_succ]
                  refine wpG_take (i := 16) (oi := ⟨some 99, _, _, _, _, _⟩) (v := ?_) rfl (by kernel_rfl) (by kernel_rfl) (by kernel_rfl) (Or.inl ⟨by rfl, unib_val ?_⟩) ?_; rotate_left; (focus (intro w9 hSw; go_simp; try with_reducible rfl)); simp only [Act.put, List.setIfInBounds_toArray, List.set_cons_zero, List.set_cons_succ]
                  refine wpG_take (i := 17) (oi := ⟨some 100, _, _, _, _, _⟩) (v := ?_) rfl (by kernel_rfl) (by kernel_rfl) (by kernel_rfl) (Or.inl ⟨by rfl, unib_val ?_⟩) ?_; rotate_left; (focus (intro w9 hSw; go_simp; try with_reducible rfl)); simp only [Act.put, List.setIfInBounds_toArray, List.set_cons_zero, List.set_cons_succ]
                  refine wpG_take (i := 18) (oi := ⟨some 6, _, _, _, _, _⟩) (v := ?_) rfl (by kernel_rfl) (by kernel_rfl) (by kernel_rfl) (Or.inl ⟨by rfl, unib_val ?_⟩) ?_; rotate_left; (focus (intro w9 hSw; go_simp; try with_reducible rfl)); simp only [Act.put, List.setIfInBounds_toArray, List.set_cons_zero, List.set_cons_succ]
                  refine wpG_done (by kernel_rfl) ?_ _
                  intro w9 hSw _
                  go_wp2
                  go_ret
                  exact ⟨rfl, B11.out.trans (hSw.mono B11.out.size)⟩
              · have hab := cl_ne hne
                have hss := st_ne hst
                have SAB := Lib.hid (stLess_any a.n a.r b.n b.r)
                have hsl : stLess a.n a.r b.n b.r = true := by
                  cases h : stLess a.n a.r b.n b.r
                  · cases h2 : stLess b.n b.r a.n a.r
                    · first | rfl | (rw [st_no] at h h2; exact absurd (by omega) hst)
                    · simp [cless, h, h2] at hx <;> try simp_all
                  · simp [cless, h] at hx <;> try simp_all
                rw [hsl] at SAB
                unfold st at SAB
                clear sa sb sc hst hsl
                have B0 := Lib.hid (Below.refl w.heap.size w)
                have T3n := ClAt.new w a
                have T3 := Lib.hid (T3n)
                clear T3n
                have B1 := Lib.hid (B0.out.alloc B0.out.size (.cells #[.int .i64 a.n, .int .i64 a.r, .string a.s] 25))
                have T3' := Lib.hid (T3.out.old (.cells #[.int .i64 b.n, .int .i64 b.r, .string b.s] 25))
                have T4n := ClAt.new (w.alloc (.cells #[.int .i64 a.n, .int .i64 a.r, .string a.s] 25)) b
                simp only [World.size_alloc] at T4n
                have T4 := Lib.hid (T4n)
                clear T4n
                have B2 := Lib.hid (B1.out.alloc B1.out.size (.cells #[.int .i64 b.n, .int .i64 b.r, .string b.s] 25))
                have T3'' := Lib.hid (T3'.out.old (.cells #[.int .i64 c.n, .int .i64 c.r, .string c.s] 25))
                have T4' := Lib.hid (T4.out.old (.cells #[.int .i64 c.n, .int .i64 c.r, .string c.s] 25))
                have T5n := ClAt.new ((w.alloc (.cells #[.int .i64 a.n, .int .i64 a.r, .string a.s] 25)).alloc (.cells #[.int .i64 b.n, .int .i64 b.r, .string b.s] 25)) c
                simp only [World.size_alloc] at T5n
                have T5 := Lib.hid (T5n)
                clear T5n
                have B3 := Lib.hid (B2.out.alloc B2.out.size (.cells #[.int .i64 c.n, .int .i64 c.r, .string c.s] 25))
                go_enter Tryd.func5, Tryd.ntmps5
                go_wp2_with fail
                refine (clAwake _ (LD.out _ B3.out)).mono ?_
                rintro e w1 ⟨rfl, hb⟩
                have T3_1 := Lib.hid (T3''.out.below hb T3''.out.lt)
                have T4_1 := Lib.hid (T4'.out.below hb T4'.out.lt)
                have T5_1 := Lib.hid (T5.out.below hb T5.out.lt)
                have B4 := Lib.hid (B3.out.trans (hb.mono B3.out.size))
                clear hb
                have c30 := T3_1.out.c0
                have c31 := T3_1.out.c1
                have c32 := T3_1.out.c2
                have c40 := T4_1.out.c0
                have c41 := T4_1.out.c1
                have c42 := T4_1.out.c2
                have c50 := T5_1.out.c0
                have c51 := T5_1.out.c1
                have c52 := T5_1.out.c2
                go_wp2_with fail
                refine (FA.out _).mono ?_
                rintro e w2 ⟨rfl, hb⟩
                clear c30 c31 c32 c40 c41 c42 c50 c51 c52
                have T3_2 := Lib.hid (T3_1.out.below hb T3_1.out.lt)
                have T4_2 := Lib.hid (T4_1.out.below hb T4_1.out.lt)
                have T5_2 := Lib.hid (T5_1.out.below hb T5_1.out.lt)
                have B5 := Lib.hid (B4.out.trans (hb.mono B4.out.size))
                clear hb
                have c30 := T3_2.out.c0
                have c31 := T3_2.out.c1
                have c32 := T3_2.out.c2
                have c40 := T4_2.out.c0
                have c41 := T4_2.out.c1
                have c42 := T4_2.out.c2
                have c50 := T5_2.out.c0
                have c51 := T5_2.out.c1
                have c52 := T5_2.out.c2
                go_wp2_with fail
                refine (FB.out _).mono ?_
                rintro e w3 ⟨rfl, hb⟩
                clear c30 c31 c32 c40 c41 c42 c50 c51 c52
                have T3_3 := Lib.hid (T3_2.out.below hb T3_2.out.lt)
                have T4_3 := Lib.hid (T4_2.out.below hb T4_2.out.lt)
                have T5_3 := Lib.hid (T5_2.out.below hb T5_2.out.lt)
                have B6 := Lib.hid (B5.out.trans (hb.mono B5.out.size))
                clear hb
                have c30 := T3_3.out.c0
                have c31 := T3_3.out.c1
                have c32 := T3_3.out.c2
                have c40 := T4_3.out.c0
                have c41 := T4_3.out.c1
                have c42 := T4_3.out.c2
                have c50 := T5_3.out.c0
                have c51 := T5_3.out.c1
                have c52 := T5_3.out.c2
                go_wp2_with fail
                refine (FC.out _).mono ?_
                rintro e w4 ⟨rfl, hb⟩
                clear c30 c31 c32 c40 c41 c42 c50 c51 c52
                have T3_4 := Lib.hid (T3_3.out.below hb T3_3.out.lt)
                have T4_4 := Lib.hid (T4_3.out.below hb T4_3.out.lt)
                have T5_4 := Lib.hid (T5_3.out.below hb T5_3.out.lt)
                have B7 := Lib.hid (B6.out.trans (hb.mono B6.out.size))
                clear hb
                have c30 := T3_4.out.c0
                have c31 := T3_4.out.c1
                have c32 := T3_4.out.c2
                have c40 := T4_4.out.c0
                have c41 := T4_4.out.c1
                have c42 := T4_4.out.c2
                have c50 := T5_4.out.c0
                have c51 := T5_4.out.c1
                have c52 := T5_4.out.c2
                go_wp2_with fail
                refine (LAB.out _ (LD.out _ B7.out)).mono ?_
                rintro e w5 ⟨rfl, hb⟩
                clear c30 c31 c32 c40 c41 c42 c50 c51 c52
                have T3_5 := Lib.hid (T3_4.out.below hb T3_4.out.lt)
                have T4_5 := Lib.hid (T4_4.out.below hb T4_4.out.lt)
                have T5_5 := Lib.hid (T5_4.out.below hb T5_4.out.lt)
                have B8 := Lib.hid (B7.out.trans (hb.mono B7.out.size))
                clear hb
                have c30 := T3_5.out.c0
                have c31 := T3_5.out.c1
                have c32 := T3_5.out.c2
                have c40 := T4_5.out.c0
                have c41 := T4_5.out.c1
                have c42 := T4_5.out.c2
                have c50 := T5_5.out.c0
                have c51 := T5_5.out.c1
                have c52 := T5_5.out.c2
                go_wp2_with fail
                refine (LBA.out _ (LD.out _ B8.out)).mono ?_
                rintro e w6 ⟨rfl, hb⟩
                clear c30 c31 c32 c40 c41 c42 c50 c51 c52
                have T3_6 := Lib.hid (T3_5.out.below hb T3_5.out.lt)
                have T4_6 := Lib.hid (T4_5.out.below hb T4_5.out.lt)
                have T5_6 := Lib.hid (T5_5.out.below hb T5_5.out.lt)
                have B9 := Lib.hid (B8.out.trans (hb.mono B8.out.size))
                clear hb
                have c30 := T3_6.out.c0
                have c31 := T3_6.out.c1
                have c32 := T3_6.out.c2
                have c40 := T4_6.out.c0
                have c41 := T4_6.out.c1
                have c42 := T4_6.out.c2
                have c50 := T5_6.out.c0
                have c51 := T5_6.out.c1
                have c52 := T5_6.out.c2
                go_wp2_with fail
                refine (LBC.out _ (LD.out _ B9.out)).mono ?_
                rintro e w7 ⟨rfl, hb⟩
                clear c30 c31 c32 c40 c41 c42 c50 c51 c52
                have T3_7 := Lib.hid (T3_6.out.below hb T3_6.out.lt)
                have T4_7 := Lib.hid (T4_6.out.below hb T4_6.out.lt)
                have T5_7 := Lib.hid (T5_6.out.below hb T5_6.out.lt)
                have B10 := Lib.hid (B9.out.trans (hb.mono B9.out.size))
                clear hb
                have c30 := T3_7.out.c0
                have c31 := T3_7.out.c1
                have c32 := T3_7.out.c2
                have c40 := T4_7.out.c0
                have c41 := T4_7.out.c1
                have c42 := T4_7.out.c2
                have c50 := T5_7.out.c0
                have c51 := T5_7.out.c1
                have c52 := T5_7.out.c2
                go_wp2_with fail
                refine (LAC.out _ (LD.out _ B10.out)).mono ?_
                rintro e w8 ⟨rfl, hb⟩
                clear c30 c31 c32 c40 c41 c42 c50 c51 c52
                have T3_8 := Lib.hid (T3_7.out.below hb T3_7.out.lt)
                have T4_8 := Lib.hid (T4_7.out.below hb T4_7.out.lt)
                have T5_8 := Lib.hid (T5_7.out.below hb T5_7.out.lt)
                have B11 := Lib.hid (B10.out.trans (hb.mono B10.out.size))
                clear hb
                have c30 := T3_8.out.c0
                have c31 := T3_8.out.c1
                have c32 := T3_8.out.c2
                have c40 := T4_8.out.c0
                have c41 := T4_8.out.c1
                have c42 := T4_8.out.c2
                have c50 := T5_8.out.c0
                have c51 := T5_8.out.c1
                have c52 := T5_8.out.c2
                go_wp2_with fail
                refine (SAB.out _).mono ?_
                rintro e w9 ⟨rfl, hb⟩
                clear c30 c31 c32 c40 c41 c42 c50 c51 c52
                have T3_9 := Lib.hid (T3_8.out.below hb T3_8.out.lt)
                have T4_9 := Lib.hid (T4_8.out.below hb T4_8.out.lt)
                have T5_9 := Lib.hid (T5_8.out.below hb T5_8.out.lt)
                have B12 := Lib.hid (B11.out.trans (hb.mono B11.out.size))
                clear hb
                go_wp2
                go_ret
                exact ⟨rfl, B12.out⟩
end Go.Proofs.YtgjdeemabbmicaaDoor
