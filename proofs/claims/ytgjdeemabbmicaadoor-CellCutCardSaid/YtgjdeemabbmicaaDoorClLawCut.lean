/-
  The law CellCut: for every cell, and wherever it is cut, it answers true, and nothing that was there is written.
-/
import Derived.Test.YtgjdeemabbmicaaDoorClAwake
import Derived.Test.YtgjdeemabbmicaaDoorClArgs
import Derived.Test.YtgjdeemabbmicaaDoorClBytes
namespace Go.Proofs.YtgjdeemabbmicaaDoor
open Go.RowKit WM
set_option linter.unusedVariables false
set_option maxHeartbeats 4000000 in
theorem walk_cellCut (a : Cel) (p : Int) (w : World) (hlaid : Laid w) (ha : IsCel a) (hp : (Lit.int .i64 p).wf = true) :
    Calls Tryd.prog 7 #[a.v, .int .i64 p] w fun e w' => e = .returned (.bool true) ∧ Below w.heap.size w w' := by
  have LD := Lib.hid (fun (X : World) (hX : Below w.heap.size w X) => hlaid.below hX (Nat.le_refl _))
  have FA := Lib.hid (few_any a)
  have PA := Lib.hid (cput_any a)
  unfold CPutPost at PA
  clear hlaid ha hp
  cases hm : cmay a
  · rw [hm] at PA
    simp only [Bool.false_eq_true, if_false] at PA
    dsimp only [Cel.v] at FA PA ⊢
    clear hm
    cases ga : cfew a
    · rw [ga] at FA
      clear ga
      have B0 := Lib.hid (Below.refl w.heap.size w)
      have T2n := ClAt.new w a
      have T2 := Lib.hid (T2n)
      clear T2n
      have B1 := Lib.hid (B0.out.alloc B0.out.size (.cells #[.int .i64 a.n, .int .i64 a.r, .string a.s] 25))
      go_enter Tryd.func7, Tryd.ntmps7
      go_wp2_with fail
      refine (clAwake _ (LD.out _ B1.out)).mono ?_
      rintro e w1 ⟨rfl, hb⟩
      have T2_1 := Lib.hid (T2.out.below hb T2.out.lt)
      have B2 := Lib.hid (B1.out.trans (hb.mono B1.out.size))
      clear hb
      have c20 := T2_1.out.c0
      have c21 := T2_1.out.c1
      have c22 := T2_1.out.c2
      go_wp2_with fail
      refine (FA.out _).mono ?_
      rintro e w2 ⟨rfl, hb⟩
      clear c20 c21 c22
      have T2_2 := Lib.hid (T2_1.out.below hb T2_1.out.lt)
      have B3 := Lib.hid (B2.out.trans (hb.mono B2.out.size))
      clear hb
      have c20 := T2_2.out.c0
      have c21 := T2_2.out.c1
      have c22 := T2_2.out.c2
      go_wp2_with fail
      refine (PA.out _).mono ?_
      rintro e w3 ⟨rfl, hb⟩
      clear c20 c21 c22
      have T2_3 := Lib.hid (T2_2.out.below hb T2_2.out.lt)
      have B4 := Lib.hid (B3.out.trans (hb.mono B3.out.size))
      clear hb
      have c20 := T2_3.out.c0
      have c21 := T2_3.out.c1
      have c22 := T2_3.out.c2
      go_wp2
      go_ret
      exact ⟨rfl, B4.out⟩
    · rw [ga] at FA
      clear ga
      have B0 := Lib.hid (Below.refl w.heap.size w)
      have T2n := ClAt.new w a
      have T2 := Lib.hid (T2n)
      clear T2n
      have B1 := Lib.hid (B0.out.alloc B0.out.size (.cells #[.int .i64 a.n, .int .i64 a.r, .string a.s] 25))
      go_enter Tryd.func7, Tryd.ntmps7
      go_wp2_with fail
      refine (clAwake _ (LD.out _ B1.out)).mono ?_
      rintro e w1 ⟨rfl, hb⟩
      have T2_1 := Lib.hid (T2.out.below hb T2.out.lt)
      have B2 := Lib.hid (B1.out.trans (hb.mono B1.out.size))
      clear hb
      have c20 := T2_1.out.c0
      have c21 := T2_1.out.c1
      have c22 := T2_1.out.c2
      go_wp2_with fail
      refine (FA.out _).mono ?_
      rintro e w2 ⟨rfl, hb⟩
      clear c20 c21 c22
      have T2_2 := Lib.hid (T2_1.out.below hb T2_1.out.lt)
      have B3 := Lib.hid (B2.out.trans (hb.mono B2.out.size))
      clear hb
      have c20 := T2_2.out.c0
      have c21 := T2_2.out.c1
      have c22 := T2_2.out.c2
      go_wp2_with fail
      refine (PA.out _).mono ?_
      rintro e w3 ⟨rfl, hb⟩
      clear c20 c21 c22
      have T2_3 := Lib.hid (T2_2.out.below hb T2_2.out.lt)
      have B4 := Lib.hid (B3.out.trans (hb.mono B3.out.size))
      clear hb
      have c20 := T2_3.out.c0
      have c21 := T2_3.out.c1
      have c22 := T2_3.out.c2
      go_wp2
      go_ret
      exact ⟨rfl, B4.out⟩
  · rw [hm] at PA
    simp only [if_true] at PA
    obtain ⟨h1, h2, h3⟩ := cmay_iff.1 hm
    have ga : cfew a = true := by simp [cfew]; omega
    rw [ga] at FA
    have hl := cenc_len a h3
    have hcut := fun k hk => cget_cut a k hm hk
    have hab := cenc_bytes a
    have PZ := Lib.hid (cput_any ⟨0, 0, a.s⟩)
    unfold CPutPost at PZ
    rw [show cmay ⟨0, 0, a.s⟩ = false by simp [cmay]] at PZ
    simp only [Bool.false_eq_true, if_false] at PZ
    dsimp only [Cel.v] at FA PA PZ ⊢
    generalize cenc a = E at *
    clear hm ga h1 h2 h3
    by_cases hp0 : p < 0
    · skip
      have B0 := Lib.hid (Below.refl w.heap.size w)
      have T2n := ClAt.new w a
      have T2 := Lib.hid (T2n)
      clear T2n
      have B1 := Lib.hid (B0.out.alloc B0.out.size (.cells #[.int .i64 a.n, .int .i64 a.r, .string a.s] 25))
      go_enter Tryd.func7, Tryd.ntmps7
      go_wp2_with fail
      refine (clAwake _ (LD.out _ B1.out)).mono ?_
      rintro e w1 ⟨rfl, hb⟩
      have T2_1 := Lib.hid (T2.out.below hb T2.out.lt)
      have B2 := Lib.hid (B1.out.trans (hb.mono B1.out.size))
      clear hb
      have c20 := T2_1.out.c0
      have c21 := T2_1.out.c1
      have c22 := T2_1.out.c2
      go_wp2_with fail
      refine (FA.out _).mono ?_
      rintro e w2 ⟨rfl, hb⟩
      clear c20 c21 c22
      have T2_2 := Lib.hid (T2_1.out.below hb T2_1.out.lt)
      have B3 := Lib.hid (B2.out.trans (hb.mono B2.out.size))
      clear hb
      have c20 := T2_2.out.c0
      have c21 := T2_2.out.c1
      have c22 := T2_2.out.c2
      go_wp2_with fail
      refine (PA.out _).mono ?_
      rintro e w3 ⟨A, n, c, rfl, hn, hnc, hcm, hown, hb⟩
      clear c20 c21 c22
      have T2_3 := Lib.hid (T2_2.out.below hb T2_2.out.lt)
      have B4 := Lib.hid (B3.out.trans (hb.mono B3.out.size))
      clear hb
      have HN := Lib.hid hn
      have HY := Lib.hid (Byt.own hown)
      clear hown hn
      have c20 := T2_3.out.c0
      have c21 := T2_3.out.c1
      have c22 := T2_3.out.c2
      go_wp2
      go_ret
      exact ⟨rfl, B4.out⟩
    · obtain ⟨k, rfl⟩ : ∃ k : Nat, p = k := ⟨p.toNat, by omega⟩
      by_cases hk : k < E.length
      · have GA := Lib.hid (fun (w : World) (A : Option Addr) (c : Nat) (h : Byt w w.heap.size A E) (hc : k ≤ c) (hm : c ≤ maxLen) => cget_any A k c (E.take k) w (h.take k) (Nat.le_refl _) (by rw [List.length_take]; omega) (all_take hab k) hc hm)
        rw [hcut k hk] at GA
        dsimp only [cgetV, Cel.v, cel0] at GA
        clear hab hcut
        have B0 := Lib.hid (Below.refl w.heap.size w)
        have T2n := ClAt.new w a
        have T2 := Lib.hid (T2n)
        clear T2n
        have B1 := Lib.hid (B0.out.alloc B0.out.size (.cells #[.int .i64 a.n, .int .i64 a.r, .string a.s] 25))
        go_enter Tryd.func7, Tryd.ntmps7
        go_wp2_with fail
        refine (clAwake _ (LD.out _ B1.out)).mono ?_
        rintro e w1 ⟨rfl, hb⟩
        have T2_1 := Lib.hid (T2.out.below hb T2.out.lt)
        have B2 := Lib.hid (B1.out.trans (hb.mono B1.out.size))
        clear hb
        have c20 := T2_1.out.c0
        have c21 := T2_1.out.c1
        have c22 := T2_1.out.c2
        go_wp2_with fail
        refine (FA.out _).mono ?_
        rintro e w2 ⟨rfl, hb⟩
        clear c20 c21 c22
        have T2_2 := Lib.hid (T2_1.out.below hb T2_1.out.lt)
        have B3 := Lib.hid (B2.out.trans (hb.mono B2.out.size))
        clear hb
        have c20 := T2_2.out.c0
        have c21 := T2_2.out.c1
        have c22 := T2_2.out.c2
        go_wp2_with fail
        refine (PA.out _).mono ?_
        rintro e w3 ⟨A, n, c, rfl, hn, hnc, hcm, hown, hb⟩
        clear c20 c21 c22
        have T2_3 := Lib.hid (T2_2.out.below hb T2_2.out.lt)
        have B4 := Lib.hid (B3.out.trans (hb.mono B3.out.size))
        clear hb
        have HN := Lib.hid hn
        have HY := Lib.hid (Byt.own hown)
        clear hown hn
        have c20 := T2_3.out.c0
        have c21 := T2_3.out.c1
        have c22 := T2_3.out.c2
        have hk : k < n := by have := HN.out; omega
        have hsl := sl_h A n c k (by omega) (k : Int) rfl
        simp only [maxLen] at hcm
        have h1 : (k : Int) < (n : Int) := by omega
        go_wp2_with fail
        refine (GA.out _ A c HY.out (by omega) (by unfold maxLen; omega)).mono ?_
        rintro e w4 ⟨rfl, hb⟩
        clear c20 c21 c22
        have T2_4 := Lib.hid (T2_3.out.below hb T2_3.out.lt)
        have B5 := Lib.hid (B4.out.trans (hb.mono B4.out.size))
        clear hb
        have T2_4' := Lib.hid (T2_4.out.old (.cells #[.int .i64 0, .int .i64 0, .string ⟨#[]⟩] 25))
        have T9n := ClAt.new w4 cel0
        try dsimp only at T9n
        have T9 := Lib.hid (T9n)
        clear T9n
        have B6 := Lib.hid (B5.out.alloc B5.out.size (.cells #[.int .i64 0, .int .i64 0, .string ⟨#[]⟩] 25))
        have c20 := T2_4'.out.c0
        have c21 := T2_4'.out.c1
        have c22 := T2_4'.out.c2
        go_wp2_with fail
        refine (PZ.out _).mono ?_
        rintro e w5 ⟨rfl, hb⟩
        clear c20 c21 c22
        have T2_5 := Lib.hid (T2_4'.out.below hb T2_4'.out.lt)
        have T9_5 := Lib.hid (T9.out.below hb T9.out.lt)
        have B7 := Lib.hid (B6.out.trans (hb.mono B6.out.size))
        clear hb
        go_wp2
        go_ret
        exact ⟨rfl, B7.out⟩
      · clear hab hcut
        have B0 := Lib.hid (Below.refl w.heap.size w)
        have T2n := ClAt.new w a
        have T2 := Lib.hid (T2n)
        clear T2n
        have B1 := Lib.hid (B0.out.alloc B0.out.size (.cells #[.int .i64 a.n, .int .i64 a.r, .string a.s] 25))
        go_enter Tryd.func7, Tryd.ntmps7
        go_wp2_with fail
        refine (clAwake _ (LD.out _ B1.out)).mono ?_
        rintro e w1 ⟨rfl, hb⟩
        have T2_1 := Lib.hid (T2.out.below hb T2.out.lt)
        have B2 := Lib.hid (B1.out.trans (hb.mono B1.out.size))
        clear hb
        have c20 := T2_1.out.c0
        have c21 := T2_1.out.c1
        have c22 := T2_1.out.c2
        go_wp2_with fail
        refine (FA.out _).mono ?_
        rintro e w2 ⟨rfl, hb⟩
        clear c20 c21 c22
        have T2_2 := Lib.hid (T2_1.out.below hb T2_1.out.lt)
        have B3 := Lib.hid (B2.out.trans (hb.mono B2.out.size))
        clear hb
        have c20 := T2_2.out.c0
        have c21 := T2_2.out.c1
        have c22 := T2_2.out.c2
        go_wp2_with fail
        refine (PA.out _).mono ?_
        rintro e w3 ⟨A, n, c, rfl, hn, hnc, hcm, hown, hb⟩
        clear c20 c21 c22
        have T2_3 := Lib.hid (T2_2.out.below hb T2_2.out.lt)
        have B4 := Lib.hid (B3.out.trans (hb.mono B3.out.size))
        clear hb
        have HN := Lib.hid hn
        have HY := Lib.hid (Byt.own hown)
        clear hown hn
        have c20 := T2_3.out.c0
        have c21 := T2_3.out.c1
        have c22 := T2_3.out.c2
        have hk2 : (n : Int) ≤ (k : Int) := by have := HN.out; omega
        go_wp2
        go_ret
        exact ⟨rfl, B4.out⟩
end Go.Proofs.YtgjdeemabbmicaaDoor
