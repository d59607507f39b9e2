/-
  What cell.lessBy answers at what cell.orders gives, and cell.Less, and cell.Join. Nothing that was there is written.
-/
import Derived.Test.YtonbhcbkelmhgaaDoorClLess
namespace Go.Proofs.YtonbhcbkelmhgaaDoor
open Go.RowKit WM
set_option linter.unusedVariables false
/-- One cell is less than another one: by its stamp, its value's digest, its value. -/
def cless (a b : Cel) : Bool := if stLess a.n a.r b.n b.r then true else if stLess b.n b.r a.n a.r then false else if lessL (SH.sum (nums a.s)) (SH.sum (nums b.s)) then true else if lessL (SH.sum (nums b.s)) (SH.sum (nums a.s)) then false else lessL (nums a.s) (nums b.s)
theorem ixOrd0 (w : World) : (Instr.index 66 ordV (.int .i64 0)).run Tryd.prog w = .ok (.func (.func 65) #[] #[]) w := by
  simp [Instr.index, ordV, run_underlying Tryd.underlying66, asIntOf, go_sem, part]
theorem ixOrd1 (w : World) : (Instr.index 66 ordV (.int .i64 1)).run Tryd.prog w = .ok (.func (.func 66) #[] #[]) w := by
  simp [Instr.index, ordV, run_underlying Tryd.underlying66, asIntOf, go_sem, part]
theorem ixOrd2 (w : World) : (Instr.index 66 ordV (.int .i64 2)).run Tryd.prog w = .ok (.func (.func 69) #[] #[]) w := by
  simp [Instr.index, ordV, run_underlying Tryd.underlying66, asIntOf, go_sem, part]
set_option maxHeartbeats 4000000 in
theorem lessBy_any (a b : Cel) (w : World) (hlaid : Laid w) (ha : a.s.size ≤ 300) (hb : b.s.size ≤ 300) : Calls Tryd.prog 49 #[ordV, a.v, b.v] w fun e w' => e = .returned (.bool (cless a b)) ∧ Below w.heap.size w w' := by
  have S4 := Lib.hid (((ClAt.new (w.alloc (.cells ordC 66)) a)).old (.cells #[.int .i64 b.n, .int .i64 b.r, .string b.s] 25))
  have s5 := ClAt.new ((w.alloc (.cells ordC 66)).alloc (.cells #[.int .i64 a.n, .int .i64 a.r, .string a.s] 25)) b
  have hs4 : (w.alloc (.cells ordC 66)).heap.size = w.heap.size + 1 := World.size_alloc _ _
  have hs5 : ((w.alloc (.cells ordC 66)).alloc (.cells #[.int .i64 a.n, .int .i64 a.r, .string a.s] 25)).heap.size = w.heap.size + 1 + 1 := by rw [World.size_alloc, World.size_alloc]
  rw [hs4] at S4
  rw [hs5] at s5
  have S5 := Lib.hid s5
  have hB : Below w.heap.size w (((w.alloc (.cells ordC 66)).alloc (.cells #[.int .i64 a.n, .int .i64 a.r, .string a.s] 25)).alloc (.cells #[.int .i64 b.n, .int .i64 b.r, .string b.s] 25)) := (((Below.refl w.heap.size w).alloc (Nat.le_refl _) (.cells ordC 66)).alloc (by simp) (.cells #[.int .i64 a.n, .int .i64 a.r, .string a.s] 25)).alloc (by simp; omega) (.cells #[.int .i64 b.n, .int .i64 b.r, .string b.s] 25)
  have B0 := Lib.hid hB
  have O1 := Lib.hid (ord1_any a b)
  have O1' := Lib.hid (ord1_any b a)
  have O2 := Lib.hid (fun (X : World) (hX : Below w.heap.size w X) => ord2_any a b X (hlaid.below hX (Nat.le_refl _)) ha hb)
  have O2' := Lib.hid (fun (X : World) (hX : Below w.heap.size w X) => ord2_any b a X (hlaid.below hX (Nat.le_refl _)) hb ha)
  have O3 := Lib.hid (ord3_any a b)
  have O3' := Lib.hid (ord3_any b a)
  have HV : cless a b = cless a b := rfl
  conv at HV => rhs; unfold cless
  generalize stLess a.n a.r b.n b.r = L1 at *
  generalize stLess b.n b.r a.n a.r = L1' at *
  generalize lessL (SH.sum (nums a.s)) (SH.sum (nums b.s)) = L2 at *
  generalize lessL (SH.sum (nums b.s)) (SH.sum (nums a.s)) = L2' at *
  generalize lessL (nums a.s) (nums b.s) = L3 at *
  generalize lessL (nums b.s) (nums a.s) = L3' at *
  unfold Cel.v at O1 O1' O2 O2' O3 O3' ⊢
  unfold ordC at S4 S5 B0
  unfold ordV
  clear s5 hs4 hs5 hB hlaid
  have i0 := ixOrd0
  have i1 := ixOrd1
  have i2 := ixOrd2
  unfold ordV at i0 i1 i2
  cases L1
  · simp only [Bool.false_eq_true, if_false] at HV
    cases L1'
    · simp only [Bool.false_eq_true, if_false] at HV
      cases L2
      · simp only [Bool.false_eq_true, if_false] at HV
        cases L2'
        · simp only [Bool.false_eq_true, if_false] at HV
          cases L3
          · skip
            cases L3'
            · skip
              have HV := Lib.hid HV
              go_enter Tryd.func49, Tryd.ntmps49
              go_wp2
              refine wp_loop_rounds 4 ?_
              rw [rounds_succ]; go_wp2_with fail
              refine (O1.out _).mono ?_
              rintro e w1 ⟨rfl, hb⟩
              have S4 := Lib.hid (S4.out.below hb S4.out.lt)
              have S5 := Lib.hid (S5.out.below hb S5.out.lt)
              have B1 := Lib.hid (B0.out.trans (hb.mono B0.out.size))
              have a0 := S4.out.c0
              have a1 := S4.out.c1
              have a2 := S4.out.c2
              have b0 := S5.out.c0
              have b1 := S5.out.c1
              have b2 := S5.out.c2
              clear hb
              go_wp2_with fail
              refine (O1'.out _).mono ?_
              rintro e w2 ⟨rfl, hb⟩
              have S4 := Lib.hid (S4.out.below hb S4.out.lt)
              have S5 := Lib.hid (S5.out.below hb S5.out.lt)
              have B2 := Lib.hid (B1.out.trans (hb.mono B1.out.size))
              clear a0 a1 a2 b0 b1 b2
              have a0 := S4.out.c0
              have a1 := S4.out.c1
              have a2 := S4.out.c2
              have b0 := S5.out.c0
              have b1 := S5.out.c1
              have b2 := S5.out.c2
              clear hb
              go_wp2_with fail
              rw [rounds_succ]; go_wp2_with fail
              refine (O2.out _ B2.out).mono ?_
              rintro e w3 ⟨rfl, hb⟩
              have S4 := Lib.hid (S4.out.below hb S4.out.lt)
              have S5 := Lib.hid (S5.out.below hb S5.out.lt)
              have B3 := Lib.hid (B2.out.trans (hb.mono B2.out.size))
              clear a0 a1 a2 b0 b1 b2
              have a0 := S4.out.c0
              have a1 := S4.out.c1
              have a2 := S4.out.c2
              have b0 := S5.out.c0
              have b1 := S5.out.c1
              have b2 := S5.out.c2
              clear hb
              go_wp2_with fail
              refine (O2'.out _ B3.out).mono ?_
              rintro e w4 ⟨rfl, hb⟩
              have S4 := Lib.hid (S4.out.below hb S4.out.lt)
              have S5 := Lib.hid (S5.out.below hb S5.out.lt)
              have B4 := Lib.hid (B3.out.trans (hb.mono B3.out.size))
              clear a0 a1 a2 b0 b1 b2
              have a0 := S4.out.c0
              have a1 := S4.out.c1
              have a2 := S4.out.c2
              have b0 := S5.out.c0
              have b1 := S5.out.c1
              have b2 := S5.out.c2
              clear hb
              go_wp2_with fail
              rw [rounds_succ]; go_wp2_with fail
              refine (O3.out _).mono ?_
              rintro e w5 ⟨rfl, hb⟩
              have S4 := Lib.hid (S4.out.below hb S4.out.lt)
              have S5 := Lib.hid (S5.out.below hb S5.out.lt)
              have B5 := Lib.hid (B4.out.trans (hb.mono B4.out.size))
              clear a0 a1 a2 b0 b1 b2
              have a0 := S4.out.c0
              have a1 := S4.out.c1
              have a2 := S4.out.c2
              have b0 := S5.out.c0
              have b1 := S5.out.c1
              have b2 := S5.out.c2
              clear hb
              go_wp2_with fail
              refine (O3'.out _).mono ?_
              rintro e w6 ⟨rfl, hb⟩
              have S4 := Lib.hid (S4.out.below hb S4.out.lt)
              have S5 := Lib.hid (S5.out.below hb S5.out.lt)
              have B6 := Lib.hid (B5.out.trans (hb.mono B5.out.size))
              clear a0 a1 a2 b0 b1 b2
              have a0 := S4.out.c0
              have a1 := S4.out.c1
              have a2 := S4.out.c2
              have b0 := S5.out.c0
              have b1 := S5.out.c1
              have b2 := S5.out.c2
              clear hb
              go_wp2_with fail
              rw [rounds_succ]; go_wp2_with fail
              go_ret
              exact ⟨by rw [HV.out]; rfl, B6.out⟩
            · skip
              have HV := Lib.hid HV
              go_enter Tryd.func49, Tryd.ntmps49
              go_wp2
              refine wp_loop_rounds 4 ?_
              rw [rounds_succ]; go_wp2_with fail
              refine (O1.out _).mono ?_
              rintro e w1 ⟨rfl, hb⟩
              have S4 := Lib.hid (S4.out.below hb S4.out.lt)
              have S5 := Lib.hid (S5.out.below hb S5.out.lt)
              have B1 := Lib.hid (B0.out.trans (hb.mono B0.out.size))
              have a0 := S4.out.c0
              have a1 := S4.out.c1
              have a2 := S4.out.c2
              have b0 := S5.out.c0
              have b1 := S5.out.c1
              have b2 := S5.out.c2
              clear hb
              go_wp2_with fail
              refine (O1'.out _).mono ?_
              rintro e w2 ⟨rfl, hb⟩
              have S4 := Lib.hid (S4.out.below hb S4.out.lt)
              have S5 := Lib.hid (S5.out.below hb S5.out.lt)
              have B2 := Lib.hid (B1.out.trans (hb.mono B1.out.size))
              clear a0 a1 a2 b0 b1 b2
              have a0 := S4.out.c0
              have a1 := S4.out.c1
              have a2 := S4.out.c2
              have b0 := S5.out.c0
              have b1 := S5.out.c1
              have b2 := S5.out.c2
              clear hb
              go_wp2_with fail
              rw [rounds_succ]; go_wp2_with fail
              refine (O2.out _ B2.out).mono ?_
              rintro e w3 ⟨rfl, hb⟩
              have S4 := Lib.hid (S4.out.below hb S4.out.lt)
              have S5 := Lib.hid (S5.out.below hb S5.out.lt)
              have B3 := Lib.hid (B2.out.trans (hb.mono B2.out.size))
              clear a0 a1 a2 b0 b1 b2
              have a0 := S4.out.c0
              have a1 := S4.out.c1
              have a2 := S4.out.c2
              have b0 := S5.out.c0
              have b1 := S5.out.c1
              have b2 := S5.out.c2
              clear hb
              go_wp2_with fail
              refine (O2'.out _ B3.out).mono ?_
              rintro e w4 ⟨rfl, hb⟩
              have S4 := Lib.hid (S4.out.below hb S4.out.lt)
              have S5 := Lib.hid (S5.out.below hb S5.out.lt)
              have B4 := Lib.hid (B3.out.trans (hb.mono B3.out.size))
              clear a0 a1 a2 b0 b1 b2
              have a0 := S4.out.c0
              have a1 := S4.out.c1
              have a2 := S4.out.c2
              have b0 := S5.out.c0
              have b1 := S5.out.c1
              have b2 := S5.out.c2
              clear hb
              go_wp2_with fail
              rw [rounds_succ]; go_wp2_with fail
              refine (O3.out _).mono ?_
              rintro e w5 ⟨rfl, hb⟩
              have S4 := Lib.hid (S4.out.below hb S4.out.lt)
              have S5 := Lib.hid (S5.out.below hb S5.out.lt)
              have B5 := Lib.hid (B4.out.trans (hb.mono B4.out.size))
              clear a0 a1 a2 b0 b1 b2
              have a0 := S4.out.c0
              have a1 := S4.out.c1
              have a2 := S4.out.c2
              have b0 := S5.out.c0
              have b1 := S5.out.c1
              have b2 := S5.out.c2
              clear hb
              go_wp2_with fail
              refine (O3'.out _).mono ?_
              rintro e w6 ⟨rfl, hb⟩
              have S4 := Lib.hid (S4.out.below hb S4.out.lt)
              have S5 := Lib.hid (S5.out.below hb S5.out.lt)
              have B6 := Lib.hid (B5.out.trans (hb.mono B5.out.size))
              clear a0 a1 a2 b0 b1 b2
              have a0 := S4.out.c0
              have a1 := S4.out.c1
              have a2 := S4.out.c2
              have b0 := S5.out.c0
              have b1 := S5.out.c1
              have b2 := S5.out.c2
              clear hb
              go_wp2
              go_ret
              exact ⟨by rw [HV.out]; rfl, B6.out⟩
          · skip
            have HV := Lib.hid HV
            go_enter Tryd.func49, Tryd.ntmps49
            go_wp2
            refine wp_loop_rounds 4 ?_
            rw [rounds_succ]; go_wp2_with fail
            refine (O1.out _).mono ?_
            rintro e w1 ⟨rfl, hb⟩
            have S4 := Lib.hid (S4.out.below hb S4.out.lt)
            have S5 := Lib.hid (S5.out.below hb S5.out.lt)
            have B1 := Lib.hid (B0.out.trans (hb.mono B0.out.size))
            have a0 := S4.out.c0
            have a1 := S4.out.c1
            have a2 := S4.out.c2
            have b0 := S5.out.c0
            have b1 := S5.out.c1
            have b2 := S5.out.c2
            clear hb
            go_wp2_with fail
            refine (O1'.out _).mono ?_
            rintro e w2 ⟨rfl, hb⟩
            have S4 := Lib.hid (S4.out.below hb S4.out.lt)
            have S5 := Lib.hid (S5.out.below hb S5.out.lt)
            have B2 := Lib.hid (B1.out.trans (hb.mono B1.out.size))
            clear a0 a1 a2 b0 b1 b2
            have a0 := S4.out.c0
            have a1 := S4.out.c1
            have a2 := S4.out.c2
            have b0 := S5.out.c0
            have b1 := S5.out.c1
            have b2 := S5.out.c2
            clear hb
            go_wp2_with fail
            rw [rounds_succ]; go_wp2_with fail
            refine (O2.out _ B2.out).mono ?_
            rintro e w3 ⟨rfl, hb⟩
            have S4 := Lib.hid (S4.out.below hb S4.out.lt)
            have S5 := Lib.hid (S5.out.below hb S5.out.lt)
            have B3 := Lib.hid (B2.out.trans (hb.mono B2.out.size))
            clear a0 a1 a2 b0 b1 b2
            have a0 := S4.out.c0
            have a1 := S4.out.c1
            have a2 := S4.out.c2
            have b0 := S5.out.c0
            have b1 := S5.out.c1
            have b2 := S5.out.c2
            clear hb
            go_wp2_with fail
            refine (O2'.out _ B3.out).mono ?_
            rintro e w4 ⟨rfl, hb⟩
            have S4 := Lib.hid (S4.out.below hb S4.out.lt)
            have S5 := Lib.hid (S5.out.below hb S5.out.lt)
            have B4 := Lib.hid (B3.out.trans (hb.mono B3.out.size))
            clear a0 a1 a2 b0 b1 b2
            have a0 := S4.out.c0
            have a1 := S4.out.c1
            have a2 := S4.out.c2
            have b0 := S5.out.c0
            have b1 := S5.out.c1
            have b2 := S5.out.c2
            clear hb
            go_wp2_with fail
            rw [rounds_succ]; go_wp2_with fail
            refine (O3.out _).mono ?_
            rintro e w5 ⟨rfl, hb⟩
            have S4 := Lib.hid (S4.out.below hb S4.out.lt)
            have S5 := Lib.hid (S5.out.below hb S5.out.lt)
            have B5 := Lib.hid (B4.out.trans (hb.mono B4.out.size))
            clear a0 a1 a2 b0 b1 b2
            have a0 := S4.out.c0
            have a1 := S4.out.c1
            have a2 := S4.out.c2
            have b0 := S5.out.c0
            have b1 := S5.out.c1
            have b2 := S5.out.c2
            clear hb
            go_wp2
            go_ret
            exact ⟨by rw [HV.out]; rfl, B5.out⟩
        · simp only [if_true] at HV
          have HV := Lib.hid HV
          go_enter Tryd.func49, Tryd.ntmps49
          go_wp2
          refine wp_loop_rounds 4 ?_
          rw [rounds_succ]; go_wp2_with fail
          refine (O1.out _).mono ?_
          rintro e w1 ⟨rfl, hb⟩
          have S4 := Lib.hid (S4.out.below hb S4.out.lt)
          have S5 := Lib.hid (S5.out.below hb S5.out.lt)
          have B1 := Lib.hid (B0.out.trans (hb.mono B0.out.size))
          have a0 := S4.out.c0
          have a1 := S4.out.c1
          have a2 := S4.out.c2
          have b0 := S5.out.c0
          have b1 := S5.out.c1
          have b2 := S5.out.c2
          clear hb
          go_wp2_with fail
          refine (O1'.out _).mono ?_
          rintro e w2 ⟨rfl, hb⟩
          have S4 := Lib.hid (S4.out.below hb S4.out.lt)
          have S5 := Lib.hid (S5.out.below hb S5.out.lt)
          have B2 := Lib.hid (B1.out.trans (hb.mono B1.out.size))
          clear a0 a1 a2 b0 b1 b2
          have a0 := S4.out.c0
          have a1 := S4.out.c1
          have a2 := S4.out.c2
          have b0 := S5.out.c0
          have b1 := S5.out.c1
          have b2 := S5.out.c2
          clear hb
          go_wp2_with fail
          rw [rounds_succ]; go_wp2_with fail
          refine (O2.out _ B2.out).mono ?_
          rintro e w3 ⟨rfl, hb⟩
          have S4 := Lib.hid (S4.out.below hb S4.out.lt)
          have S5 := Lib.hid (S5.out.below hb S5.out.lt)
          have B3 := Lib.hid (B2.out.trans (hb.mono B2.out.size))
          clear a0 a1 a2 b0 b1 b2
          have a0 := S4.out.c0
          have a1 := S4.out.c1
          have a2 := S4.out.c2
          have b0 := S5.out.c0
          have b1 := S5.out.c1
          have b2 := S5.out.c2
          clear hb
          go_wp2_with fail
          refine (O2'.out _ B3.out).mono ?_
          rintro e w4 ⟨rfl, hb⟩
          have S4 := Lib.hid (S4.out.below hb S4.out.lt)
          have S5 := Lib.hid (S5.out.below hb S5.out.lt)
          have B4 := Lib.hid (B3.out.trans (hb.mono B3.out.size))
          clear a0 a1 a2 b0 b1 b2
          have a0 := S4.out.c0
          have a1 := S4.out.c1
          have a2 := S4.out.c2
          have b0 := S5.out.c0
          have b1 := S5.out.c1
          have b2 := S5.out.c2
          clear hb
          go_wp2
          go_ret
          exact ⟨by rw [HV.out]; rfl, B4.out⟩
      · simp only [if_true] at HV
        have HV := Lib.hid HV
        go_enter Tryd.func49, Tryd.ntmps49
        go_wp2
        refine wp_loop_rounds 4 ?_
        rw [rounds_succ]; go_wp2_with fail
        refine (O1.out _).mono ?_
        rintro e w1 ⟨rfl, hb⟩
        have S4 := Lib.hid (S4.out.below hb S4.out.lt)
        have S5 := Lib.hid (S5.out.below hb S5.out.lt)
        have B1 := Lib.hid (B0.out.trans (hb.mono B0.out.size))
        have a0 := S4.out.c0
        have a1 := S4.out.c1
        have a2 := S4.out.c2
        have b0 := S5.out.c0
        have b1 := S5.out.c1
        have b2 := S5.out.c2
        clear hb
        go_wp2_with fail
        refine (O1'.out _).mono ?_
        rintro e w2 ⟨rfl, hb⟩
        have S4 := Lib.hid (S4.out.below hb S4.out.lt)
        have S5 := Lib.hid (S5.out.below hb S5.out.lt)
        have B2 := Lib.hid (B1.out.trans (hb.mono B1.out.size))
        clear a0 a1 a2 b0 b1 b2
        have a0 := S4.out.c0
        have a1 := S4.out.c1
        have a2 := S4.out.c2
        have b0 := S5.out.c0
        have b1 := S5.out.c1
        have b2 := S5.out.c2
        clear hb
        go_wp2_with fail
        rw [rounds_succ]; go_wp2_with fail
        refine (O2.out _ B2.out).mono ?_
        rintro e w3 ⟨rfl, hb⟩
        have S4 := Lib.hid (S4.out.below hb S4.out.lt)
        have S5 := Lib.hid (S5.out.below hb S5.out.lt)
        have B3 := Lib.hid (B2.out.trans (hb.mono B2.out.size))
        clear a0 a1 a2 b0 b1 b2
        have a0 := S4.out.c0
        have a1 := S4.out.c1
        have a2 := S4.out.c2
        have b0 := S5.out.c0
        have b1 := S5.out.c1
        have b2 := S5.out.c2
        clear hb
        go_wp2
        go_ret
        exact ⟨by rw [HV.out]; rfl, B3.out⟩
    · simp only [if_true] at HV
      have HV := Lib.hid HV
      go_enter Tryd.func49, Tryd.ntmps49
      go_wp2
      refine wp_loop_rounds 4 ?_
      rw [rounds_succ]; go_wp2_with fail
      refine (O1.out _).mono ?_
      rintro e w1 ⟨rfl, hb⟩
      have S4 := Lib.hid (S4.out.below hb S4.out.lt)
      have S5 := Lib.hid (S5.out.below hb S5.out.lt)
      have B1 := Lib.hid (B0.out.trans (hb.mono B0.out.size))
      have a0 := S4.out.c0
      have a1 := S4.out.c1
      have a2 := S4.out.c2
      have b0 := S5.out.c0
      have b1 := S5.out.c1
      have b2 := S5.out.c2
      clear hb
      go_wp2_with fail
      refine (O1'.out _).mono ?_
      rintro e w2 ⟨rfl, hb⟩
      have S4 := Lib.hid (S4.out.below hb S4.out.lt)
      have S5 := Lib.hid (S5.out.below hb S5.out.lt)
      have B2 := Lib.hid (B1.out.trans (hb.mono B1.out.size))
      clear a0 a1 a2 b0 b1 b2
      have a0 := S4.out.c0
      have a1 := S4.out.c1
      have a2 := S4.out.c2
      have b0 := S5.out.c0
      have b1 := S5.out.c1
      have b2 := S5.out.c2
      clear hb
      go_wp2
      go_ret
      exact ⟨by rw [HV.out]; rfl, B2.out⟩
  · simp only [if_true] at HV
    have HV := Lib.hid HV
    go_enter Tryd.func49, Tryd.ntmps49
    go_wp2
    refine wp_loop_rounds 4 ?_
    rw [rounds_succ]; go_wp2_with fail
    refine (O1.out _).mono ?_
    rintro e w1 ⟨rfl, hb⟩
    have S4 := Lib.hid (S4.out.below hb S4.out.lt)
    have S5 := Lib.hid (S5.out.below hb S5.out.lt)
    have B1 := Lib.hid (B0.out.trans (hb.mono B0.out.size))
    have a0 := S4.out.c0
    have a1 := S4.out.c1
    have a2 := S4.out.c2
    have b0 := S5.out.c0
    have b1 := S5.out.c1
    have b2 := S5.out.c2
    clear hb
    go_wp2
    go_ret
    exact ⟨by rw [HV.out]; rfl, B1.out⟩
end Go.Proofs.YtonbhcbkelmhgaaDoor
