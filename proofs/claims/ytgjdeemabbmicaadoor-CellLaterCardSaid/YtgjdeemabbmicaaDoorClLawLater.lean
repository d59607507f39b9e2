/-
  The law CellLater: for every cell, replica and text it answers true, and nothing that was there is written.
-/
import Derived.Test.YtgjdeemabbmicaaDoorClAwake
import Derived.Test.YtgjdeemabbmicaaDoorClArgs
namespace Go.Proofs.YtgjdeemabbmicaaDoor
open Go.RowKit WM
set_option linter.unusedVariables false
theorem nxt_ok {n r p m q e : Int} (h : nxt n r p = (m, q, e)) (he : e = 0) : may n r = true ∧ may m q = true ∧ n < m ∧ 1 ≤ m := by
  unfold nxt at h
  by_cases h1 : (may n r && mayR p) = true
  · rw [if_pos h1] at h
    obtain ⟨h2, h3⟩ := Bool.and_eq_true_iff.1 h1
    have hm := may_iff.1 h2
    have hp : 0 ≤ p ∧ p < 8 := by simpa [mayR] using h3
    by_cases h4 : n = 1099511627776
    · rw [if_pos h4] at h; simp only [Prod.mk.injEq] at h; omega
    · rw [if_neg h4] at h
      simp only [Prod.mk.injEq] at h
      obtain ⟨rfl, rfl, _⟩ := h
      exact ⟨h2, may_iff.2 (by omega), by omega, by omega⟩
  · rw [if_neg h1] at h; simp only [Prod.mk.injEq] at h; omega
set_option maxHeartbeats 4000000 in
theorem walk_cellLater (c : Cel) (p : Int) (v : ByteArray) (w : World) (hlaid : Laid w) (hc : IsCel c) (hp : (Lit.int .i64 p).wf = true) (hv : v.size ≤ maxLen) :
    Calls Tryd.prog 9 #[c.v, .int .i64 p, .string v] w fun e w' => e = .returned (.bool true) ∧ Below w.heap.size w w' := by
  have LD := Lib.hid (fun (X : World) (hX : Below w.heap.size w X) => hlaid.below hX (Nat.le_refl _))
  have HX := Lib.hid (next_any c.n c.r p)
  obtain ⟨m, q, z, hn⟩ : ∃ m q z, nxt c.n c.r p = (m, q, z) := ⟨_, _, _, rfl⟩
  rw [hn] at HX
  unfold nxtV st at HX
  dsimp only at HX
  unfold Cel.v
  clear hlaid hc hp hv
  by_cases hz : z = 0
  · obtain ⟨h1, h2, h3, h4⟩ := nxt_ok hn hz
    clear hn
    subst hz
    by_cases hv : (v.size : Int) ≤ 200
    · by_cases hs : (c.s.size : Int) ≤ 200
      · have hlt : cless c (⟨m, q, v⟩ : Cel) = true := by simp [cless, stLess_iff.2 (show c.n < m ∨ c.n = m ∧ c.r < q by omega)]
        have hgt : cless (⟨m, q, v⟩ : Cel) c = false := by simp [cless, stLess_iff.2 (show c.n < m ∨ c.n = m ∧ c.r < q by omega), st_no.2 (show ¬ (m < c.n ∨ m = c.n ∧ q < c.r) by omega)]
        have JCD := Lib.hid (fun (w : World) (hl : Laid w) => cjoin_any c (⟨m, q, v⟩ : Cel) w hl (by omega) (show v.size ≤ 300 by omega))
        have JDC := Lib.hid (fun (w : World) (hl : Laid w) => cjoin_any (⟨m, q, v⟩ : Cel) c w hl (show v.size ≤ 300 by omega) (by omega))
        have LCD := Lib.hid (fun (w : World) (hl : Laid w) => cless_any c (⟨m, q, v⟩ : Cel) w hl (by omega) (show v.size ≤ 300 by omega))
        have MD := Lib.hid (cmay_any (⟨m, q, v⟩ : Cel))
        rw [show cjoin c (⟨m, q, v⟩ : Cel) = (⟨m, q, v⟩ : Cel) by rw [cjoin, hlt]; rfl] at JCD
        rw [show cjoin (⟨m, q, v⟩ : Cel) c = (⟨m, q, v⟩ : Cel) by rw [cjoin, hgt]; rfl] at JDC
        rw [hlt] at LCD
        rw [show cmay (⟨m, q, v⟩ : Cel) = true from cmay_iff.2 ⟨h2, h4, show v.size ≤ 200 by omega⟩] at MD
        have EQ := Lib.hid (cl_same (⟨m, q, v⟩ : Cel))
        dsimp only [Cel.v] at JCD JDC LCD MD EQ
        clear hlt hgt h1 h2 h3 h4
        have B0 := Lib.hid (Below.refl w.heap.size w)
        have T3n := ClAt.new w c
        have T3 := Lib.hid (T3n)
        clear T3n
        have B1 := Lib.hid (B0.out.alloc B0.out.size (.cells #[.int .i64 c.n, .int .i64 c.r, .string c.s] 25))
        go_enter Tryd.func9, Tryd.ntmps9
        go_wp2_with fail
        refine (clAwake _ (LD.out _ B1.out)).mono ?_
        rintro e w1 ⟨rfl, hb⟩
        have T3_1 := Lib.hid (T3.out.below hb T3.out.lt)
        have B2 := Lib.hid (B1.out.trans (hb.mono B1.out.size))
        clear hb
        have c30 := T3_1.out.c0
        have c31 := T3_1.out.c1
        have c32 := T3_1.out.c2
        go_wp2_with fail
        refine (HX.out _).mono ?_
        rintro e w2 ⟨rfl, hb⟩
        clear c30 c31 c32
        have T3_2 := Lib.hid (T3_1.out.below hb T3_1.out.lt)
        have B3 := Lib.hid (B2.out.trans (hb.mono B2.out.size))
        clear hb
        have T3_2' := Lib.hid (T3_2.out.old (.cells #[.int .i64 m, .int .i64 q] 23))
        have B4 := Lib.hid (B3.out.alloc B3.out.size (.cells #[.int .i64 m, .int .i64 q] 23))
        have T3_2'' := Lib.hid (T3_2'.out.old (.cells #[.int .i64 m, .int .i64 q, .string v] 25))
        have T10n := ClAt.new (w2.alloc (.cells #[.int .i64 m, .int .i64 q] 23)) (⟨m, q, v⟩ : Cel)
        simp only [World.size_alloc] at T10n
        try dsimp only at T10n
        have T10 := Lib.hid (T10n)
        clear T10n
        have B5 := Lib.hid (B4.out.alloc B4.out.size (.cells #[.int .i64 m, .int .i64 q, .string v] 25))
        have c30 := T3_2''.out.c0
        have c31 := T3_2''.out.c1
        have c32 := T3_2''.out.c2
        go_wp2_with fail
        clear c30 c31 c32
        have LE := Lib.hid (fun (w9 : World) (hS : Below ((w2.alloc (.cells #[.int .i64 m, .int .i64 q] 23)).alloc (.cells #[.int .i64 m, .int .i64 q, .string v] 25)).heap.size ((w2.alloc (.cells #[.int .i64 m, .int .i64 q] 23)).alloc (.cells #[.int .i64 m, .int .i64 q, .string v] 25)) w9) => LD.out w9 (B5.out.trans (hS.mono B5.out.size)))
        refine wp_region_G ((w2.alloc (.cells #[.int .i64 m, .int .i64 q] 23)).alloc (.cells #[.int .i64 m, .int .i64 q, .string v] 25)) (by kernel_rfl) ?_
        refine wpG_take (i := 0) (oi := ⟨some 40, _, _, _, _, _⟩) (v := ?_) rfl (by kernel_rfl) (by kernel_rfl) (by kernel_rfl) (Or.inl ⟨by rfl, unib_val ?_⟩) ?_; rotate_left; (focus (intro w9 hSw; have q9 := T3_2''.out.below hSw T3_2''.out.lt; have q0 := q9.c0; have q1 := q9.c1; have q2 := q9.c2; go_simp; try with_reducible rfl)); simp only [Act.put, List.setIfInBounds_toArray, List.set_cons_zero, List.set_cons_succ]
        refine wpG_take (i := 1) (oi := ⟨some 41, _, _, _, _, _⟩) (v := ?_) rfl (by kernel_rfl) (by kernel_rfl) (by kernel_rfl) (Or.inl ⟨by rfl, unib_val ?_⟩) ?_; rotate_left; (focus (intro w9 hSw; have q9 := T10.out.below hSw T10.out.lt; have q0 := q9.c0; have q1 := q9.c1; have q2 := q9.c2; go_simp; try with_reducible rfl)); simp only [Act.put, List.setIfInBounds_toArray, List.set_cons_zero, List.set_cons_succ]
        refine wpG_take (i := 2) (oi := ⟨some 42, _, _, _, _, _⟩) rfl (by kernel_rfl) (by kernel_rfl) (by kernel_rfl) (Or.inl ⟨by rfl, unib_call_if ?_ (fun w9 hSw => JCD.out w9 (LE.out w9 hSw))⟩) ?_; (focus (intro w9 hSw; go_simp; try with_reducible rfl)); simp only [Act.put, List.setIfInBounds_toArray, List.set_cons_zero, List.set_cons_succ]
        refine wpG_take (i := 3) (oi := ⟨some 43, _, _, _, _, _⟩) (v := ?_) rfl (by kernel_rfl) (by kernel_rfl) (by kernel_rfl) (Or.inl ⟨by rfl, unib_val ?_⟩) ?_; rotate_left; (focus (intro w9 hSw; have q9 := T10.out.below hSw T10.out.lt; have q0 := q9.c0; have q1 := q9.c1; have q2 := q9.c2; go_simp; try with_reducible rfl)); simp only [Act.put, List.setIfInBounds_toArray, List.set_cons_zero, List.set_cons_succ]
        refine wpG_take (i := 4) (oi := ⟨some 44, _, _, _, _, _⟩) (v := ?_) rfl (by kernel_rfl) (by kernel_rfl) (by kernel_rfl) (Or.inl ⟨by rfl, unib_val ?_⟩) ?_; rotate_left; (focus (intro w9 hSw; have q0 := EQ.out w9; go_simp; try with_reducible rfl)); simp only [Act.put, List.setIfInBounds_toArray, List.set_cons_zero, List.set_cons_succ]
        refine wpG_take (i := 5) (oi := ⟨some 45, _, _, _, _, _⟩) (v := ?_) rfl (by kernel_rfl) (by kernel_rfl) (by kernel_rfl) (Or.inl ⟨by rfl, unib_val ?_⟩) ?_; rotate_left; (focus (intro w9 hSw; go_simp; try with_reducible rfl)); simp only [Act.put, List.setIfInBounds_toArray, List.set_cons_zero, List.set_cons_succ]
        refine wpG_take (i := 6) (oi := ⟨some 46, _, _, _, _, _⟩) (v := ?_) rfl (by kernel_rfl) (by kernel_rfl) (by kernel_rfl) (Or.inl ⟨by rfl, unib_val ?_⟩) ?_; rotate_left; (focus (intro w9 hSw; have q9 := T10.out.below hSw T10.out.lt; have q0 := q9.c0; have q1 := q9.c1; have q2 := q9.c2; go_simp; try with_reducible rfl)); simp only [Act.put, List.setIfInBounds_toArray, List.set_cons_zero, List.set_cons_succ]
        refine wpG_take (i := 7) (oi := ⟨some 47, _, _, _, _, _⟩) (v := ?_) rfl (by kernel_rfl) (by kernel_rfl) (by kernel_rfl) (Or.inl ⟨by rfl, unib_val ?_⟩) ?_; rotate_left; (focus (intro w9 hSw; have q9 := T3_2''.out.below hSw T3_2''.out.lt; have q0 := q9.c0; have q1 := q9.c1; have q2 := q9.c2; go_simp; try with_reducible rfl)); simp only [Act.put, List.setIfInBounds_toArray, List.set_cons_zero, List.set_cons_succ]
        refine wpG_take (i := 8) (oi := ⟨some 48, _, _, _, _, _⟩) rfl (by kernel_rfl) (by kernel_rfl) (by kernel_rfl) (Or.inl ⟨by rfl, unib_call_if ?_ (fun w9 hSw => JDC.out w9 (LE.out w9 hSw))⟩) ?_; (focus (intro w9 hSw; go_simp; try with_reducible rfl)); simp only [Act.put, List.setIfInBounds_toArray, List.set_cons_zero, List.set_cons_succ]
        refine wpG_take (i := 9) (oi := ⟨some 49, _, _, _, _, _⟩) (v := ?_) rfl (by kernel_rfl) (by kernel_rfl) (by kernel_rfl) (Or.inl ⟨by rfl, unib_val ?_⟩) ?_; rotate_left; (focus (intro w9 hSw; have q9 := T10.out.below hSw T10.out.lt; have q0 := q9.c0; have q1 := q9.c1; have q2 := q9.c2; go_simp; try with_reducible rfl)); simp only [Act.put, List.setIfInBounds_toArray, List.set_cons_zero, List.set_cons_succ]
        refine wpG_take (i := 10) (oi := ⟨some 50, _, _, _, _, _⟩) (v := ?_) rfl (by kernel_rfl) (by kernel_rfl) (by kernel_rfl) (Or.inl ⟨by rfl, unib_val ?_⟩) ?_; rotate_left; (focus (intro w9 hSw; have q0 := EQ.out w9; go_simp; try with_reducible rfl)); simp only [Act.put, List.setIfInBounds_toArray, List.set_cons_zero, List.set_cons_succ]
        refine wpG_take (i := 11) (oi := ⟨some 51, _, _, _, _, _⟩) (v := ?_) rfl (by kernel_rfl) (by kernel_rfl) (by kernel_rfl) (Or.inl ⟨by rfl, unib_val ?_⟩) ?_; rotate_left; (focus (intro w9 hSw; go_simp; try with_reducible rfl)); simp only [Act.put, List.setIfInBounds_toArray, List.set_cons_zero, List.set_cons_succ]
        refine wpG_take (i := 12) (oi := ⟨some 52, _, _, _, _, _⟩) (v := ?_) rfl (by kernel_rfl) (by kernel_rfl) (by kernel_rfl) (Or.inl ⟨by rfl, unib_val ?_⟩) ?_; rotate_left; (focus (intro w9 hSw; go_simp; try with_reducible rfl)); simp only [Act.put, List.setIfInBounds_toArray, List.set_cons_zero, List.set_cons_succ]
        refine wpG_take (i := 13) (oi := ⟨some 53, _, _, _, _, _⟩) (v := ?_) rfl (by kernel_rfl) (by kernel_rfl) (by kernel_rfl) (Or.inl ⟨by rfl, unib_val ?_⟩) ?_; rotate_left; (focus (intro w9 hSw; have q9 := T3_2''.out.below hSw T3_2''.out.lt; have q0 := q9.c0; have q1 := q9.c1; have q2 := q9.c2; go_simp; try with_reducible rfl)); simp only [Act.put, List.setIfInBounds_toArray, List.set_cons_zero, List.set_cons_succ]
        refine wpG_take (i := 14) (oi := ⟨some 54, _, _, _, _, _⟩) (v := ?_) rfl (by kernel_rfl) (by kernel_rfl) (by kernel_rfl) (Or.inl ⟨by rfl, unib_val ?_⟩) ?_; rotate_left; (focus (intro w9 hSw; have q9 := T10.out.below hSw T10.out.lt; have q0 := q9.c0; have q1 := q9.c1; have q2 := q9.c2; go_simp; try with_reducible rfl)); simp only [Act.put, List.setIfInBounds_toArray, List.set_cons_zero, List.set_cons_succ]
        refine wpG_take (i := 15) (oi := ⟨some 55, _, _, _, _, _⟩) rfl (by kernel_rfl) (by kernel_rfl) (by kernel_rfl) (Or.inl ⟨by rfl, unib_call_if ?_ (fun w9 hSw => LCD.out w9 (LE.out w9 hSw))⟩) ?_; (focus (intro w9 hSw; go_simp; try with_reducible rfl)); simp only [Act.put, List.setIfInBounds_toArray, List.set_cons_zero, List.set_cons_succ]
        refine wpG_take (i := 16) (oi := ⟨some 56, _, _, _, _, _⟩) (v := ?_) rfl (by kernel_rfl) (by kernel_rfl) (by kernel_rfl) (Or.inl ⟨by rfl, unib_val ?_⟩) ?_; rotate_left; (focus (intro w9 hSw; go_simp; try with_reducible rfl)); simp only [Act.put, List.setIfInBounds_toArray, List.set_cons_zero, List.set_cons_succ]
        refine wpG_take (i := 17) (oi := ⟨some 57, _, _, _, _, _⟩) (v := ?_) rfl (by kernel_rfl) (by kernel_rfl) (by kernel_rfl) (Or.inl ⟨by rfl, unib_val ?_⟩) ?_; rotate_left; (focus (intro w9 hSw; go_simp; try with_reducible rfl)); simp only [Act.put, List.setIfInBounds_toArray, List.set_cons_zero, List.set_cons_succ]
        refine wpG_take (i := 18) (oi := ⟨some 58, _, _, _, _, _⟩) (v := ?_) rfl (by kernel_rfl) (by kernel_rfl) (by kernel_rfl) (Or.inl ⟨by rfl, unib_val ?_⟩) ?_; rotate_left; (focus (intro w9 hSw; have q9 := T10.out.below hSw T10.out.lt; have q0 := q9.c0; have q1 := q9.c1; have q2 := q9.c2; go_simp; try with_reducible rfl)); simp only [Act.put, List.setIfInBounds_toArray, List.set_cons_zero, List.set_cons_succ]
        refine wpG_take (i := 19) (oi := ⟨some 59, _, _, _, _, _⟩) rfl (by kernel_rfl) (by kernel_rfl) (by kernel_rfl) (Or.inl ⟨by rfl, unib_call ?_ MD.out⟩) ?_; (focus (intro w9 hSw; go_simp; try with_reducible rfl)); simp only [Act.put, List.setIfInBounds_toArray, List.set_cons_zero, List.set_cons_succ]
        refine wpG_take (i := 20) (oi := ⟨some 60, _, _, _, _, _⟩) (v := ?_) rfl (by kernel_rfl) (by kernel_rfl) (by kernel_rfl) (Or.inl ⟨by rfl, unib_val ?_⟩) ?_; rotate_left; (focus (intro w9 hSw; go_simp; try with_reducible rfl)); simp only [Act.put, List.setIfInBounds_toArray, List.set_cons_zero, List.set_cons_succ]
        refine wpG_take (i := 21) (oi := ⟨some 6, _, _, _, _, _⟩) (v := ?_) rfl (by kernel_rfl) (by kernel_rfl) (by kernel_rfl) (Or.inl ⟨by rfl, unib_val ?_⟩) ?_; rotate_left; (focus (intro w9 hSw; go_simp; try with_reducible rfl)); simp only [Act.put, List.setIfInBounds_toArray, List.set_cons_zero, List.set_cons_succ]
        refine wpG_done (by kernel_rfl) ?_ _
        intro w9 hSw _
        go_wp2
        go_ret
        exact ⟨rfl, B5.out.trans (hSw.mono B5.out.size)⟩
      · clear h1 h2 h3 h4
        have B0 := Lib.hid (Below.refl w.heap.size w)
        have T3n := ClAt.new w c
        have T3 := Lib.hid (T3n)
        clear T3n
        have B1 := Lib.hid (B0.out.alloc B0.out.size (.cells #[.int .i64 c.n, .int .i64 c.r, .string c.s] 25))
        go_enter Tryd.func9, Tryd.ntmps9
        go_wp2_with fail
        refine (clAwake _ (LD.out _ B1.out)).mono ?_
        rintro e w1 ⟨rfl, hb⟩
        have T3_1 := Lib.hid (T3.out.below hb T3.out.lt)
        have B2 := Lib.hid (B1.out.trans (hb.mono B1.out.size))
        clear hb
        have c30 := T3_1.out.c0
        have c31 := T3_1.out.c1
        have c32 := T3_1.out.c2
        go_wp2_with fail
        refine (HX.out _).mono ?_
        rintro e w2 ⟨rfl, hb⟩
        clear c30 c31 c32
        have T3_2 := Lib.hid (T3_1.out.below hb T3_1.out.lt)
        have B3 := Lib.hid (B2.out.trans (hb.mono B2.out.size))
        clear hb
        have T3_2' := Lib.hid (T3_2.out.old (.cells #[.int .i64 m, .int .i64 q] 23))
        have B4 := Lib.hid (B3.out.alloc B3.out.size (.cells #[.int .i64 m, .int .i64 q] 23))
        have T3_2'' := Lib.hid (T3_2'.out.old (.cells #[.int .i64 m, .int .i64 q, .string v] 25))
        have T10n := ClAt.new (w2.alloc (.cells #[.int .i64 m, .int .i64 q] 23)) (⟨m, q, v⟩ : Cel)
        simp only [World.size_alloc] at T10n
        try dsimp only at T10n
        have T10 := Lib.hid (T10n)
        clear T10n
        have B5 := Lib.hid (B4.out.alloc B4.out.size (.cells #[.int .i64 m, .int .i64 q, .string v] 25))
        have c30 := T3_2''.out.c0
        have c31 := T3_2''.out.c1
        have c32 := T3_2''.out.c2
        go_wp2
        go_ret
        exact ⟨rfl, B5.out⟩
    · clear h1 h2 h3 h4
      have B0 := Lib.hid (Below.refl w.heap.size w)
      have T3n := ClAt.new w c
      have T3 := Lib.hid (T3n)
      clear T3n
      have B1 := Lib.hid (B0.out.alloc B0.out.size (.cells #[.int .i64 c.n, .int .i64 c.r, .string c.s] 25))
      go_enter Tryd.func9, Tryd.ntmps9
      go_wp2_with fail
      refine (clAwake _ (LD.out _ B1.out)).mono ?_
      rintro e w1 ⟨rfl, hb⟩
      have T3_1 := Lib.hid (T3.out.below hb T3.out.lt)
      have B2 := Lib.hid (B1.out.trans (hb.mono B1.out.size))
      clear hb
      have c30 := T3_1.out.c0
      have c31 := T3_1.out.c1
      have c32 := T3_1.out.c2
      go_wp2_with fail
      refine (HX.out _).mono ?_
      rintro e w2 ⟨rfl, hb⟩
      clear c30 c31 c32
      have T3_2 := Lib.hid (T3_1.out.below hb T3_1.out.lt)
      have B3 := Lib.hid (B2.out.trans (hb.mono B2.out.size))
      clear hb
      have T3_2' := Lib.hid (T3_2.out.old (.cells #[.int .i64 m, .int .i64 q] 23))
      have B4 := Lib.hid (B3.out.alloc B3.out.size (.cells #[.int .i64 m, .int .i64 q] 23))
      have T3_2'' := Lib.hid (T3_2'.out.old (.cells #[.int .i64 m, .int .i64 q, .string v] 25))
      have T10n := ClAt.new (w2.alloc (.cells #[.int .i64 m, .int .i64 q] 23)) (⟨m, q, v⟩ : Cel)
      simp only [World.size_alloc] at T10n
      try dsimp only at T10n
      have T10 := Lib.hid (T10n)
      clear T10n
      have B5 := Lib.hid (B4.out.alloc B4.out.size (.cells #[.int .i64 m, .int .i64 q, .string v] 25))
      have c30 := T3_2''.out.c0
      have c31 := T3_2''.out.c1
      have c32 := T3_2''.out.c2
      go_wp2
      go_ret
      exact ⟨rfl, B5.out⟩
  · clear hn
    have B0 := Lib.hid (Below.refl w.heap.size w)
    have T3n := ClAt.new w c
    have T3 := Lib.hid (T3n)
    clear T3n
    have B1 := Lib.hid (B0.out.alloc B0.out.size (.cells #[.int .i64 c.n, .int .i64 c.r, .string c.s] 25))
    go_enter Tryd.func9, Tryd.ntmps9
    go_wp2_with fail
    refine (clAwake _ (LD.out _ B1.out)).mono ?_
    rintro e w1 ⟨rfl, hb⟩
    have T3_1 := Lib.hid (T3.out.below hb T3.out.lt)
    have B2 := Lib.hid (B1.out.trans (hb.mono B1.out.size))
    clear hb
    have c30 := T3_1.out.c0
    have c31 := T3_1.out.c1
    have c32 := T3_1.out.c2
    go_wp2_with fail
    refine (HX.out _).mono ?_
    rintro e w2 ⟨rfl, hb⟩
    clear c30 c31 c32
    have T3_2 := Lib.hid (T3_1.out.below hb T3_1.out.lt)
    have B3 := Lib.hid (B2.out.trans (hb.mono B2.out.size))
    clear hb
    have T3_2' := Lib.hid (T3_2.out.old (.cells #[.int .i64 m, .int .i64 q] 23))
    have B4 := Lib.hid (B3.out.alloc B3.out.size (.cells #[.int .i64 m, .int .i64 q] 23))
    have T3_2'' := Lib.hid (T3_2'.out.old (.cells #[.int .i64 m, .int .i64 q, .string v] 25))
    have T10n := ClAt.new (w2.alloc (.cells #[.int .i64 m, .int .i64 q] 23)) (⟨m, q, v⟩ : Cel)
    simp only [World.size_alloc] at T10n
    try dsimp only at T10n
    have T10 := Lib.hid (T10n)
    clear T10n
    have B5 := Lib.hid (B4.out.alloc B4.out.size (.cells #[.int .i64 m, .int .i64 q, .string v] 25))
    have c30 := T3_2''.out.c0
    have c31 := T3_2''.out.c1
    have c32 := T3_2''.out.c2
    go_wp2
    go_ret
    exact ⟨rfl, B5.out⟩
end Go.Proofs.YtgjdeemabbmicaaDoor
