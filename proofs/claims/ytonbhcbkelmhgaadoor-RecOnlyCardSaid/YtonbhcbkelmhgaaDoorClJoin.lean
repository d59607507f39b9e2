/-
  What cell.Less and cell.Join answer. Nothing that was there is written.
-/
import Derived.Test.YtonbhcbkelmhgaaDoorClBy
namespace Go.Proofs.YtonbhcbkelmhgaaDoor
open Go.RowKit WM
set_option linter.unusedVariables false
theorem stLess_self (n r : Int) : stLess n r n r = false := by rw [st_no]; omega
theorem cless_self (a : Cel) : cless a a = false := by simp [cless, stLess_self, lessL_self]
set_option maxHeartbeats 1000000 in
theorem cless_any (a b : Cel) (w : World) (hlaid : Laid w) (ha : a.s.size ≤ 300) (hb : b.s.size ≤ 300) : Calls Tryd.prog 21 #[a.v, b.v] w fun e w' => e = .returned (.bool (cless a b)) ∧ Below w.heap.size w w' := by
  by_cases he : a = b
  · subst he
    have HE := cl_same a
    have HB := Lib.hid (((Below.refl w.heap.size w).alloc (Nat.le_refl _) (.cells #[.int .i64 a.n, .int .i64 a.r, .string a.s] 25)).alloc (by simp) (.cells #[.int .i64 a.n, .int .i64 a.r, .string a.s] 25))
    have HV := Lib.hid (cless_self a)
    unfold Cel.v
    clear hlaid
    go_enter Tryd.func21, Tryd.ntmps21
    go_wp2
    go_ret
    exact ⟨by rw [HV.out]; rfl, HB.out⟩
  · have HE := cl_ne he
    have S0 := Lib.hid ((ClAt.new w a).old (.cells #[.int .i64 b.n, .int .i64 b.r, .string b.s] 25))
    have s1 := ClAt.new (w.alloc (.cells #[.int .i64 a.n, .int .i64 a.r, .string a.s] 25)) b
    rw [World.size_alloc] at s1
    have S1 := Lib.hid s1
    have hB := (((Below.refl w.heap.size w).alloc (Nat.le_refl _) (.cells #[.int .i64 a.n, .int .i64 a.r, .string a.s] 25)).alloc (by simp) (.cells #[.int .i64 b.n, .int .i64 b.r, .string b.s] 25))
    have HB := Lib.hid hB
    have HO := Lib.hid orders_any
    have HL := Lib.hid (fun (X : World) (hX : Below ((w.alloc (.cells #[.int .i64 a.n, .int .i64 a.r, .string a.s] 25)).alloc (.cells #[.int .i64 b.n, .int .i64 b.r, .string b.s] 25)).heap.size ((w.alloc (.cells #[.int .i64 a.n, .int .i64 a.r, .string a.s] 25)).alloc (.cells #[.int .i64 b.n, .int .i64 b.r, .string b.s] 25)) X) => lessBy_any a b X (hlaid.below (hB.trans (hX.mono hB.size)) (Nat.le_refl _)) ha hb)
    clear s1 hB hlaid he
    unfold Cel.v at HL ⊢
    go_enter Tryd.func21, Tryd.ntmps21
    go_wp2_with fail
    refine wp_region_G ((w.alloc (.cells #[.int .i64 a.n, .int .i64 a.r, .string a.s] 25)).alloc (.cells #[.int .i64 b.n, .int .i64 b.r, .string b.s] 25)) (by kernel_rfl) ?_
    refine wpG_take (i := 0) (oi := ⟨some 8, _, _, _, _, _⟩) rfl (by kernel_rfl) (by kernel_rfl) (by kernel_rfl) (Or.inl ⟨by rfl, unib_call ?_ HO.out⟩) ?_; (focus (intro w9 hSw; go_simp; try with_reducible rfl)); simp only [Act.put, List.setIfInBounds_toArray, List.set_cons_zero, List.set_cons_succ]
    refine wpG_take (i := 1) (oi := ⟨some 9, _, _, _, _, _⟩) (v := ?_) rfl (by kernel_rfl) (by kernel_rfl) (by kernel_rfl) (Or.inl ⟨by rfl, unib_val ?_⟩) ?_; rotate_left; (focus (intro w9 hSw; have q9 := S0.out.below hSw S0.out.lt; have q0 := q9.c0; have q1 := q9.c1; have q2 := q9.c2; go_simp; try with_reducible rfl)); simp only [Act.put, List.setIfInBounds_toArray, List.set_cons_zero, List.set_cons_succ]
    refine wpG_take (i := 2) (oi := ⟨some 10, _, _, _, _, _⟩) (v := ?_) rfl (by kernel_rfl) (by kernel_rfl) (by kernel_rfl) (Or.inl ⟨by rfl, unib_val ?_⟩) ?_; rotate_left; (focus (intro w9 hSw; have q9 := S1.out.below hSw S1.out.lt; have q0 := q9.c0; have q1 := q9.c1; have q2 := q9.c2; go_simp; try with_reducible rfl)); simp only [Act.put, List.setIfInBounds_toArray, List.set_cons_zero, List.set_cons_succ]
    refine wpG_take (i := 3) (oi := ⟨some 11, _, _, _, _, _⟩) rfl (by kernel_rfl) (by kernel_rfl) (by kernel_rfl) (Or.inl ⟨by rfl, unib_call_if ?_ (fun w9 hSw => HL.out w9 hSw)⟩) ?_; (focus (intro w9 hSw; go_simp; try with_reducible rfl)); simp only [Act.put, List.setIfInBounds_toArray, List.set_cons_zero, List.set_cons_succ]
    refine wpG_take (i := 4) (oi := ⟨some 4, _, _, _, _, _⟩) (v := ?_) rfl (by kernel_rfl) (by kernel_rfl) (by kernel_rfl) (Or.inl ⟨by rfl, unib_val ?_⟩) ?_; rotate_left; (focus (intro w9 hSw; go_simp; try with_reducible rfl)); simp only [Act.put, List.setIfInBounds_toArray, List.set_cons_zero, List.set_cons_succ]
    refine wpG_done (by kernel_rfl) ?_ _
    intro w9 hSw _
    go_wp2
    go_ret
    exact ⟨rfl, HB.out.trans (hSw.mono HB.out.size)⟩
/-- The greater one of two cells. -/
def cjoin (a b : Cel) : Cel := if cless a b then b else a
theorem cjoin_size {a b : Cel} {k : Nat} (ha : a.s.size ≤ k) (hb : b.s.size ≤ k) : (cjoin a b).s.size ≤ k := by unfold cjoin; split <;> assumption
set_option maxHeartbeats 1000000 in
theorem cjoin_any (a b : Cel) (w : World) (hlaid : Laid w) (ha : a.s.size ≤ 300) (hb : b.s.size ≤ 300) : Calls Tryd.prog 23 #[a.v, b.v] w fun e w' => e = .returned (cjoin a b).v ∧ Below w.heap.size w w' := by
  have S0 := Lib.hid (((ClAt.new w a).old (.cells #[.int .i64 b.n, .int .i64 b.r, .string b.s] 25)).old (.cells #[.int .i64 0, .int .i64 0, .string ⟨#[]⟩] 25))
  have s1 := (ClAt.new (w.alloc (.cells #[.int .i64 a.n, .int .i64 a.r, .string a.s] 25)) b).old (.cells #[.int .i64 0, .int .i64 0, .string ⟨#[]⟩] 25)
  rw [World.size_alloc] at s1
  have S1 := Lib.hid s1
  have s2 := ClAt.new ((w.alloc (.cells #[.int .i64 a.n, .int .i64 a.r, .string a.s] 25)).alloc (.cells #[.int .i64 b.n, .int .i64 b.r, .string b.s] 25)) ⟨0, 0, ⟨#[]⟩⟩
  rw [World.size_alloc, World.size_alloc] at s2
  have S2 := Lib.hid s2
  have hB := (((Below.refl w.heap.size w).alloc (Nat.le_refl _) (.cells #[.int .i64 a.n, .int .i64 a.r, .string a.s] 25)).alloc (by simp) (.cells #[.int .i64 b.n, .int .i64 b.r, .string b.s] 25)).alloc (by simp; omega) (.cells #[.int .i64 0, .int .i64 0, .string ⟨#[]⟩] 25)
  have B0 := Lib.hid hB
  have HL := Lib.hid (fun (X : World) (hX : Below w.heap.size w X) => cless_any a b X (hlaid.below hX (Nat.le_refl _)) ha hb)
  conv => congr; rfl; rfl; (unfold Cel.v)
  clear s1 s2 hB hlaid
  cases hl : cless a b
  · rw [hl] at HL
    have HV := Lib.hid (show cjoin a b = a by simp [cjoin, hl])
    clear hl
    unfold Cel.v at HL
    go_enter Tryd.func23, Tryd.ntmps23
    go_wp2_with fail
    refine (HL.out _ B0.out).mono ?_
    rintro e w1 ⟨rfl, hb1⟩
    have s0 := S0.out.below hb1 S0.out.lt
    have s1 := S1.out.below hb1 S1.out.lt
    have s2 := S2.out.below hb1 S2.out.lt
    have bw := B0.out.trans (hb1.mono B0.out.size)
    have a0 := s0.c0
    have a1 := s0.c1
    have a2 := s0.c2
    have b0 := s1.c0
    have b1 := s1.c1
    have b2 := s1.c2
    have c0 := s2.c0
    have c1 := s2.c1
    have c2 := s2.c2
    have f0 := s2.fz 0
    have f1 := s2.fz 1
    have f2 := s2.fz 2
    have S9 := Lib.hid (s2.put a)
    have B9 := Lib.hid (below_put3 bw (show w.heap.size ≤ w.heap.size + 1 + 1 by omega) (.int .i64 a.n) (.int .i64 a.r) (.string a.s))
    clear s0 s1 s2 hb1 bw
    go_wp2
    refine bodyPost_ret (v := a.v) ?_ rfl ⟨by rw [HV.out], ?_⟩
    · exact res_cl Tryd.results23 rfl S9.out
    · exact B9.out
  · rw [hl] at HL
    have HV := Lib.hid (show cjoin a b = b by simp [cjoin, hl])
    clear hl
    unfold Cel.v at HL
    go_enter Tryd.func23, Tryd.ntmps23
    go_wp2_with fail
    refine (HL.out _ B0.out).mono ?_
    rintro e w1 ⟨rfl, hb1⟩
    have s0 := S0.out.below hb1 S0.out.lt
    have s1 := S1.out.below hb1 S1.out.lt
    have s2 := S2.out.below hb1 S2.out.lt
    have bw := B0.out.trans (hb1.mono B0.out.size)
    have a0 := s0.c0
    have a1 := s0.c1
    have a2 := s0.c2
    have b0 := s1.c0
    have b1 := s1.c1
    have b2 := s1.c2
    have c0 := s2.c0
    have c1 := s2.c1
    have c2 := s2.c2
    have f0 := s2.fz 0
    have f1 := s2.fz 1
    have f2 := s2.fz 2
    have S9 := Lib.hid (s2.put b)
    have B9 := Lib.hid (below_put3 bw (show w.heap.size ≤ w.heap.size + 1 + 1 by omega) (.int .i64 b.n) (.int .i64 b.r) (.string b.s))
    clear s0 s1 s2 hb1 bw
    go_wp2
    refine bodyPost_ret (v := b.v) ?_ rfl ⟨by rw [HV.out], ?_⟩
    · exact res_cl Tryd.results23 rfl S9.out
    · exact B9.out
end Go.Proofs.YtonbhcbkelmhgaaDoor
