/-
  The law StampOrder: for every three stamps it answers true, and nothing that was there is written.
-/
import Derived.Test.YtomlckefkamdgaaStAwake
import Derived.Test.YtomlckefkamdgaaUniG
namespace Go.Proofs.Ytomlckefkamdgaa
open Go.RowKit WM
set_option linter.unusedVariables false
/-- The greater one of two stamps, as numbers. -/
def mx (a b : Int × Int) : Int × Int := if stLess a.1 a.2 b.1 b.2 then b else a
theorem stLess_iff {n r m s : Int} : stLess n r m s = true ↔ (n < m ∨ n = m ∧ r < s) := by rw [stLess, decide_eq_true_iff]
theorem mx_is (a b : Int × Int) : (stLess a.1 a.2 b.1 b.2 = true ∧ mx a b = b) ∨ (stLess a.1 a.2 b.1 b.2 = false ∧ mx a b = a) := by
  unfold mx
  cases h : stLess a.1 a.2 b.1 b.2
  · exact .inr ⟨rfl, by simp⟩
  · exact .inl ⟨rfl, by simp⟩
theorem st_no {n r m s : Int} : stLess n r m s = false ↔ ¬ (n < m ∨ n = m ∧ r < s) := by rw [stLess, decide_eq_false_iff_not]
theorem mx_comm (a b : Int × Int) : mx b a = mx a b := by
  rcases mx_is a b with ⟨h1, e1⟩ | ⟨h1, e1⟩ <;> rcases mx_is b a with ⟨h2, e2⟩ | ⟨h2, e2⟩ <;> rw [e1, e2] <;> simp only [stLess_iff, st_no] at h1 h2
  · exact Prod.ext (by omega) (by omega)
  · exact Prod.ext (by omega) (by omega)
theorem mx_assoc (a b c : Int × Int) : mx a (mx b c) = mx (mx a b) c := by
  rcases mx_is a b with ⟨h1, e1⟩ | ⟨h1, e1⟩ <;> rcases mx_is b c with ⟨h2, e2⟩ | ⟨h2, e2⟩ <;> rw [e1, e2]
  · rcases mx_is a c with ⟨h3, e3⟩ | ⟨h3, e3⟩
    · exact e3
    · exfalso; simp only [stLess_iff, st_no] at h1 h2 h3; omega
  · exact e1
  · rcases mx_is a c with ⟨h3, e3⟩ | ⟨h3, e3⟩ <;> rw [e1, e3]
    exfalso; simp only [stLess_iff, st_no] at h1 h2 h3; omega
theorem mx_self (a : Int × Int) : mx a a = a := by rcases mx_is a a with ⟨_, e⟩ | ⟨_, e⟩ <;> exact e
theorem mx_no1 (a b c : Int × Int) : stLess (mx (mx a b) c).1 (mx (mx a b) c).2 a.1 a.2 = false := by
  rw [st_no]
  rcases mx_is a b with ⟨h1, e1⟩ | ⟨h1, e1⟩ <;> rw [e1]
  · rcases mx_is b c with ⟨h2, e2⟩ | ⟨h2, e2⟩ <;> rw [e2] <;> simp only [stLess_iff, st_no] at h1 h2 <;> omega
  · rcases mx_is a c with ⟨h2, e2⟩ | ⟨h2, e2⟩ <;> rw [e2] <;> simp only [stLess_iff, st_no] at h1 h2 <;> omega
theorem mx_no2 (a c : Int × Int) : stLess (mx a c).1 (mx a c).2 c.1 c.2 = false := by
  rw [st_no]
  rcases mx_is a c with ⟨h2, e2⟩ | ⟨h2, e2⟩ <;> rw [e2] <;> simp only [stLess_iff, st_no] at h2 <;> omega
/-- Two stamps that are not the same. -/
theorem st_ne {n r m s : Int} (h : ¬ (n = m ∧ r = s)) (w : World) : (Op.equalIn 10000 33 (.agg #[.int .i64 n, .int .i64 r]) (.agg #[.int .i64 m, .int .i64 s])).run Try.prog w = .ok false w := by
  by_cases h1 : n = m
  · have h2 : ¬ r = s := fun e => h ⟨h1, e⟩
    subst h1
    go_simp
  · go_simp
theorem max_any (a b : Int × Int) (w : World) : Calls Try.prog 25 #[st a.1 a.2, st b.1 b.2] w fun e w' => e = .returned (st (mx a b).1 (mx a b).2) ∧ Below w.heap.size w w' := by
  refine (stMax_any a.1 a.2 b.1 b.2 w).mono ?_
  rintro e w' ⟨rfl, hb⟩
  refine ⟨?_, hb⟩
  unfold mx
  split <;> rfl
set_option maxHeartbeats 8000000 in
theorem walk_stampOrder (n r m s p q : Int) (w : World) (hn : (Lit.int .i64 n).wf = true) (hr : (Lit.int .i64 r).wf = true) (hm : (Lit.int .i64 m).wf = true) (hs : (Lit.int .i64 s).wf = true) (hp : (Lit.int .i64 p).wf = true) (hq : (Lit.int .i64 q).wf = true) :
    Calls Try.prog 6 #[st n r, st m s, st p q] w fun e w' => e = .returned (.bool true) ∧ Below w.heap.size w w' := by
  have LAB := Lib.hid (stLess_any n r m s)
  have LBA := Lib.hid (stLess_any m s n r)
  have LBC := Lib.hid (stLess_any m s p q)
  have LAC := Lib.hid (stLess_any n r p q)
  have MAB := Lib.hid (max_any (n, r) (m, s))
  have MBA := Lib.hid (max_any (m, s) (n, r))
  have MBC := Lib.hid (max_any (m, s) (p, q))
  have MAA := Lib.hid (max_any (n, r) (n, r))
  have M1C := Lib.hid (max_any (mx (n, r) (m, s)) (p, q))
  have MA2 := Lib.hid (max_any (n, r) (mx (m, s) (p, q)))
  have L1A := Lib.hid (stLess_any (mx (mx (n, r) (m, s)) (p, q)).1 (mx (mx (n, r) (m, s)) (p, q)).2 n r)
  have L1C := Lib.hid (stLess_any (mx (mx (n, r) (m, s)) (p, q)).1 (mx (mx (n, r) (m, s)) (p, q)).2 p q)
  rw [mx_self] at MAA
  rw [mx_comm] at MBA
  rw [mx_assoc] at MA2
  rw [show stLess (mx (mx (n, r) (m, s)) (p, q)).1 (mx (mx (n, r) (m, s)) (p, q)).2 n r = false from mx_no1 (n, r) (m, s) (p, q)] at L1A
  rw [show stLess (mx (mx (n, r) (m, s)) (p, q)).1 (mx (mx (n, r) (m, s)) (p, q)).2 p q = false from mx_no2 (mx (n, r) (m, s)) (p, q)] at L1C
  generalize mx (mx (n, r) (m, s)) (p, q) = one at *
  generalize mx (n, r) (m, s) = mab at *
  generalize mx (m, s) (p, q) = mbc at *
  obtain ⟨u, v⟩ := one
  obtain ⟨i, j⟩ := mab
  obtain ⟨k, l⟩ := mbc
  clear hn hr hm hs hp hq
  by_cases h0 : n = m ∧ r = s
  · obtain ⟨rfl, rfl⟩ := h0
    have e1 : stLess n r n r = false := by rw [st_no]; omega
    rw [e1] at LAB LBA
    generalize stLess n r p q = z at *
    unfold st at *
    clear e1 LAC
    have B0 := Lib.hid (Below.refl w.heap.size w)
    have T3n := StAt.new w n r
    have T3 := Lib.hid (T3n)
    clear T3n
    have B1 := Lib.hid (B0.out.alloc B0.out.size (.cells #[.int .i64 n, .int .i64 r] 33))
    have T3' := Lib.hid (T3.out.old (.cells #[.int .i64 n, .int .i64 r] 33))
    have T4n := StAt.new (w.alloc (.cells #[.int .i64 n, .int .i64 r] 33)) n r
    simp only [World.size_alloc] at T4n
    have T4 := Lib.hid (T4n)
    clear T4n
    have B2 := Lib.hid (B1.out.alloc B1.out.size (.cells #[.int .i64 n, .int .i64 r] 33))
    have T3'' := Lib.hid (T3'.out.old (.cells #[.int .i64 p, .int .i64 q] 33))
    have T4' := Lib.hid (T4.out.old (.cells #[.int .i64 p, .int .i64 q] 33))
    have T5n := StAt.new ((w.alloc (.cells #[.int .i64 n, .int .i64 r] 33)).alloc (.cells #[.int .i64 n, .int .i64 r] 33)) p q
    simp only [World.size_alloc] at T5n
    have T5 := Lib.hid (T5n)
    clear T5n
    have B3 := Lib.hid (B2.out.alloc B2.out.size (.cells #[.int .i64 p, .int .i64 q] 33))
    go_enter Try.func6, Try.ntmps6
    go_wp2_with fail
    refine (stAwake _).mono ?_
    rintro e w1 ⟨rfl, hb⟩
    have T3_1 := Lib.hid (T3''.out.below hb T3''.out.lt)
    have T4_1 := Lib.hid (T4'.out.below hb T4'.out.lt)
    have T5_1 := Lib.hid (T5.out.below hb T5.out.lt)
    have B4 := Lib.hid (B3.out.trans (hb.mono B3.out.size))
    clear hb
    have c30 := T3_1.out.c0
    have c31 := T3_1.out.c1
    have c40 := T4_1.out.c0
    have c41 := T4_1.out.c1
    have c50 := T5_1.out.c0
    have c51 := T5_1.out.c1
    go_wp2_with fail
    refine (LAB.out _).mono ?_
    rintro e w2 ⟨rfl, hb⟩
    have T3_2 := Lib.hid (T3_1.out.below hb T3_1.out.lt)
    have T4_2 := Lib.hid (T4_1.out.below hb T4_1.out.lt)
    have T5_2 := Lib.hid (T5_1.out.below hb T5_1.out.lt)
    have B5 := Lib.hid (B4.out.trans (hb.mono B4.out.size))
    clear hb
    clear c30 c31 c40 c41 c50 c51
    have c30 := T3_2.out.c0
    have c31 := T3_2.out.c1
    have c40 := T4_2.out.c0
    have c41 := T4_2.out.c1
    have c50 := T5_2.out.c0
    have c51 := T5_2.out.c1
    go_wp2_with fail
    refine (LBA.out _).mono ?_
    rintro e w3 ⟨rfl, hb⟩
    have T3_3 := Lib.hid (T3_2.out.below hb T3_2.out.lt)
    have T4_3 := Lib.hid (T4_2.out.below hb T4_2.out.lt)
    have T5_3 := Lib.hid (T5_2.out.below hb T5_2.out.lt)
    have B6 := Lib.hid (B5.out.trans (hb.mono B5.out.size))
    clear hb
    clear c30 c31 c40 c41 c50 c51
    have c30 := T3_3.out.c0
    have c31 := T3_3.out.c1
    have c40 := T4_3.out.c0
    have c41 := T4_3.out.c1
    have c50 := T5_3.out.c0
    have c51 := T5_3.out.c1
    go_wp2_with fail
    refine (LBC.out _).mono ?_
    rintro e w4 ⟨rfl, hb⟩
    have T3_4 := Lib.hid (T3_3.out.below hb T3_3.out.lt)
    have T4_4 := Lib.hid (T4_3.out.below hb T4_3.out.lt)
    have T5_4 := Lib.hid (T5_3.out.below hb T5_3.out.lt)
    have B7 := Lib.hid (B6.out.trans (hb.mono B6.out.size))
    clear hb
    clear c30 c31 c40 c41 c50 c51
    have c30 := T3_4.out.c0
    have c31 := T3_4.out.c1
    have c40 := T4_4.out.c0
    have c41 := T4_4.out.c1
    have c50 := T5_4.out.c0
    have c51 := T5_4.out.c1
    go_wp2_with fail
    clear c30 c31 c40 c41 c50 c51
    refine wp_region_G w4 (by kernel_rfl) ?_
    refine wpG_take (i := 0) (oi := ⟨some 51, _, _, _, _, _⟩) (v := ?_) rfl (by kernel_rfl) (by kernel_rfl) (by kernel_rfl) (Or.inl ⟨by rfl, unib_val ?_⟩) ?_; rotate_left; (focus (intro w9 hSw; have q9 := T3_4.out.below hSw T3_4.out.lt; have q0 := q9.c0; have q1 := q9.c1; go_simp; try with_reducible rfl)); simp only [Act.put, List.setIfInBounds_toArray, List.set_cons_zero, List.set_cons_succ]
    refine wpG_take (i := 1) (oi := ⟨some 52, _, _, _, _, _⟩) (v := ?_) rfl (by kernel_rfl) (by kernel_rfl) (by kernel_rfl) (Or.inl ⟨by rfl, unib_val ?_⟩) ?_; rotate_left; (focus (intro w9 hSw; have q9 := T4_4.out.below hSw T4_4.out.lt; have q0 := q9.c0; have q1 := q9.c1; go_simp; try with_reducible rfl)); simp only [Act.put, List.setIfInBounds_toArray, List.set_cons_zero, List.set_cons_succ]
    refine wpG_take (i := 2) (oi := ⟨some 53, _, _, _, _, _⟩) rfl (by kernel_rfl) (by kernel_rfl) (by kernel_rfl) (Or.inl ⟨by rfl, unib_call ?_ MAB.out⟩) ?_; (focus (intro w9 hSw; go_simp; try with_reducible rfl)); simp only [Act.put, List.setIfInBounds_toArray, List.set_cons_zero, List.set_cons_succ]
    refine wpG_take (i := 3) (oi := ⟨some 54, _, _, _, _, _⟩) (v := ?_) rfl (by kernel_rfl) (by kernel_rfl) (by kernel_rfl) (Or.inl ⟨by rfl, unib_val ?_⟩) ?_; rotate_left; (focus (intro w9 hSw; have q9 := T5_4.out.below hSw T5_4.out.lt; have q0 := q9.c0; have q1 := q9.c1; go_simp; try with_reducible rfl)); simp only [Act.put, List.setIfInBounds_toArray, List.set_cons_zero, List.set_cons_succ]
    refine wpG_take (i := 4) (oi := ⟨some 55, _, _, _, _, _⟩) rfl (by kernel_rfl) (by kernel_rfl) (by kernel_rfl) (Or.inl ⟨by rfl, unib_call ?_ M1C.out⟩) ?_; (focus (intro w9 hSw; go_simp; try with_reducible rfl)); simp only [Act.put, List.setIfInBounds_toArray, List.set_cons_zero, List.set_cons_succ]
    refine wpG_alloc (i := 5) (oi := ⟨some 12, _, _, _, _, _⟩) (z := #[.int .i64 0, .int .i64 0]) (t := 33) (by kernel_rfl) rfl ⟨by rfl, fun w9 hSw => by go_simp; try rfl⟩ ?_; intro g hg ng; simp only [Act.put, List.setIfInBounds_toArray, List.set_cons_zero, List.set_cons_succ]
    refine wpG_store (i := 6) (oi := ⟨none, _, _, _, _, _⟩) (v := undef) [(g, #[.int .i64 u, .int .i64 v], 33)] (by kernel_rfl) rfl ⟨by rfl, fun w9 hSw hO => ?_⟩ ?_; (focus (have q9 : StAt w9 g 0 0 := hO _ (.head _); have q0 := q9.c0; have q1 := q9.c1; have f0 := q9.fz 0; have f1 := q9.fz 1; refine ⟨_, Or.inr ⟨by go_simp; try rfl, rfl⟩, below_put hSw hg _ _, ?_⟩; intro x hx; obtain rfl := List.mem_singleton.1 hx; exact q9.put u v)); simp only [Act.put]
    refine wpG_done (by kernel_rfl) ?_ _
    intro w5 hb hO
    have T3_5 := Lib.hid (T3_4.out.below hb T3_4.out.lt)
    have T4_5 := Lib.hid (T4_4.out.below hb T4_4.out.lt)
    have T5_5 := Lib.hid (T5_4.out.below hb T5_4.out.lt)
    have T12_5 := Lib.hid (show StAt _ g u v from hO _ (.head _))
    have B8 := Lib.hid (B7.out.trans (hb.mono B7.out.size))
    clear hb hO
    go_wp2_with fail
    refine wp_region_G w5 (by kernel_rfl) ?_
    refine wpG_take (i := 0) (oi := ⟨some 56, _, _, _, _, _⟩) (v := ?_) rfl (by kernel_rfl) (by kernel_rfl) (by kernel_rfl) (Or.inl ⟨by rfl, unib_val ?_⟩) ?_; rotate_left; (focus (intro w9 hSw; go_simp; try with_reducible rfl)); simp only [Act.put, List.setIfInBounds_toArray, List.set_cons_zero, List.set_cons_succ]
    refine wpG_take (i := 1) (oi := ⟨some 57, _, _, _, _, _⟩) (v := ?_) rfl (by kernel_rfl) (by kernel_rfl) (by kernel_rfl) (Or.inl ⟨by rfl, unib_val ?_⟩) ?_; rotate_left; (focus (intro w9 hSw; go_simp; try with_reducible rfl)); simp only [Act.put, List.setIfInBounds_toArray, List.set_cons_zero, List.set_cons_succ]
    refine wpG_take (i := 2) (oi := ⟨some 58, _, _, _, _, _⟩) (v := ?_) rfl (by kernel_rfl) (by kernel_rfl) (by kernel_rfl) (Or.inl ⟨by rfl, unib_val ?_⟩) ?_; rotate_left; (focus (intro w9 hSw; go_simp; try with_reducible rfl)); simp only [Act.put, List.setIfInBounds_toArray, List.set_cons_zero, List.set_cons_succ]
    refine wpG_take (i := 3) (oi := ⟨some 59, _, _, _, _, _⟩) (v := ?_) rfl (by kernel_rfl) (by kernel_rfl) (by kernel_rfl) (Or.inl ⟨by rfl, unib_val ?_⟩) ?_; rotate_left; (focus (intro w9 hSw; go_simp; try with_reducible rfl)); simp only [Act.put, List.setIfInBounds_toArray, List.set_cons_zero, List.set_cons_succ]
    refine wpG_take (i := 4) (oi := ⟨some 60, _, _, _, _, _⟩) (v := ?_) rfl (by kernel_rfl) (by kernel_rfl) (by kernel_rfl) (Or.inl ⟨by rfl, unib_val ?_⟩) ?_; rotate_left; (focus (intro w9 hSw; go_simp; try with_reducible rfl)); simp only [Act.put, List.setIfInBounds_toArray, List.set_cons_zero, List.set_cons_succ]
    refine wpG_take (i := 5) (oi := ⟨some 61, _, _, _, _, _⟩) (v := ?_) rfl (by kernel_rfl) (by kernel_rfl) (by kernel_rfl) (Or.inl ⟨by rfl, unib_val ?_⟩) ?_; rotate_left; (focus (intro w9 hSw; have q9 := T12_5.out.below hSw T12_5.out.lt; have q0 := q9.c0; have q1 := q9.c1; go_simp; try with_reducible rfl)); simp only [Act.put, List.setIfInBounds_toArray, List.set_cons_zero, List.set_cons_succ]
    refine wpG_take (i := 6) (oi := ⟨some 62, _, _, _, _, _⟩) (v := ?_) rfl (by kernel_rfl) (by kernel_rfl) (by kernel_rfl) (Or.inl ⟨by rfl, unib_val ?_⟩) ?_; rotate_left; (focus (intro w9 hSw; have q9 := T3_5.out.below hSw T3_5.out.lt; have q0 := q9.c0; have q1 := q9.c1; go_simp; try with_reducible rfl)); simp only [Act.put, List.setIfInBounds_toArray, List.set_cons_zero, List.set_cons_succ]
    refine wpG_take (i := 7) (oi := ⟨some 63, _, _, _, _, _⟩) (v := ?_) rfl (by kernel_rfl) (by kernel_rfl) (by kernel_rfl) (Or.inl ⟨by rfl, unib_val ?_⟩) ?_; rotate_left; (focus (intro w9 hSw; have q9 := T4_5.out.below hSw T4_5.out.lt; have q0 := q9.c0; have q1 := q9.c1; go_simp; try with_reducible rfl)); simp only [Act.put, List.setIfInBounds_toArray, List.set_cons_zero, List.set_cons_succ]
    refine wpG_take (i := 8) (oi := ⟨some 64, _, _, _, _, _⟩) (v := ?_) rfl (by kernel_rfl) (by kernel_rfl) (by kernel_rfl) (Or.inl ⟨by rfl, unib_val ?_⟩) ?_; rotate_left; (focus (intro w9 hSw; have q9 := T5_5.out.below hSw T5_5.out.lt; have q0 := q9.c0; have q1 := q9.c1; go_simp; try with_reducible rfl)); simp only [Act.put, List.setIfInBounds_toArray, List.set_cons_zero, List.set_cons_succ]
    refine wpG_take (i := 9) (oi := ⟨some 65, _, _, _, _, _⟩) rfl (by kernel_rfl) (by kernel_rfl) (by kernel_rfl) (Or.inl ⟨by rfl, unib_call ?_ MBC.out⟩) ?_; (focus (intro w9 hSw; go_simp; try with_reducible rfl)); simp only [Act.put, List.setIfInBounds_toArray, List.set_cons_zero, List.set_cons_succ]
    refine wpG_take (i := 10) (oi := ⟨some 66, _, _, _, _, _⟩) rfl (by kernel_rfl) (by kernel_rfl) (by kernel_rfl) (Or.inl ⟨by rfl, unib_call ?_ MA2.out⟩) ?_; (focus (intro w9 hSw; go_simp; try with_reducible rfl)); simp only [Act.put, List.setIfInBounds_toArray, List.set_cons_zero, List.set_cons_succ]
    refine wpG_take (i := 11) (oi := ⟨some 67, _, _, _, _, _⟩) (v := ?_) rfl (by kernel_rfl) (by kernel_rfl) (by kernel_rfl) (Or.inl ⟨by rfl, unib_val ?_⟩) ?_; rotate_left; (focus (intro w9 hSw; go_simp; try with_reducible rfl)); simp only [Act.put, List.setIfInBounds_toArray, List.set_cons_zero, List.set_cons_succ]
    refine wpG_take (i := 12) (oi := ⟨some 68, _, _, _, _, _⟩) (v := ?_) rfl (by kernel_rfl) (by kernel_rfl) (by kernel_rfl) (Or.inl ⟨by rfl, unib_val ?_⟩) ?_; rotate_left; (focus (intro w9 hSw; go_simp; try with_reducible rfl)); simp only [Act.put, List.setIfInBounds_toArray, List.set_cons_zero, List.set_cons_succ]
    refine wpG_take (i := 13) (oi := ⟨some 69, _, _, _, _, _⟩) (v := ?_) rfl (by kernel_rfl) (by kernel_rfl) (by kernel_rfl) (Or.inl ⟨by rfl, unib_val ?_⟩) ?_; rotate_left; (focus (intro w9 hSw; go_simp; try with_reducible rfl)); simp only [Act.put, List.setIfInBounds_toArray, List.set_cons_zero, List.set_cons_succ]
    refine wpG_take (i := 14) (oi := ⟨some 70, _, _, _, _, _⟩) (v := ?_) rfl (by kernel_rfl) (by kernel_rfl) (by kernel_rfl) (Or.inl ⟨by rfl, unib_val ?_⟩) ?_; rotate_left; (focus (intro w9 hSw; have q9 := T3_5.out.below hSw T3_5.out.lt; have q0 := q9.c0; have q1 := q9.c1; go_simp; try with_reducible rfl)); simp only [Act.put, List.setIfInBounds_toArray, List.set_cons_zero, List.set_cons_succ]
    refine wpG_take (i := 15) (oi := ⟨some 71, _, _, _, _, _⟩) (v := ?_) rfl (by kernel_rfl) (by kernel_rfl) (by kernel_rfl) (Or.inl ⟨by rfl, unib_val ?_⟩) ?_; rotate_left; (focus (intro w9 hSw; have q9 := T4_5.out.below hSw T4_5.out.lt; have q0 := q9.c0; have q1 := q9.c1; go_simp; try with_reducible rfl)); simp only [Act.put, List.setIfInBounds_toArray, List.set_cons_zero, List.set_cons_succ]
    refine wpG_take (i := 16) (oi := ⟨some 72, _, _, _, _, _⟩) rfl (by kernel_rfl) (by kernel_rfl) (by kernel_rfl) (Or.inl ⟨by rfl, unib_call ?_ MAB.out⟩) ?_; (focus (intro w9 hSw; go_simp; try with_reducible rfl)); simp only [Act.put, List.setIfInBounds_toArray, List.set_cons_zero, List.set_cons_succ]
    refine wpG_take (i := 17) (oi := ⟨some 73, _, _, _, _, _⟩) (v := ?_) rfl (by kernel_rfl) (by kernel_rfl) (by kernel_rfl) (Or.inl ⟨by rfl, unib_val ?_⟩) ?_; rotate_left; (focus (intro w9 hSw; have q9 := T4_5.out.below hSw T4_5.out.lt; have q0 := q9.c0; have q1 := q9.c1; go_simp; try with_reducible rfl)); simp only [Act.put, List.setIfInBounds_toArray, List.set_cons_zero, List.set_cons_succ]
    refine wpG_take (i := 18) (oi := ⟨some 74, _, _, _, _, _⟩) (v := ?_) rfl (by kernel_rfl) (by kernel_rfl) (by kernel_rfl) (Or.inl ⟨by rfl, unib_val ?_⟩) ?_; rotate_left; (focus (intro w9 hSw; have q9 := T3_5.out.below hSw T3_5.out.lt; have q0 := q9.c0; have q1 := q9.c1; go_simp; try with_reducible rfl)); simp only [Act.put, List.setIfInBounds_toArray, List.set_cons_zero, List.set_cons_succ]
    refine wpG_take (i := 19) (oi := ⟨some 75, _, _, _, _, _⟩) rfl (by kernel_rfl) (by kernel_rfl) (by kernel_rfl) (Or.inl ⟨by rfl, unib_call ?_ MBA.out⟩) ?_; (focus (intro w9 hSw; go_simp; try with_reducible rfl)); simp only [Act.put, List.setIfInBounds_toArray, List.set_cons_zero, List.set_cons_succ]
    refine wpG_take (i := 20) (oi := ⟨some 76, _, _, _, _, _⟩) (v := ?_) rfl (by kernel_rfl) (by kernel_rfl) (by kernel_rfl) (Or.inl ⟨by rfl, unib_val ?_⟩) ?_; rotate_left; (focus (intro w9 hSw; go_simp; try with_reducible rfl)); simp only [Act.put, List.setIfInBounds_toArray, List.set_cons_zero, List.set_cons_succ]
    refine wpG_take (i := 21) (oi := ⟨some 77, _, _, _, _, _⟩) (v := ?_) rfl (by kernel_rfl) (by kernel_rfl) (by kernel_rfl) (Or.inl ⟨by rfl, unib_val ?_⟩) ?_; rotate_left; (focus (intro w9 hSw; go_simp; try with_reducible rfl)); simp only [Act.put, List.setIfInBounds_toArray, List.set_cons_zero, List.set_cons_succ]
    refine wpG_take (i := 22) (oi := ⟨some 78, _, _, _, _, _⟩) (v := ?_) rfl (by kernel_rfl) (by kernel_rfl) (by kernel_rfl) (Or.inl ⟨by rfl, unib_val ?_⟩) ?_; rotate_left; (focus (intro w9 hSw; go_simp; try with_reducible rfl)); simp only [Act.put, List.setIfInBounds_toArray, List.set_cons_zero, List.set_cons_succ]
    refine wpG_take (i := 23) (oi := ⟨some 79, _, _, _, _, _⟩) (v := ?_) rfl (by kernel_rfl) (by kernel_rfl) (by kernel_rfl) (Or.inl ⟨by rfl, unib_val ?_⟩) ?_; rotate_left; (focus (intro w9 hSw; have q9 := T3_5.out.below hSw T3_5.out.lt; have q0 := q9.c0; have q1 := q9.c1; go_simp; try with_reducible rfl)); simp only [Act.put, List.setIfInBounds_toArray, List.set_cons_zero, List.set_cons_succ]
    refine wpG_take (i := 24) (oi := ⟨some 80, _, _, _, _, _⟩) (v := ?_) rfl (by kernel_rfl) (by kernel_rfl) (by kernel_rfl) (Or.inl ⟨by rfl, unib_val ?_⟩) ?_; rotate_left; (focus (intro w9 hSw; have q9 := T3_5.out.below hSw T3_5.out.lt; have q0 := q9.c0; have q1 := q9.c1; go_simp; try with_reducible rfl)); simp only [Act.put, List.setIfInBounds_toArray, List.set_cons_zero, List.set_cons_succ]
    refine wpG_take (i := 25) (oi := ⟨some 81, _, _, _, _, _⟩) rfl (by kernel_rfl) (by kernel_rfl) (by kernel_rfl) (Or.inl ⟨by rfl, unib_call ?_ MAA.out⟩) ?_; (focus (intro w9 hSw; go_simp; try with_reducible rfl)); simp only [Act.put, List.setIfInBounds_toArray, List.set_cons_zero, List.set_cons_succ]
    refine wpG_take (i := 26) (oi := ⟨some 82, _, _, _, _, _⟩) (v := ?_) rfl (by kernel_rfl) (by kernel_rfl) (by kernel_rfl) (Or.inl ⟨by rfl, unib_val ?_⟩) ?_; rotate_left; (focus (intro w9 hSw; have q9 := T3_5.out.below hSw T3_5.out.lt; have q0 := q9.c0; have q1 := q9.c1; go_simp; try with_reducible rfl)); simp only [Act.put, List.setIfInBounds_toArray, List.set_cons_zero, List.set_cons_succ]
    refine wpG_take (i := 27) (oi := ⟨some 83, _, _, _, _, _⟩) (v := ?_) rfl (by kernel_rfl) (by kernel_rfl) (by kernel_rfl) (Or.inl ⟨by rfl, unib_val ?_⟩) ?_; rotate_left; (focus (intro w9 hSw; go_simp; try with_reducible rfl)); simp only [Act.put, List.setIfInBounds_toArray, List.set_cons_zero, List.set_cons_succ]
    refine wpG_take (i := 28) (oi := ⟨some 84, _, _, _, _, _⟩) (v := ?_) rfl (by kernel_rfl) (by kernel_rfl) (by kernel_rfl) (Or.inl ⟨by rfl, unib_val ?_⟩) ?_; rotate_left; (focus (intro w9 hSw; go_simp; try with_reducible rfl)); simp only [Act.put, List.setIfInBounds_toArray, List.set_cons_zero, List.set_cons_succ]
    refine wpG_take (i := 29) (oi := ⟨some 85, _, _, _, _, _⟩) (v := ?_) rfl (by kernel_rfl) (by kernel_rfl) (by kernel_rfl) (Or.inl ⟨by rfl, unib_val ?_⟩) ?_; rotate_left; (focus (intro w9 hSw; go_simp; try with_reducible rfl)); simp only [Act.put, List.setIfInBounds_toArray, List.set_cons_zero, List.set_cons_succ]
    refine wpG_take (i := 30) (oi := ⟨some 86, _, _, _, _, _⟩) (v := ?_) rfl (by kernel_rfl) (by kernel_rfl) (by kernel_rfl) (Or.inl ⟨by rfl, unib_val ?_⟩) ?_; rotate_left; (focus (intro w9 hSw; have q9 := T12_5.out.below hSw T12_5.out.lt; have q0 := q9.c0; have q1 := q9.c1; go_simp; try with_reducible rfl)); simp only [Act.put, List.setIfInBounds_toArray, List.set_cons_zero, List.set_cons_succ]
    refine wpG_take (i := 31) (oi := ⟨some 87, _, _, _, _, _⟩) (v := ?_) rfl (by kernel_rfl) (by kernel_rfl) (by kernel_rfl) (Or.inl ⟨by rfl, unib_val ?_⟩) ?_; rotate_left; (focus (intro w9 hSw; have q9 := T3_5.out.below hSw T3_5.out.lt; have q0 := q9.c0; have q1 := q9.c1; go_simp; try with_reducible rfl)); simp only [Act.put, List.setIfInBounds_toArray, List.set_cons_zero, List.set_cons_succ]
    refine wpG_take (i := 32) (oi := ⟨some 88, _, _, _, _, _⟩) rfl (by kernel_rfl) (by kernel_rfl) (by kernel_rfl) (Or.inl ⟨by rfl, unib_call ?_ L1A.out⟩) ?_; (focus (intro w9 hSw; go_simp; try with_reducible rfl)); simp only [Act.put, List.setIfInBounds_toArray, List.set_cons_zero, List.set_cons_succ]
    refine wpG_take (i := 33) (oi := ⟨some 89, _, _, _, _, _⟩) (v := ?_) rfl (by kernel_rfl) (by kernel_rfl) (by kernel_rfl) (Or.inl ⟨by rfl, unib_val ?_⟩) ?_; rotate_left; (focus (intro w9 hSw; go_simp; try with_reducible rfl)); simp only [Act.put, List.setIfInBounds_toArray, List.set_cons_zero, List.set_cons_succ]
    refine wpG_take (i := 34) (oi := ⟨some 90, _, _, _, _, _⟩) (v := ?_) rfl (by kernel_rfl) (by kernel_rfl) (by kernel_rfl) (Or.inl ⟨by rfl, unib_val ?_⟩) ?_; rotate_left; (focus (intro w9 hSw; go_simp; try with_reducible rfl)); simp only [Act.put, List.setIfInBounds_toArray, List.set_cons_zero, List.set_cons_succ]
    refine wpG_take (i := 35) (oi := ⟨some 91, _, _, _, _, _⟩) (v := ?_) rfl (by kernel_rfl) (by kernel_rfl) (by kernel_rfl) (Or.inl ⟨by rfl, unib_val ?_⟩) ?_; rotate_left; (focus (intro w9 hSw; go_simp; try with_reducible rfl)); simp only [Act.put, List.setIfInBounds_toArray, List.set_cons_zero, List.set_cons_succ]
    refine wpG_take (i := 36) (oi := ⟨some 92, _, _, _, _, _⟩) (v := ?_) rfl (by kernel_rfl) (by kernel_rfl) (by kernel_rfl) (Or.inl ⟨by rfl, unib_val ?_⟩) ?_; rotate_left; (focus (intro w9 hSw; have q9 := T12_5.out.below hSw T12_5.out.lt; have q0 := q9.c0; have q1 := q9.c1; go_simp; try with_reducible rfl)); simp only [Act.put, List.setIfInBounds_toArray, List.set_cons_zero, List.set_cons_succ]
    refine wpG_take (i := 37) (oi := ⟨some 93, _, _, _, _, _⟩) (v := ?_) rfl (by kernel_rfl) (by kernel_rfl) (by kernel_rfl) (Or.inl ⟨by rfl, unib_val ?_⟩) ?_; rotate_left; (focus (intro w9 hSw; have q9 := T5_5.out.below hSw T5_5.out.lt; have q0 := q9.c0; have q1 := q9.c1; go_simp; try with_reducible rfl)); simp only [Act.put, List.setIfInBounds_toArray, List.set_cons_zero, List.set_cons_succ]
    refine wpG_take (i := 38) (oi := ⟨some 94, _, _, _, _, _⟩) rfl (by kernel_rfl) (by kernel_rfl) (by kernel_rfl) (Or.inl ⟨by rfl, unib_call ?_ L1C.out⟩) ?_; (focus (intro w9 hSw; go_simp; try with_reducible rfl)); simp only [Act.put, List.setIfInBounds_toArray, List.set_cons_zero, List.set_cons_succ]
    refine wpG_take (i := 39) (oi := ⟨some 95, _, _, _, _, _⟩) (v := ?_) rfl (by kernel_rfl) (by kernel_rfl) (by kernel_rfl) (Or.inl ⟨by rfl, unib_val ?_⟩) ?_; rotate_left; (focus (intro w9 hSw; go_simp; try with_reducible rfl)); simp only [Act.put, List.setIfInBounds_toArray, List.set_cons_zero, List.set_cons_succ]
    refine wpG_take (i := 40) (oi := ⟨some 96, _, _, _, _, _⟩) (v := ?_) rfl (by kernel_rfl) (by kernel_rfl) (by kernel_rfl) (Or.inl ⟨by rfl, unib_val ?_⟩) ?_; rotate_left; (focus (intro w9 hSw; go_simp; try with_reducible rfl)); simp only [Act.put, List.setIfInBounds_toArray, List.set_cons_zero, List.set_cons_succ]
    refine wpG_take (i := 41) (oi := ⟨some 6, _, _, _, _, _⟩) (v := ?_) rfl (by kernel_rfl) (by kernel_rfl) (by kernel_rfl) (Or.inl ⟨by rfl, unib_val ?_⟩) ?_; rotate_left; (focus (intro w9 hSw; go_simp; try with_reducible rfl)); simp only [Act.put, List.setIfInBounds_toArray, List.set_cons_zero, List.set_cons_succ]
    refine wpG_done (by kernel_rfl) ?_ _
    intro w9 hSw hO
    go_wp2
    go_ret
    exact ⟨rfl, B8.out.trans (hSw.mono B8.out.size)⟩
  · have heq := Lib.hid h0
    cases hx : stLess n r m s
    · have hy : stLess m s n r = true := by rw [st_no] at hx; rw [stLess_iff]; omega
      rw [hx] at LAB
      rw [hy] at LBA
      generalize stLess m s p q = z at *
      clear hx hy LAC h0
      unfold st at *
      have hne := st_ne heq.out
      have B0 := Lib.hid (Below.refl w.heap.size w)
      have T3n := StAt.new w n r
      have T3 := Lib.hid (T3n)
      clear T3n
      have B1 := Lib.hid (B0.out.alloc B0.out.size (.cells #[.int .i64 n, .int .i64 r] 33))
      have T3' := Lib.hid (T3.out.old (.cells #[.int .i64 m, .int .i64 s] 33))
      have T4n := StAt.new (w.alloc (.cells #[.int .i64 n, .int .i64 r] 33)) m s
      simp only [World.size_alloc] at T4n
      have T4 := Lib.hid (T4n)
      clear T4n
      have B2 := Lib.hid (B1.out.alloc B1.out.size (.cells #[.int .i64 m, .int .i64 s] 33))
      have T3'' := Lib.hid (T3'.out.old (.cells #[.int .i64 p, .int .i64 q] 33))
      have T4' := Lib.hid (T4.out.old (.cells #[.int .i64 p, .int .i64 q] 33))
      have T5n := StAt.new ((w.alloc (.cells #[.int .i64 n, .int .i64 r] 33)).alloc (.cells #[.int .i64 m, .int .i64 s] 33)) p q
      simp only [World.size_alloc] at T5n
      have T5 := Lib.hid (T5n)
      clear T5n
      have B3 := Lib.hid (B2.out.alloc B2.out.size (.cells #[.int .i64 p, .int .i64 q] 33))
      go_enter Try.func6, Try.ntmps6
      go_wp2_with fail
      refine (stAwake _).mono ?_
      rintro e w1 ⟨rfl, hb⟩
      have T3_1 := Lib.hid (T3''.out.below hb T3''.out.lt)
      have T4_1 := Lib.hid (T4'.out.below hb T4'.out.lt)
      have T5_1 := Lib.hid (T5.out.below hb T5.out.lt)
      have B4 := Lib.hid (B3.out.trans (hb.mono B3.out.size))
      clear hb
      have c30 := T3_1.out.c0
      have c31 := T3_1.out.c1
      have c40 := T4_1.out.c0
      have c41 := T4_1.out.c1
      have c50 := T5_1.out.c0
      have c51 := T5_1.out.c1
      go_wp2_with fail
      refine (LAB.out _).mono ?_
      rintro e w2 ⟨rfl, hb⟩
      have T3_2 := Lib.hid (T3_1.out.below hb T3_1.out.lt)
      have T4_2 := Lib.hid (T4_1.out.below hb T4_1.out.lt)
      have T5_2 := Lib.hid (T5_1.out.below hb T5_1.out.lt)
      have B5 := Lib.hid (B4.out.trans (hb.mono B4.out.size))
      clear hb
      clear c30 c31 c40 c41 c50 c51
      have c30 := T3_2.out.c0
      have c31 := T3_2.out.c1
      have c40 := T4_2.out.c0
      have c41 := T4_2.out.c1
      have c50 := T5_2.out.c0
      have c51 := T5_2.out.c1
      go_wp2_with fail
      refine (LBA.out _).mono ?_
      rintro e w3 ⟨rfl, hb⟩
      have T3_3 := Lib.hid (T3_2.out.below hb T3_2.out.lt)
      have T4_3 := Lib.hid (T4_2.out.below hb T4_2.out.lt)
      have T5_3 := Lib.hid (T5_2.out.below hb T5_2.out.lt)
      have B6 := Lib.hid (B5.out.trans (hb.mono B5.out.size))
      clear hb
      clear c30 c31 c40 c41 c50 c51
      have c30 := T3_3.out.c0
      have c31 := T3_3.out.c1
      have c40 := T4_3.out.c0
      have c41 := T4_3.out.c1
      have c50 := T5_3.out.c0
      have c51 := T5_3.out.c1
      go_wp2_with fail
      refine (LBC.out _).mono ?_
      rintro e w4 ⟨rfl, hb⟩
      have T3_4 := Lib.hid (T3_3.out.below hb T3_3.out.lt)
      have T4_4 := Lib.hid (T4_3.out.below hb T4_3.out.lt)
      have T5_4 := Lib.hid (T5_3.out.below hb T5_3.out.lt)
      have B7 := Lib.hid (B6.out.trans (hb.mono B6.out.size))
      clear hb
      clear c30 c31 c40 c41 c50 c51
      have c30 := T3_4.out.c0
      have c31 := T3_4.out.c1
      have c40 := T4_4.out.c0
      have c41 := T4_4.out.c1
      have c50 := T5_4.out.c0
      have c51 := T5_4.out.c1
      go_wp2_with fail
      clear c30 c31 c40 c41 c50 c51
      refine wp_region_G w4 (by kernel_rfl) ?_
      refine wpG_take (i := 0) (oi := ⟨some 51, _, _, _, _, _⟩) (v := ?_) rfl (by kernel_rfl) (by kernel_rfl) (by kernel_rfl) (Or.inl ⟨by rfl, unib_val ?_⟩) ?_; rotate_left; (focus (intro w9 hSw; have q9 := T3_4.out.below hSw T3_4.out.lt; have q0 := q9.c0; have q1 := q9.c1; go_simp; try with_reducible rfl)); simp only [Act.put, List.setIfInBounds_toArray, List.set_cons_zero, List.set_cons_succ]
      refine wpG_take (i := 1) (oi := ⟨some 52, _, _, _, _, _⟩) (v := ?_) rfl (by kernel_rfl) (by kernel_rfl) (by kernel_rfl) (Or.inl ⟨by rfl, unib_val ?_⟩) ?_; rotate_left; (focus (intro w9 hSw; have q9 := T4_4.out.below hSw T4_4.out.lt; have q0 := q9.c0; have q1 := q9.c1; go_simp; try with_reducible rfl)); simp only [Act.put, List.setIfInBounds_toArray, List.set_cons_zero, List.set_cons_succ]
      refine wpG_take (i := 2) (oi := ⟨some 53, _, _, _, _, _⟩) rfl (by kernel_rfl) (by kernel_rfl) (by kernel_rfl) (Or.inl ⟨by rfl, unib_call ?_ MAB.out⟩) ?_; (focus (intro w9 hSw; go_simp; try with_reducible rfl)); simp only [Act.put, List.setIfInBounds_toArray, List.set_cons_zero, List.set_cons_succ]
      refine wpG_take (i := 3) (oi := ⟨some 54, _, _, _, _, _⟩) (v := ?_) rfl (by kernel_rfl) (by kernel_rfl) (by kernel_rfl) (Or.inl ⟨by rfl, unib_val ?_⟩) ?_; rotate_left; (focus (intro w9 hSw; have q9 := T5_4.out.below hSw T5_4.out.lt; have q0 := q9.c0; have q1 := q9.c1; go_simp; try with_reducible rfl)); simp only [Act.put, List.setIfInBounds_toArray, List.set_cons_zero, List.set_cons_succ]
      refine wpG_take (i := 4) (oi := ⟨some 55, _, _, _, _, _⟩) rfl (by kernel_rfl) (by kernel_rfl) (by kernel_rfl) (Or.inl ⟨by rfl, unib_call ?_ M1C.out⟩) ?_; (focus (intro w9 hSw; go_simp; try with_reducible rfl)); simp only [Act.put, List.setIfInBounds_toArray, List.set_cons_zero, List.set_cons_succ]
      refine wpG_alloc (i := 5) (oi := ⟨some 12, _, _, _, _, _⟩) (z := #[.int .i64 0, .int .i64 0]) (t := 33) (by kernel_rfl) rfl ⟨by rfl, fun w9 hSw => by go_simp; try rfl⟩ ?_; intro g hg ng; simp only [Act.put, List.setIfInBounds_toArray, List.set_cons_zero, List.set_cons_succ]
      refine wpG_store (i := 6) (oi := ⟨none, _, _, _, _, _⟩) (v := undef) [(g, #[.int .i64 u, .int .i64 v], 33)] (by kernel_rfl) rfl ⟨by rfl, fun w9 hSw hO => ?_⟩ ?_; (focus (have q9 : StAt w9 g 0 0 := hO _ (.head _); have q0 := q9.c0; have q1 := q9.c1; have f0 := q9.fz 0; have f1 := q9.fz 1; refine ⟨_, Or.inr ⟨by go_simp; try rfl, rfl⟩, below_put hSw hg _ _, ?_⟩; intro x hx; obtain rfl := List.mem_singleton.1 hx; exact q9.put u v)); simp only [Act.put]
      refine wpG_done (by kernel_rfl) ?_ _
      intro w5 hb hO
      have T3_5 := Lib.hid (T3_4.out.below hb T3_4.out.lt)
      have T4_5 := Lib.hid (T4_4.out.below hb T4_4.out.lt)
      have T5_5 := Lib.hid (T5_4.out.below hb T5_4.out.lt)
      have T12_5 := Lib.hid (show StAt _ g u v from hO _ (.head _))
      have B8 := Lib.hid (B7.out.trans (hb.mono B7.out.size))
      clear hb hO
      go_wp2_with fail
      refine wp_region_G w5 (by kernel_rfl) ?_
      refine wpG_take (i := 0) (oi := ⟨some 56, _, _, _, _, _⟩) (v := ?_) rfl (by kernel_rfl) (by kernel_rfl) (by kernel_rfl) (Or.inl ⟨by rfl, unib_val ?_⟩) ?_; rotate_left; (focus (intro w9 hSw; go_simp; try with_reducible rfl)); simp only [Act.put, List.setIfInBounds_toArray, List.set_cons_zero, List.set_cons_succ]
      refine wpG_take (i := 1) (oi := ⟨some 57, _, _, _, _, _⟩) (v := ?_) rfl (by kernel_rfl) (by kernel_rfl) (by kernel_rfl) (Or.inl ⟨by rfl, unib_val ?_⟩) ?_; rotate_left; (focus (intro w9 hSw; go_simp; try with_reducible rfl)); simp only [Act.put, List.setIfInBounds_toArray, List.set_cons_zero, List.set_cons_succ]
      refine wpG_take (i := 2) (oi := ⟨some 58, _, _, _, _, _⟩) (v := ?_) rfl (by kernel_rfl) (by kernel_rfl) (by kernel_rfl) (Or.inl ⟨by rfl, unib_val ?_⟩) ?_; rotate_left; (focus (intro w9 hSw; go_simp; try with_reducible rfl)); simp only [Act.put, List.setIfInBounds_toArray, List.set_cons_zero, List.set_cons_succ]
      refine wpG_take (i := 3) (oi := ⟨some 59, _, _, _, _, _⟩) (v := ?_) rfl (by kernel_rfl) (by kernel_rfl) (by kernel_rfl) (Or.inl ⟨by rfl, unib_val ?_⟩) ?_; rotate_left; (focus (intro w9 hSw; go_simp; try with_reducible rfl)); simp only [Act.put, List.setIfInBounds_toArray, List.set_cons_zero, List.set_cons_succ]
      refine wpG_take (i := 4) (oi := ⟨some 60, _, _, _, _, _⟩) (v := ?_) rfl (by kernel_rfl) (by kernel_rfl) (by kernel_rfl) (Or.inl ⟨by rfl, unib_val ?_⟩) ?_; rotate_left; (focus (intro w9 hSw; go_simp; try with_reducible rfl)); simp only [Act.put, List.setIfInBounds_toArray, List.set_cons_zero, List.set_cons_succ]
      refine wpG_take (i := 5) (oi := ⟨some 61, _, _, _, _, _⟩) (v := ?_) rfl (by kernel_rfl) (by kernel_rfl) (by kernel_rfl) (Or.inl ⟨by rfl, unib_val ?_⟩) ?_; rotate_left; (focus (intro w9 hSw; have q9 := T12_5.out.below hSw T12_5.out.lt; have q0 := q9.c0; have q1 := q9.c1; go_simp; try with_reducible rfl)); simp only [Act.put, List.setIfInBounds_toArray, List.set_cons_zero, List.set_cons_succ]
      refine wpG_take (i := 6) (oi := ⟨some 62, _, _, _, _, _⟩) (v := ?_) rfl (by kernel_rfl) (by kernel_rfl) (by kernel_rfl) (Or.inl ⟨by rfl, unib_val ?_⟩) ?_; rotate_left; (focus (intro w9 hSw; have q9 := T3_5.out.below hSw T3_5.out.lt; have q0 := q9.c0; have q1 := q9.c1; go_simp; try with_reducible rfl)); simp only [Act.put, List.setIfInBounds_toArray, List.set_cons_zero, List.set_cons_succ]
      refine wpG_take (i := 7) (oi := ⟨some 63, _, _, _, _, _⟩) (v := ?_) rfl (by kernel_rfl) (by kernel_rfl) (by kernel_rfl) (Or.inl ⟨by rfl, unib_val ?_⟩) ?_; rotate_left; (focus (intro w9 hSw; have q9 := T4_5.out.below hSw T4_5.out.lt; have q0 := q9.c0; have q1 := q9.c1; go_simp; try with_reducible rfl)); simp only [Act.put, List.setIfInBounds_toArray, List.set_cons_zero, List.set_cons_succ]
      refine wpG_take (i := 8) (oi := ⟨some 64, _, _, _, _, _⟩) (v := ?_) rfl (by kernel_rfl) (by kernel_rfl) (by kernel_rfl) (Or.inl ⟨by rfl, unib_val ?_⟩) ?_; rotate_left; (focus (intro w9 hSw; have q9 := T5_5.out.below hSw T5_5.out.lt; have q0 := q9.c0; have q1 := q9.c1; go_simp; try with_reducible rfl)); simp only [Act.put, List.setIfInBounds_toArray, List.set_cons_zero, List.set_cons_succ]
      refine wpG_take (i := 9) (oi := ⟨some 65, _, _, _, _, _⟩) rfl (by kernel_rfl) (by kernel_rfl) (by kernel_rfl) (Or.inl ⟨by rfl, unib_call ?_ MBC.out⟩) ?_; (focus (intro w9 hSw; go_simp; try with_reducible rfl)); simp only [Act.put, List.setIfInBounds_toArray, List.set_cons_zero, List.set_cons_succ]
      refine wpG_take (i := 10) (oi := ⟨some 66, _, _, _, _, _⟩) rfl (by kernel_rfl) (by kernel_rfl) (by kernel_rfl) (Or.inl ⟨by rfl, unib_call ?_ MA2.out⟩) ?_; (focus (intro w9 hSw; go_simp; try with_reducible rfl)); simp only [Act.put, List.setIfInBounds_toArray, List.set_cons_zero, List.set_cons_succ]
      refine wpG_take (i := 11) (oi := ⟨some 67, _, _, _, _, _⟩) (v := ?_) rfl (by kernel_rfl) (by kernel_rfl) (by kernel_rfl) (Or.inl ⟨by rfl, unib_val ?_⟩) ?_; rotate_left; (focus (intro w9 hSw; go_simp; try with_reducible rfl)); simp only [Act.put, List.setIfInBounds_toArray, List.set_cons_zero, List.set_cons_succ]
      refine wpG_take (i := 12) (oi := ⟨some 68, _, _, _, _, _⟩) (v := ?_) rfl (by kernel_rfl) (by kernel_rfl) (by kernel_rfl) (Or.inl ⟨by rfl, unib_val ?_⟩) ?_; rotate_left; (focus (intro w9 hSw; go_simp; try with_reducible rfl)); simp only [Act.put, List.setIfInBounds_toArray, List.set_cons_zero, List.set_cons_succ]
      refine wpG_take (i := 13) (oi := ⟨some 69, _, _, _, _, _⟩) (v := ?_) rfl (by kernel_rfl) (by kernel_rfl) (by kernel_rfl) (Or.inl ⟨by rfl, unib_val ?_⟩) ?_; rotate_left; (focus (intro w9 hSw; go_simp; try with_reducible rfl)); simp only [Act.put, List.setIfInBounds_toArray, List.set_cons_zero, List.set_cons_succ]
      refine wpG_take (i := 14) (oi := ⟨some 70, _, _, _, _, _⟩) (v := ?_) rfl (by kernel_rfl) (by kernel_rfl) (by kernel_rfl) (Or.inl ⟨by rfl, unib_val ?_⟩) ?_; rotate_left; (focus (intro w9 hSw; have q9 := T3_5.out.below hSw T3_5.out.lt; have q0 := q9.c0; have q1 := q9.c1; go_simp; try with_reducible rfl)); simp only [Act.put, List.setIfInBounds_toArray, List.set_cons_zero, List.set_cons_succ]
      refine wpG_take (i := 15) (oi := ⟨some 71, _, _, _, _, _⟩) (v := ?_) rfl (by kernel_rfl) (by kernel_rfl) (by kernel_rfl) (Or.inl ⟨by rfl, unib_val ?_⟩) ?_; rotate_left; (focus (intro w9 hSw; have q9 := T4_5.out.below hSw T4_5.out.lt; have q0 := q9.c0; have q1 := q9.c1; go_simp; try with_reducible rfl)); simp only [Act.put, List.setIfInBounds_toArray, List.set_cons_zero, List.set_cons_succ]
      refine wpG_take (i := 16) (oi := ⟨some 72, _, _, _, _, _⟩) rfl (by kernel_rfl) (by kernel_rfl) (by kernel_rfl) (Or.inl ⟨by rfl, unib_call ?_ MAB.out⟩) ?_; (focus (intro w9 hSw; go_simp; try with_reducible rfl)); simp only [Act.put, List.setIfInBounds_toArray, List.set_cons_zero, List.set_cons_succ]
      refine wpG_take (i := 17) (oi := ⟨some 73, _, _, _, _, _⟩) (v := ?_) rfl (by kernel_rfl) (by kernel_rfl) (by kernel_rfl) (Or.inl ⟨by rfl, unib_val ?_⟩) ?_; rotate_left; (focus (intro w9 hSw; have q9 := T4_5.out.below hSw T4_5.out.lt; have q0 := q9.c0; have q1 := q9.c1; go_simp; try with_reducible rfl)); simp only [Act.put, List.setIfInBounds_toArray, List.set_cons_zero, List.set_cons_succ]
      refine wpG_take (i := 18) (oi := ⟨some 74, _, _, _, _, _⟩) (v := ?_) rfl (by kernel_rfl) (by kernel_rfl) (by kernel_rfl) (Or.inl ⟨by rfl, unib_val ?_⟩) ?_; rotate_left; (focus (intro w9 hSw; have q9 := T3_5.out.below hSw T3_5.out.lt; have q0 := q9.c0; have q1 := q9.c1; go_simp; try with_reducible rfl)); simp only [Act.put, List.setIfInBounds_toArray, List.set_cons_zero, List.set_cons_succ]
      refine wpG_take (i := 19) (oi := ⟨some 75, _, _, _, _, _⟩) rfl (by kernel_rfl) (by kernel_rfl) (by kernel_rfl) (Or.inl ⟨by rfl, unib_call ?_ MBA.out⟩) ?_; (focus (intro w9 hSw; go_simp; try with_reducible rfl)); simp only [Act.put, List.setIfInBounds_toArray, List.set_cons_zero, List.set_cons_succ]
      refine wpG_take (i := 20) (oi := ⟨some 76, _, _, _, _, _⟩) (v := ?_) rfl (by kernel_rfl) (by kernel_rfl) (by kernel_rfl) (Or.inl ⟨by rfl, unib_val ?_⟩) ?_; rotate_left; (focus (intro w9 hSw; go_simp; try with_reducible rfl)); simp only [Act.put, List.setIfInBounds_toArray, List.set_cons_zero, List.set_cons_succ]
      refine wpG_take (i := 21) (oi := ⟨some 77, _, _, _, _, _⟩) (v := ?_) rfl (by kernel_rfl) (by kernel_rfl) (by kernel_rfl) (Or.inl ⟨by rfl, unib_val ?_⟩) ?_; rotate_left; (focus (intro w9 hSw; go_simp; try with_reducible rfl)); simp only [Act.put, List.setIfInBounds_toArray, List.set_cons_zero, List.set_cons_succ]
      refine wpG_take (i := 22) (oi := ⟨some 78, _, _, _, _, _⟩) (v := ?_) rfl (by kernel_rfl) (by kernel_rfl) (by kernel_rfl) (Or.inl ⟨by rfl, unib_val ?_⟩) ?_; rotate_left; (focus (intro w9 hSw; go_simp; try with_reducible rfl)); simp only [Act.put, List.setIfInBounds_toArray, List.set_cons_zero, List.set_cons_succ]
      refine wpG_take (i := 23) (oi := ⟨some 79, _, _, _, _, _⟩) (v := ?_) rfl (by kernel_rfl) (by kernel_rfl) (by kernel_rfl) (Or.inl ⟨by rfl, unib_val ?_⟩) ?_; rotate_left; (focus (intro w9 hSw; have q9 := T3_5.out.below hSw T3_5.out.lt; have q0 := q9.c0; have q1 := q9.c1; go_simp; try with_reducible rfl)); simp only [Act.put, List.setIfInBounds_toArray, List.set_cons_zero, List.set_cons_succ]
      refine wpG_take (i := 24) (oi := ⟨some 80, _, _, _, _, _⟩) (v := ?_) rfl (by kernel_rfl) (by kernel_rfl) (by kernel_rfl) (Or.inl ⟨by rfl, unib_val ?_⟩) ?_; rotate_left; (focus (intro w9 hSw; have q9 := T3_5.out.below hSw T3_5.out.lt; have q0 := q9.c0; have q1 := q9.c1; go_simp; try with_reducible rfl)); simp only [Act.put, List.setIfInBounds_toArray, List.set_cons_zero, List.set_cons_succ]
      refine wpG_take (i := 25) (oi := ⟨some 81, _, _, _, _, _⟩) rfl (by kernel_rfl) (by kernel_rfl) (by kernel_rfl) (Or.inl ⟨by rfl, unib_call ?_ MAA.out⟩) ?_; (focus (intro w9 hSw; go_simp; try with_reducible rfl)); simp only [Act.put, List.setIfInBounds_toArray, List.set_cons_zero, List.set_cons_succ]
      refine wpG_take (i := 26) (oi := ⟨some 82, _, _, _, _, _⟩) (v := ?_) rfl (by kernel_rfl) (by kernel_rfl) (by kernel_rfl) (Or.inl ⟨by rfl, unib_val ?_⟩) ?_; rotate_left; (focus (intro w9 hSw; have q9 := T3_5.out.below hSw T3_5.out.lt; have q0 := q9.c0; have q1 := q9.c1; go_simp; try with_reducible rfl)); simp only [Act.put, List.setIfInBounds_toArray, List.set_cons_zero, List.set_cons_succ]
      refine wpG_take (i := 27) (oi := ⟨some 83, _, _, _, _, _⟩) (v := ?_) rfl (by kernel_rfl) (by kernel_rfl) (by kernel_rfl) (Or.inl ⟨by rfl, unib_val ?_⟩) ?_; rotate_left; (focus (intro w9 hSw; go_simp; try with_reducible rfl)); simp only [Act.put, List.setIfInBounds_toArray, List.set_cons_zero, List.set_cons_succ]
      refine wpG_take (i := 28) (oi := ⟨some 84, _, _, _, _, _⟩) (v := ?_) rfl (by kernel_rfl) (by kernel_rfl) (by kernel_rfl) (Or.inl ⟨by rfl, unib_val ?_⟩) ?_; rotate_left; (focus (intro w9 hSw; go_simp; try with_reducible rfl)); simp only [Act.put, List.setIfInBounds_toArray, List.set_cons_zero, List.set_cons_succ]
      refine wpG_take (i := 29) (oi := ⟨some 85, _, _, _, _, _⟩) (v := ?_) rfl (by kernel_rfl) (by kernel_rfl) (by kernel_rfl) (Or.inl ⟨by rfl, unib_val ?_⟩) ?_; rotate_left; (focus (intro w9 hSw; go_simp; try with_reducible rfl)); simp only [Act.put, List.setIfInBounds_toArray, List.set_cons_zero, List.set_cons_succ]
      refine wpG_take (i := 30) (oi := ⟨some 86, _, _, _, _, _⟩) (v := ?_) rfl (by kernel_rfl) (by kernel_rfl) (by kernel_rfl) (Or.inl ⟨by rfl, unib_val ?_⟩) ?_; rotate_left; (focus (intro w9 hSw; have q9 := T12_5.out.below hSw T12_5.out.lt; have q0 := q9.c0; have q1 := q9.c1; go_simp; try with_reducible rfl)); simp only [Act.put, List.setIfInBounds_toArray, List.set_cons_zero, List.set_cons_succ]
      refine wpG_take (i := 31) (oi := ⟨some 87, _, _, _, _, _⟩) (v := ?_) rfl (by kernel_rfl) (by kernel_rfl) (by kernel_rfl) (Or.inl ⟨by rfl, unib_val ?_⟩) ?_; rotate_left; (focus (intro w9 hSw; have q9 := T3_5.out.below hSw T3_5.out.lt; have q0 := q9.c0; have q1 := q9.c1; go_simp; try with_reducible rfl)); simp only [Act.put, List.setIfInBounds_toArray, List.set_cons_zero, List.set_cons_succ]
      refine wpG_take (i := 32) (oi := ⟨some 88, _, _, _, _, _⟩) rfl (by kernel_rfl) (by kernel_rfl) (by kernel_rfl) (Or.inl ⟨by rfl, unib_call ?_ L1A.out⟩) ?_; (focus (intro w9 hSw; go_simp; try with_reducible rfl)); simp only [Act.put, List.setIfInBounds_toArray, List.set_cons_zero, List.set_cons_succ]
      refine wpG_take (i := 33) (oi := ⟨some 89, _, _, _, _, _⟩) (v := ?_) rfl (by kernel_rfl) (by kernel_rfl) (by kernel_rfl) (Or.inl ⟨by rfl, unib_val ?_⟩) ?_; rotate_left; (focus (intro w9 hSw; go_simp; try with_reducible rfl)); simp only [Act.put, List.setIfInBounds_toArray, List.set_cons_zero, List.set_cons_succ]
      refine wpG_take (i := 34) (oi := ⟨some 90, _, _, _, _, _⟩) (v := ?_) rfl (by kernel_rfl) (by kernel_rfl) (by kernel_rfl) (Or.inl ⟨by rfl, unib_val ?_⟩) ?_; rotate_left; (focus (intro w9 hSw; go_simp; try with_reducible rfl)); simp only [Act.put, List.setIfInBounds_toArray, List.set_cons_zero, List.set_cons_succ]
      refine wpG_take (i := 35) (oi := ⟨some 91, _, _, _, _, _⟩) (v := ?_) rfl (by kernel_rfl) (by kernel_rfl) (by kernel_rfl) (Or.inl ⟨by rfl, unib_val ?_⟩) ?_; rotate_left; (focus (intro w9 hSw; go_simp; try with_reducible rfl)); simp only [Act.put, List.setIfInBounds_toArray, List.set_cons_zero, List.set_cons_succ]
      refine wpG_take (i := 36) (oi := ⟨some 92, _, _, _, _, _⟩) (v := ?_) rfl (by kernel_rfl) (by kernel_rfl) (by kernel_rfl) (Or.inl ⟨by rfl, unib_val ?_⟩) ?_; rotate_left; (focus (intro w9 hSw; have q9 := T12_5.out.below hSw T12_5.out.lt; have q0 := q9.c0; have q1 := q9.c1; go_simp; try with_reducible rfl)); simp only [Act.put, List.setIfInBounds_toArray, List.set_cons_zero, List.set_cons_succ]
      refine wpG_take (i := 37) (oi := ⟨some 93, _, _, _, _, _⟩) (v := ?_) rfl (by kernel_rfl) (by kernel_rfl) (by kernel_rfl) (Or.inl ⟨by rfl, unib_val ?_⟩) ?_; rotate_left; (focus (intro w9 hSw; have q9 := T5_5.out.below hSw T5_5.out.lt; have q0 := q9.c0; have q1 := q9.c1; go_simp; try with_reducible rfl)); simp only [Act.put, List.setIfInBounds_toArray, List.set_cons_zero, List.set_cons_succ]
      refine wpG_take (i := 38) (oi := ⟨some 94, _, _, _, _, _⟩) rfl (by kernel_rfl) (by kernel_rfl) (by kernel_rfl) (Or.inl ⟨by rfl, unib_call ?_ L1C.out⟩) ?_; (focus (intro w9 hSw; go_simp; try with_reducible rfl)); simp only [Act.put, List.setIfInBounds_toArray, List.set_cons_zero, List.set_cons_succ]
      refine wpG_take (i := 39) (oi := ⟨some 95, _, _, _, _, _⟩) (v := ?_) rfl (by kernel_rfl) (by kernel_rfl) (by kernel_rfl) (Or.inl ⟨by rfl, unib_val ?_⟩) ?_; rotate_left; (focus (intro w9 hSw; go_simp; try with_reducible rfl)); simp only [Act.put, List.setIfInBounds_toArray, List.set_cons_zero, List.set_cons_succ]
      refine wpG_take (i := 40) (oi := ⟨some 96, _, _, _, _, _⟩) (v := ?_) rfl (by kernel_rfl) (by kernel_rfl) (by kernel_rfl) (Or.inl ⟨by rfl, unib_val ?_⟩) ?_; rotate_left; (focus (intro w9 hSw; go_simp; try with_reducible rfl)); simp only [Act.put, List.setIfInBounds_toArray, List.set_cons_zero, List.set_cons_succ]
      refine wpG_take (i := 41) (oi := ⟨some 6, _, _, _, _, _⟩) (v := ?_) rfl (by kernel_rfl) (by kernel_rfl) (by kernel_rfl) (Or.inl ⟨by rfl, unib_val ?_⟩) ?_; rotate_left; (focus (intro w9 hSw; go_simp; try with_reducible rfl)); simp only [Act.put, List.setIfInBounds_toArray, List.set_cons_zero, List.set_cons_succ]
      refine wpG_done (by kernel_rfl) ?_ _
      intro w9 hSw hO
      go_wp2
      go_ret
      exact ⟨rfl, B8.out.trans (hSw.mono B8.out.size)⟩
    · have hy : stLess m s n r = false := by rw [stLess_iff] at hx; rw [st_no]; omega
      rw [hx] at LAB
      rw [hy] at LBA
      cases hz : stLess m s p q
      · rw [hz] at LBC
        clear hx hy hz LAC h0
        unfold st at *
        have hne := st_ne heq.out
        have B0 := Lib.hid (Below.refl w.heap.size w)
        have T3n := StAt.new w n r
        have T3 := Lib.hid (T3n)
        clear T3n
        have B1 := Lib.hid (B0.out.alloc B0.out.size (.cells #[.int .i64 n, .int .i64 r] 33))
        have T3' := Lib.hid (T3.out.old (.cells #[.int .i64 m, .int .i64 s] 33))
        have T4n := StAt.new (w.alloc (.cells #[.int .i64 n, .int .i64 r] 33)) m s
        simp only [World.size_alloc] at T4n
        have T4 := Lib.hid (T4n)
        clear T4n
        have B2 := Lib.hid (B1.out.alloc B1.out.size (.cells #[.int .i64 m, .int .i64 s] 33))
        have T3'' := Lib.hid (T3'.out.old (.cells #[.int .i64 p, .int .i64 q] 33))
        have T4' := Lib.hid (T4.out.old (.cells #[.int .i64 p, .int .i64 q] 33))
        have T5n := StAt.new ((w.alloc (.cells #[.int .i64 n, .int .i64 r] 33)).alloc (.cells #[.int .i64 m, .int .i64 s] 33)) p q
        simp only [World.size_alloc] at T5n
        have T5 := Lib.hid (T5n)
        clear T5n
        have B3 := Lib.hid (B2.out.alloc B2.out.size (.cells #[.int .i64 p, .int .i64 q] 33))
        go_enter Try.func6, Try.ntmps6
        go_wp2_with fail
        refine (stAwake _).mono ?_
        rintro e w1 ⟨rfl, hb⟩
        have T3_1 := Lib.hid (T3''.out.below hb T3''.out.lt)
        have T4_1 := Lib.hid (T4'.out.below hb T4'.out.lt)
        have T5_1 := Lib.hid (T5.out.below hb T5.out.lt)
        have B4 := Lib.hid (B3.out.trans (hb.mono B3.out.size))
        clear hb
        have c30 := T3_1.out.c0
        have c31 := T3_1.out.c1
        have c40 := T4_1.out.c0
        have c41 := T4_1.out.c1
        have c50 := T5_1.out.c0
        have c51 := T5_1.out.c1
        go_wp2_with fail
        refine (LAB.out _).mono ?_
        rintro e w2 ⟨rfl, hb⟩
        have T3_2 := Lib.hid (T3_1.out.below hb T3_1.out.lt)
        have T4_2 := Lib.hid (T4_1.out.below hb T4_1.out.lt)
        have T5_2 := Lib.hid (T5_1.out.below hb T5_1.out.lt)
        have B5 := Lib.hid (B4.out.trans (hb.mono B4.out.size))
        clear hb
        clear c30 c31 c40 c41 c50 c51
        have c30 := T3_2.out.c0
        have c31 := T3_2.out.c1
        have c40 := T4_2.out.c0
        have c41 := T4_2.out.c1
        have c50 := T5_2.out.c0
        have c51 := T5_2.out.c1
        go_wp2_with fail
        refine (LBA.out _).mono ?_
        rintro e w3 ⟨rfl, hb⟩
        have T3_3 := Lib.hid (T3_2.out.below hb T3_2.out.lt)
        have T4_3 := Lib.hid (T4_2.out.below hb T4_2.out.lt)
        have T5_3 := Lib.hid (T5_2.out.below hb T5_2.out.lt)
        have B6 := Lib.hid (B5.out.trans (hb.mono B5.out.size))
        clear hb
        clear c30 c31 c40 c41 c50 c51
        have c30 := T3_3.out.c0
        have c31 := T3_3.out.c1
        have c40 := T4_3.out.c0
        have c41 := T4_3.out.c1
        have c50 := T5_3.out.c0
        have c51 := T5_3.out.c1
        go_wp2_with fail
        refine (LBC.out _).mono ?_
        rintro e w4 ⟨rfl, hb⟩
        have T3_4 := Lib.hid (T3_3.out.below hb T3_3.out.lt)
        have T4_4 := Lib.hid (T4_3.out.below hb T4_3.out.lt)
        have T5_4 := Lib.hid (T5_3.out.below hb T5_3.out.lt)
        have B7 := Lib.hid (B6.out.trans (hb.mono B6.out.size))
        clear hb
        clear c30 c31 c40 c41 c50 c51
        have c30 := T3_4.out.c0
        have c31 := T3_4.out.c1
        have c40 := T4_4.out.c0
        have c41 := T4_4.out.c1
        have c50 := T5_4.out.c0
        have c51 := T5_4.out.c1
        go_wp2_with fail
        clear c30 c31 c40 c41 c50 c51
        refine wp_region_G w4 (by kernel_rfl) ?_
        refine wpG_take (i := 0) (oi := ⟨some 51, _, _, _, _, _⟩) (v := ?_) rfl (by kernel_rfl) (by kernel_rfl) (by kernel_rfl) (Or.inl ⟨by rfl, unib_val ?_⟩) ?_; rotate_left; (focus (intro w9 hSw; have q9 := T3_4.out.below hSw T3_4.out.lt; have q0 := q9.c0; have q1 := q9.c1; go_simp; try with_reducible rfl)); simp only [Act.put, List.setIfInBounds_toArray, List.set_cons_zero, List.set_cons_succ]
        refine wpG_take (i := 1) (oi := ⟨some 52, _, _, _, _, _⟩) (v := ?_) rfl (by kernel_rfl) (by kernel_rfl) (by kernel_rfl) (Or.inl ⟨by rfl, unib_val ?_⟩) ?_; rotate_left; (focus (intro w9 hSw; have q9 := T4_4.out.below hSw T4_4.out.lt; have q0 := q9.c0; have q1 := q9.c1; go_simp; try with_reducible rfl)); simp only [Act.put, List.setIfInBounds_toArray, List.set_cons_zero, List.set_cons_succ]
        refine wpG_take (i := 2) (oi := ⟨some 53, _, _, _, _, _⟩) rfl (by kernel_rfl) (by kernel_rfl) (by kernel_rfl) (Or.inl ⟨by rfl, unib_call ?_ MAB.out⟩) ?_; (focus (intro w9 hSw; go_simp; try with_reducible rfl)); simp only [Act.put, List.setIfInBounds_toArray, List.set_cons_zero, List.set_cons_succ]
        refine wpG_take (i := 3) (oi := ⟨some 54, _, _, _, _, _⟩) (v := ?_) rfl (by kernel_rfl) (by kernel_rfl) (by kernel_rfl) (Or.inl ⟨by rfl, unib_val ?_⟩) ?_; rotate_left; (focus (intro w9 hSw; have q9 := T5_4.out.below hSw T5_4.out.lt; have q0 := q9.c0; have q1 := q9.c1; go_simp; try with_reducible rfl)); simp only [Act.put, List.setIfInBounds_toArray, List.set_cons_zero, List.set_cons_succ]
        refine wpG_take (i := 4) (oi := ⟨some 55, _, _, _, _, _⟩) rfl (by kernel_rfl) (by kernel_rfl) (by kernel_rfl) (Or.inl ⟨by rfl, unib_call ?_ M1C.out⟩) ?_; (focus (intro w9 hSw; go_simp; try with_reducible rfl)); simp only [Act.put, List.setIfInBounds_toArray, List.set_cons_zero, List.set_cons_succ]
        refine wpG_alloc (i := 5) (oi := ⟨some 12, _, _, _, _, _⟩) (z := #[.int .i64 0, .int .i64 0]) (t := 33) (by kernel_rfl) rfl ⟨by rfl, fun w9 hSw => by go_simp; try rfl⟩ ?_; intro g hg ng; simp only [Act.put, List.setIfInBounds_toArray, List.set_cons_zero, List.set_cons_succ]
        refine wpG_store (i := 6) (oi := ⟨none, _, _, _, _, _⟩) (v := undef) [(g, #[.int .i64 u, .int .i64 v], 33)] (by kernel_rfl) rfl ⟨by rfl, fun w9 hSw hO => ?_⟩ ?_; (focus (have q9 : StAt w9 g 0 0 := hO _ (.head _); have q0 := q9.c0; have q1 := q9.c1; have f0 := q9.fz 0; have f1 := q9.fz 1; refine ⟨_, Or.inr ⟨by go_simp; try rfl, rfl⟩, below_put hSw hg _ _, ?_⟩; intro x hx; obtain rfl := List.mem_singleton.1 hx; exact q9.put u v)); simp only [Act.put]
        refine wpG_done (by kernel_rfl) ?_ _
        intro w5 hb hO
        have T3_5 := Lib.hid (T3_4.out.below hb T3_4.out.lt)
        have T4_5 := Lib.hid (T4_4.out.below hb T4_4.out.lt)
        have T5_5 := Lib.hid (T5_4.out.below hb T5_4.out.lt)
        have T12_5 := Lib.hid (show StAt _ g u v from hO _ (.head _))
        have B8 := Lib.hid (B7.out.trans (hb.mono B7.out.size))
        clear hb hO
        go_wp2_with fail
        refine wp_region_G w5 (by kernel_rfl) ?_
        refine wpG_take (i := 0) (oi := ⟨some 56, _, _, _, _, _⟩) (v := ?_) rfl (by kernel_rfl) (by kernel_rfl) (by kernel_rfl) (Or.inl ⟨by rfl, unib_val ?_⟩) ?_; rotate_left; (focus (intro w9 hSw; go_simp; try with_reducible rfl)); simp only [Act.put, List.setIfInBounds_toArray, List.set_cons_zero, List.set_cons_succ]
        refine wpG_take (i := 1) (oi := ⟨some 57, _, _, _, _, _⟩) (v := ?_) rfl (by kernel_rfl) (by kernel_rfl) (by kernel_rfl) (Or.inl ⟨by rfl, unib_val ?_⟩) ?_; rotate_left; (focus (intro w9 hSw; go_simp; try with_reducible rfl)); simp only [Act.put, List.setIfInBounds_toArray, List.set_cons_zero, List.set_cons_succ]
        refine wpG_take (i := 2) (oi := ⟨some 58, _, _, _, _, _⟩) (v := ?_) rfl (by kernel_rfl) (by kernel_rfl) (by kernel_rfl) (Or.inl ⟨by rfl, unib_val ?_⟩) ?_; rotate_left; (focus (intro w9 hSw; go_simp; try with_reducible rfl)); simp only [Act.put, List.setIfInBounds_toArray, List.set_cons_zero, List.set_cons_succ]
        refine wpG_take (i := 3) (oi := ⟨some 59, _, _, _, _, _⟩) (v := ?_) rfl (by kernel_rfl) (by kernel_rfl) (by kernel_rfl) (Or.inl ⟨by rfl, unib_val ?_⟩) ?_; rotate_left; (focus (intro w9 hSw; go_simp; try with_reducible rfl)); simp only [Act.put, List.setIfInBounds_toArray, List.set_cons_zero, List.set_cons_succ]
        refine wpG_take (i := 4) (oi := ⟨some 60, _, _, _, _, _⟩) (v := ?_) rfl (by kernel_rfl) (by kernel_rfl) (by kernel_rfl) (Or.inl ⟨by rfl, unib_val ?_⟩) ?_; rotate_left; (focus (intro w9 hSw; go_simp; try with_reducible rfl)); simp only [Act.put, List.setIfInBounds_toArray, List.set_cons_zero, List.set_cons_succ]
        refine wpG_take (i := 5) (oi := ⟨some 61, _, _, _, _, _⟩) (v := ?_) rfl (by kernel_rfl) (by kernel_rfl) (by kernel_rfl) (Or.inl ⟨by rfl, unib_val ?_⟩) ?_; rotate_left; (focus (intro w9 hSw; have q9 := T12_5.out.below hSw T12_5.out.lt; have q0 := q9.c0; have q1 := q9.c1; go_simp; try with_reducible rfl)); simp only [Act.put, List.setIfInBounds_toArray, List.set_cons_zero, List.set_cons_succ]
        refine wpG_take (i := 6) (oi := ⟨some 62, _, _, _, _, _⟩) (v := ?_) rfl (by kernel_rfl) (by kernel_rfl) (by kernel_rfl) (Or.inl ⟨by rfl, unib_val ?_⟩) ?_; rotate_left; (focus (intro w9 hSw; have q9 := T3_5.out.below hSw T3_5.out.lt; have q0 := q9.c0; have q1 := q9.c1; go_simp; try with_reducible rfl)); simp only [Act.put, List.setIfInBounds_toArray, List.set_cons_zero, List.set_cons_succ]
        refine wpG_take (i := 7) (oi := ⟨some 63, _, _, _, _, _⟩) (v := ?_) rfl (by kernel_rfl) (by kernel_rfl) (by kernel_rfl) (Or.inl ⟨by rfl, unib_val ?_⟩) ?_; rotate_left; (focus (intro w9 hSw; have q9 := T4_5.out.below hSw T4_5.out.lt; have q0 := q9.c0; have q1 := q9.c1; go_simp; try with_reducible rfl)); simp only [Act.put, List.setIfInBounds_toArray, List.set_cons_zero, List.set_cons_succ]
        refine wpG_take (i := 8) (oi := ⟨some 64, _, _, _, _, _⟩) (v := ?_) rfl (by kernel_rfl) (by kernel_rfl) (by kernel_rfl) (Or.inl ⟨by rfl, unib_val ?_⟩) ?_; rotate_left; (focus (intro w9 hSw; have q9 := T5_5.out.below hSw T5_5.out.lt; have q0 := q9.c0; have q1 := q9.c1; go_simp; try with_reducible rfl)); simp only [Act.put, List.setIfInBounds_toArray, List.set_cons_zero, List.set_cons_succ]
        refine wpG_take (i := 9) (oi := ⟨some 65, _, _, _, _, _⟩) rfl (by kernel_rfl) (by kernel_rfl) (by kernel_rfl) (Or.inl ⟨by rfl, unib_call ?_ MBC.out⟩) ?_; (focus (intro w9 hSw; go_simp; try with_reducible rfl)); simp only [Act.put, List.setIfInBounds_toArray, List.set_cons_zero, List.set_cons_succ]
        refine wpG_take (i := 10) (oi := ⟨some 66, _, _, _, _, _⟩) rfl (by kernel_rfl) (by kernel_rfl) (by kernel_rfl) (Or.inl ⟨by rfl, unib_call ?_ MA2.out⟩) ?_; (focus (intro w9 hSw; go_simp; try with_reducible rfl)); simp only [Act.put, List.setIfInBounds_toArray, List.set_cons_zero, List.set_cons_succ]
        refine wpG_take (i := 11) (oi := ⟨some 67, _, _, _, _, _⟩) (v := ?_) rfl (by kernel_rfl) (by kernel_rfl) (by kernel_rfl) (Or.inl ⟨by rfl, unib_val ?_⟩) ?_; rotate_left; (focus (intro w9 hSw; go_simp; try with_reducible rfl)); simp only [Act.put, List.setIfInBounds_toArray, List.set_cons_zero, List.set_cons_succ]
        refine wpG_take (i := 12) (oi := ⟨some 68, _, _, _, _, _⟩) (v := ?_) rfl (by kernel_rfl) (by kernel_rfl) (by kernel_rfl) (Or.inl ⟨by rfl, unib_val ?_⟩) ?_; rotate_left; (focus (intro w9 hSw; go_simp; try with_reducible rfl)); simp only [Act.put, List.setIfInBounds_toArray, List.set_cons_zero, List.set_cons_succ]
        refine wpG_take (i := 13) (oi := ⟨some 69, _, _, _, _, _⟩) (v := ?_) rfl (by kernel_rfl) (by kernel_rfl) (by kernel_rfl) (Or.inl ⟨by rfl, unib_val ?_⟩) ?_; rotate_left; (focus (intro w9 hSw; go_simp; try with_reducible rfl)); simp only [Act.put, List.setIfInBounds_toArray, List.set_cons_zero, List.set_cons_succ]
        refine wpG_take (i := 14) (oi := ⟨some 70, _, _, _, _, _⟩) (v := ?_) rfl (by kernel_rfl) (by kernel_rfl) (by kernel_rfl) (Or.inl ⟨by rfl, unib_val ?_⟩) ?_; rotate_left; (focus (intro w9 hSw; have q9 := T3_5.out.below hSw T3_5.out.lt; have q0 := q9.c0; have q1 := q9.c1; go_simp; try with_reducible rfl)); simp only [Act.put, List.setIfInBounds_toArray, List.set_cons_zero, List.set_cons_succ]
        refine wpG_take (i := 15) (oi := ⟨some 71, _, _, _, _, _⟩) (v := ?_) rfl (by kernel_rfl) (by kernel_rfl) (by kernel_rfl) (Or.inl ⟨by rfl, unib_val ?_⟩) ?_; rotate_left; (focus (intro w9 hSw; have q9 := T4_5.out.below hSw T4_5.out.lt; have q0 := q9.c0; have q1 := q9.c1; go_simp; try with_reducible rfl)); simp only [Act.put, List.setIfInBounds_toArray, List.set_cons_zero, List.set_cons_succ]
        refine wpG_take (i := 16) (oi := ⟨some 72, _, _, _, _, _⟩) rfl (by kernel_rfl) (by kernel_rfl) (by kernel_rfl) (Or.inl ⟨by rfl, unib_call ?_ MAB.out⟩) ?_; (focus (intro w9 hSw; go_simp; try with_reducible rfl)); simp only [Act.put, List.setIfInBounds_toArray, List.set_cons_zero, List.set_cons_succ]
        refine wpG_take (i := 17) (oi := ⟨some 73, _, _, _, _, _⟩) (v := ?_) rfl (by kernel_rfl) (by kernel_rfl) (by kernel_rfl) (Or.inl ⟨by rfl, unib_val ?_⟩) ?_; rotate_left; (focus (intro w9 hSw; have q9 := T4_5.out.below hSw T4_5.out.lt; have q0 := q9.c0; have q1 := q9.c1; go_simp; try with_reducible rfl)); simp only [Act.put, List.setIfInBounds_toArray, List.set_cons_zero, List.set_cons_succ]
        refine wpG_take (i := 18) (oi := ⟨some 74, _, _, _, _, _⟩) (v := ?_) rfl (by kernel_rfl) (by kernel_rfl) (by kernel_rfl) (Or.inl ⟨by rfl, unib_val ?_⟩) ?_; rotate_left; (focus (intro w9 hSw; have q9 := T3_5.out.below hSw T3_5.out.lt; have q0 := q9.c0; have q1 := q9.c1; go_simp; try with_reducible rfl)); simp only [Act.put, List.setIfInBounds_toArray, List.set_cons_zero, List.set_cons_succ]
        refine wpG_take (i := 19) (oi := ⟨some 75, _, _, _, _, _⟩) rfl (by kernel_rfl) (by kernel_rfl) (by kernel_rfl) (Or.inl ⟨by rfl, unib_call ?_ MBA.out⟩) ?_; (focus (intro w9 hSw; go_simp; try with_reducible rfl)); simp only [Act.put, List.setIfInBounds_toArray, List.set_cons_zero, List.set_cons_succ]
        refine wpG_take (i := 20) (oi := ⟨some 76, _, _, _, _, _⟩) (v := ?_) rfl (by kernel_rfl) (by kernel_rfl) (by kernel_rfl) (Or.inl ⟨by rfl, unib_val ?_⟩) ?_; rotate_left; (focus (intro w9 hSw; go_simp; try with_reducible rfl)); simp only [Act.put, List.setIfInBounds_toArray, List.set_cons_zero, List.set_cons_succ]
        refine wpG_take (i := 21) (oi := ⟨some 77, _, _, _, _, _⟩) (v := ?_) rfl (by kernel_rfl) (by kernel_rfl) (by kernel_rfl) (Or.inl ⟨by rfl, unib_val ?_⟩) ?_; rotate_left; (focus (intro w9 hSw; go_simp; try with_reducible rfl)); simp only [Act.put, List.setIfInBounds_toArray, List.set_cons_zero, List.set_cons_succ]
        refine wpG_take (i := 22) (oi := ⟨some 78, _, _, _, _, _⟩) (v := ?_) rfl (by kernel_rfl) (by kernel_rfl) (by kernel_rfl) (Or.inl ⟨by rfl, unib_val ?_⟩) ?_; rotate_left; (focus (intro w9 hSw; go_simp; try with_reducible rfl)); simp only [Act.put, List.setIfInBounds_toArray, List.set_cons_zero, List.set_cons_succ]
        refine wpG_take (i := 23) (oi := ⟨some 79, _, _, _, _, _⟩) (v := ?_) rfl (by kernel_rfl) (by kernel_rfl) (by kernel_rfl) (Or.inl ⟨by rfl, unib_val ?_⟩) ?_; rotate_left; (focus (intro w9 hSw; have q9 := T3_5.out.below hSw T3_5.out.lt; have q0 := q9.c0; have q1 := q9.c1; go_simp; try with_reducible rfl)); simp only [Act.put, List.setIfInBounds_toArray, List.set_cons_zero, List.set_cons_succ]
        refine wpG_take (i := 24) (oi := ⟨some 80, _, _, _, _, _⟩) (v := ?_) rfl (by kernel_rfl) (by kernel_rfl) (by kernel_rfl) (Or.inl ⟨by rfl, unib_val ?_⟩) ?_; rotate_left; (focus (intro w9 hSw; have q9 := T3_5.out.below hSw T3_5.out.lt; have q0 := q9.c0; have q1 := q9.c1; go_simp; try with_reducible rfl)); simp only [Act.put, List.setIfInBounds_toArray, List.set_cons_zero, List.set_cons_succ]
        refine wpG_take (i := 25) (oi := ⟨some 81, _, _, _, _, _⟩) rfl (by kernel_rfl) (by kernel_rfl) (by kernel_rfl) (Or.inl ⟨by rfl, unib_call ?_ MAA.out⟩) ?_; (focus (intro w9 hSw; go_simp; try with_reducible rfl)); simp only [Act.put, List.setIfInBounds_toArray, List.set_cons_zero, List.set_cons_succ]
        refine wpG_take (i := 26) (oi := ⟨some 82, _, _, _, _, _⟩) (v := ?_) rfl (by kernel_rfl) (by kernel_rfl) (by kernel_rfl) (Or.inl ⟨by rfl, unib_val ?_⟩) ?_; rotate_left; (focus (intro w9 hSw; have q9 := T3_5.out.below hSw T3_5.out.lt; have q0 := q9.c0; have q1 := q9.c1; go_simp; try with_reducible rfl)); simp only [Act.put, List.setIfInBounds_toArray, List.set_cons_zero, List.set_cons_succ]
        refine wpG_take (i := 27) (oi := ⟨some 83, _, _, _, _, _⟩) (v := ?_) rfl (by kernel_rfl) (by kernel_rfl) (by kernel_rfl) (Or.inl ⟨by rfl, unib_val ?_⟩) ?_; rotate_left; (focus (intro w9 hSw; go_simp; try with_reducible rfl)); simp only [Act.put, List.setIfInBounds_toArray, List.set_cons_zero, List.set_cons_succ]
        refine wpG_take (i := 28) (oi := ⟨some 84, _, _, _, _, _⟩) (v := ?_) rfl (by kernel_rfl) (by kernel_rfl) (by kernel_rfl) (Or.inl ⟨by rfl, unib_val ?_⟩) ?_; rotate_left; (focus (intro w9 hSw; go_simp; try with_reducible rfl)); simp only [Act.put, List.setIfInBounds_toArray, List.set_cons_zero, List.set_cons_succ]
        refine wpG_take (i := 29) (oi := ⟨some 85, _, _, _, _, _⟩) (v := ?_) rfl (by kernel_rfl) (by kernel_rfl) (by kernel_rfl) (Or.inl ⟨by rfl, unib_val ?_⟩) ?_; rotate_left; (focus (intro w9 hSw; go_simp; try with_reducible rfl)); simp only [Act.put, List.setIfInBounds_toArray, List.set_cons_zero, List.set_cons_succ]
        refine wpG_take (i := 30) (oi := ⟨some 86, _, _, _, _, _⟩) (v := ?_) rfl (by kernel_rfl) (by kernel_rfl) (by kernel_rfl) (Or.inl ⟨by rfl, unib_val ?_⟩) ?_; rotate_left; (focus (intro w9 hSw; have q9 := T12_5.out.below hSw T12_5.out.lt; have q0 := q9.c0; have q1 := q9.c1; go_simp; try with_reducible rfl)); simp only [Act.put, List.setIfInBounds_toArray, List.set_cons_zero, List.set_cons_succ]
        refine wpG_take (i := 31) (oi := ⟨some 87, _, _, _, _, _⟩) (v := ?_) rfl (by kernel_rfl) (by kernel_rfl) (by kernel_rfl) (Or.inl ⟨by rfl, unib_val ?_⟩) ?_; rotate_left; (focus (intro w9 hSw; have q9 := T3_5.out.below hSw T3_5.out.lt; have q0 := q9.c0; have q1 := q9.c1; go_simp; try with_reducible rfl)); simp only [Act.put, List.setIfInBounds_toArray, List.set_cons_zero, List.set_cons_succ]
        refine wpG_take (i := 32) (oi := ⟨some 88, _, _, _, _, _⟩) rfl (by kernel_rfl) (by kernel_rfl) (by kernel_rfl) (Or.inl ⟨by rfl, unib_call ?_ L1A.out⟩) ?_; (focus (intro w9 hSw; go_simp; try with_reducible rfl)); simp only [Act.put, List.setIfInBounds_toArray, List.set_cons_zero, List.set_cons_succ]
        refine wpG_take (i := 33) (oi := ⟨some 89, _, _, _, _, _⟩) (v := ?_) rfl (by kernel_rfl) (by kernel_rfl) (by kernel_rfl) (Or.inl ⟨by rfl, unib_val ?_⟩) ?_; rotate_left; (focus (intro w9 hSw; go_simp; try with_reducible rfl)); simp only [Act.put, List.setIfInBounds_toArray, List.set_cons_zero, List.set_cons_succ]
        refine wpG_take (i := 34) (oi := ⟨some 90, _, _, _, _, _⟩) (v := ?_) rfl (by kernel_rfl) (by kernel_rfl) (by kernel_rfl) (Or.inl ⟨by rfl, unib_val ?_⟩) ?_; rotate_left; (focus (intro w9 hSw; go_simp; try with_reducible rfl)); simp only [Act.put, List.setIfInBounds_toArray, List.set_cons_zero, List.set_cons_succ]
        refine wpG_take (i := 35) (oi := ⟨some 91, _, _, _, _, _⟩) (v := ?_) rfl (by kernel_rfl) (by kernel_rfl) (by kernel_rfl) (Or.inl ⟨by rfl, unib_val ?_⟩) ?_; rotate_left; (focus (intro w9 hSw; go_simp; try with_reducible rfl)); simp only [Act.put, List.setIfInBounds_toArray, List.set_cons_zero, List.set_cons_succ]
        refine wpG_take (i := 36) (oi := ⟨some 92, _, _, _, _, _⟩) (v := ?_) rfl (by kernel_rfl) (by kernel_rfl) (by kernel_rfl) (Or.inl ⟨by rfl, unib_val ?_⟩) ?_; rotate_left; (focus (intro w9 hSw; have q9 := T12_5.out.below hSw T12_5.out.lt; have q0 := q9.c0; have q1 := q9.c1; go_simp; try with_reducible rfl)); simp only [Act.put, List.setIfInBounds_toArray, List.set_cons_zero, List.set_cons_succ]
        refine wpG_take (i := 37) (oi := ⟨some 93, _, _, _, _, _⟩) (v := ?_) rfl (by kernel_rfl) (by kernel_rfl) (by kernel_rfl) (Or.inl ⟨by rfl, unib_val ?_⟩) ?_; rotate_left; (focus (intro w9 hSw; have q9 := T5_5.out.below hSw T5_5.out.lt; have q0 := q9.c0; have q1 := q9.c1; go_simp; try with_reducible rfl)); simp only [Act.put, List.setIfInBounds_toArray, List.set_cons_zero, List.set_cons_succ]
        refine wpG_take (i := 38) (oi := ⟨some 94, _, _, _, _, _⟩) rfl (by kernel_rfl) (by kernel_rfl) (by kernel_rfl) (Or.inl ⟨by rfl, unib_call ?_ L1C.out⟩) ?_; (focus (intro w9 hSw; go_simp; try with_reducible rfl)); simp only [Act.put, List.setIfInBounds_toArray, List.set_cons_zero, List.set_cons_succ]
        refine wpG_take (i := 39) (oi := ⟨some 95, _, _, _, _, _⟩) (v := ?_) rfl (by kernel_rfl) (by kernel_rfl) (by kernel_rfl) (Or.inl ⟨by rfl, unib_val ?_⟩) ?_; rotate_left; (focus (intro w9 hSw; go_simp; try with_reducible rfl)); simp only [Act.put, List.setIfInBounds_toArray, List.set_cons_zero, List.set_cons_succ]
        refine wpG_take (i := 40) (oi := ⟨some 96, _, _, _, _, _⟩) (v := ?_) rfl (by kernel_rfl) (by kernel_rfl) (by kernel_rfl) (Or.inl ⟨by rfl, unib_val ?_⟩) ?_; rotate_left; (focus (intro w9 hSw; go_simp; try with_reducible rfl)); simp only [Act.put, List.setIfInBounds_toArray, List.set_cons_zero, List.set_cons_succ]
        refine wpG_take (i := 41) (oi := ⟨some 6, _, _, _, _, _⟩) (v := ?_) rfl (by kernel_rfl) (by kernel_rfl) (by kernel_rfl) (Or.inl ⟨by rfl, unib_val ?_⟩) ?_; rotate_left; (focus (intro w9 hSw; go_simp; try with_reducible rfl)); simp only [Act.put, List.setIfInBounds_toArray, List.set_cons_zero, List.set_cons_succ]
        refine wpG_done (by kernel_rfl) ?_ _
        intro w9 hSw hO
        go_wp2
        go_ret
        exact ⟨rfl, B8.out.trans (hSw.mono B8.out.size)⟩
      · have hac : stLess n r p q = true := by rw [stLess_iff] at hx hz ⊢; omega
        rw [hz] at LBC
        rw [hac] at LAC
        clear hx hy hz hac h0
        unfold st at *
        have hne := st_ne heq.out
        have B0 := Lib.hid (Below.refl w.heap.size w)
        have T3n := StAt.new w n r
        have T3 := Lib.hid (T3n)
        clear T3n
        have B1 := Lib.hid (B0.out.alloc B0.out.size (.cells #[.int .i64 n, .int .i64 r] 33))
        have T3' := Lib.hid (T3.out.old (.cells #[.int .i64 m, .int .i64 s] 33))
        have T4n := StAt.new (w.alloc (.cells #[.int .i64 n, .int .i64 r] 33)) m s
        simp only [World.size_alloc] at T4n
        have T4 := Lib.hid (T4n)
        clear T4n
        have B2 := Lib.hid (B1.out.alloc B1.out.size (.cells #[.int .i64 m, .int .i64 s] 33))
        have T3'' := Lib.hid (T3'.out.old (.cells #[.int .i64 p, .int .i64 q] 33))
        have T4' := Lib.hid (T4.out.old (.cells #[.int .i64 p, .int .i64 q] 33))
        have T5n := StAt.new ((w.alloc (.cells #[.int .i64 n, .int .i64 r] 33)).alloc (.cells #[.int .i64 m, .int .i64 s] 33)) p q
        simp only [World.size_alloc] at T5n
        have T5 := Lib.hid (T5n)
        clear T5n
        have B3 := Lib.hid (B2.out.alloc B2.out.size (.cells #[.int .i64 p, .int .i64 q] 33))
        go_enter Try.func6, Try.ntmps6
        go_wp2_with fail
        refine (stAwake _).mono ?_
        rintro e w1 ⟨rfl, hb⟩
        have T3_1 := Lib.hid (T3''.out.below hb T3''.out.lt)
        have T4_1 := Lib.hid (T4'.out.below hb T4'.out.lt)
        have T5_1 := Lib.hid (T5.out.below hb T5.out.lt)
        have B4 := Lib.hid (B3.out.trans (hb.mono B3.out.size))
        clear hb
        have c30 := T3_1.out.c0
        have c31 := T3_1.out.c1
        have c40 := T4_1.out.c0
        have c41 := T4_1.out.c1
        have c50 := T5_1.out.c0
        have c51 := T5_1.out.c1
        go_wp2_with fail
        refine (LAB.out _).mono ?_
        rintro e w2 ⟨rfl, hb⟩
        have T3_2 := Lib.hid (T3_1.out.below hb T3_1.out.lt)
        have T4_2 := Lib.hid (T4_1.out.below hb T4_1.out.lt)
        have T5_2 := Lib.hid (T5_1.out.below hb T5_1.out.lt)
        have B5 := Lib.hid (B4.out.trans (hb.mono B4.out.size))
        clear hb
        clear c30 c31 c40 c41 c50 c51
        have c30 := T3_2.out.c0
        have c31 := T3_2.out.c1
        have c40 := T4_2.out.c0
        have c41 := T4_2.out.c1
        have c50 := T5_2.out.c0
        have c51 := T5_2.out.c1
        go_wp2_with fail
        refine (LBA.out _).mono ?_
        rintro e w3 ⟨rfl, hb⟩
        have T3_3 := Lib.hid (T3_2.out.below hb T3_2.out.lt)
        have T4_3 := Lib.hid (T4_2.out.below hb T4_2.out.lt)
        have T5_3 := Lib.hid (T5_2.out.below hb T5_2.out.lt)
        have B6 := Lib.hid (B5.out.trans (hb.mono B5.out.size))
        clear hb
        clear c30 c31 c40 c41 c50 c51
        have c30 := T3_3.out.c0
        have c31 := T3_3.out.c1
        have c40 := T4_3.out.c0
        have c41 := T4_3.out.c1
        have c50 := T5_3.out.c0
        have c51 := T5_3.out.c1
        go_wp2_with fail
        refine (LBC.out _).mono ?_
        rintro e w4 ⟨rfl, hb⟩
        have T3_4 := Lib.hid (T3_3.out.below hb T3_3.out.lt)
        have T4_4 := Lib.hid (T4_3.out.below hb T4_3.out.lt)
        have T5_4 := Lib.hid (T5_3.out.below hb T5_3.out.lt)
        have B7 := Lib.hid (B6.out.trans (hb.mono B6.out.size))
        clear hb
        clear c30 c31 c40 c41 c50 c51
        have c30 := T3_4.out.c0
        have c31 := T3_4.out.c1
        have c40 := T4_4.out.c0
        have c41 := T4_4.out.c1
        have c50 := T5_4.out.c0
        have c51 := T5_4.out.c1
        go_wp2_with fail
        refine (LAC.out _).mono ?_
        rintro e w5 ⟨rfl, hb⟩
        have T3_5 := Lib.hid (T3_4.out.below hb T3_4.out.lt)
        have T4_5 := Lib.hid (T4_4.out.below hb T4_4.out.lt)
        have T5_5 := Lib.hid (T5_4.out.below hb T5_4.out.lt)
        have B8 := Lib.hid (B7.out.trans (hb.mono B7.out.size))
        clear hb
        clear c30 c31 c40 c41 c50 c51
        have c30 := T3_5.out.c0
        have c31 := T3_5.out.c1
        have c40 := T4_5.out.c0
        have c41 := T4_5.out.c1
        have c50 := T5_5.out.c0
        have c51 := T5_5.out.c1
        go_wp2_with fail
        clear c30 c31 c40 c41 c50 c51
        refine wp_region_G w5 (by kernel_rfl) ?_
        refine wpG_take (i := 0) (oi := ⟨some 51, _, _, _, _, _⟩) (v := ?_) rfl (by kernel_rfl) (by kernel_rfl) (by kernel_rfl) (Or.inl ⟨by rfl, unib_val ?_⟩) ?_; rotate_left; (focus (intro w9 hSw; have q9 := T3_5.out.below hSw T3_5.out.lt; have q0 := q9.c0; have q1 := q9.c1; go_simp; try with_reducible rfl)); simp only [Act.put, List.setIfInBounds_toArray, List.set_cons_zero, List.set_cons_succ]
        refine wpG_take (i := 1) (oi := ⟨some 52, _, _, _, _, _⟩) (v := ?_) rfl (by kernel_rfl) (by kernel_rfl) (by kernel_rfl) (Or.inl ⟨by rfl, unib_val ?_⟩) ?_; rotate_left; (focus (intro w9 hSw; have q9 := T4_5.out.below hSw T4_5.out.lt; have q0 := q9.c0; have q1 := q9.c1; go_simp; try with_reducible rfl)); simp only [Act.put, List.setIfInBounds_toArray, List.set_cons_zero, List.set_cons_succ]
        refine wpG_take (i := 2) (oi := ⟨some 53, _, _, _, _, _⟩) rfl (by kernel_rfl) (by kernel_rfl) (by kernel_rfl) (Or.inl ⟨by rfl, unib_call ?_ MAB.out⟩) ?_; (focus (intro w9 hSw; go_simp; try with_reducible rfl)); simp only [Act.put, List.setIfInBounds_toArray, List.set_cons_zero, List.set_cons_succ]
        refine wpG_take (i := 3) (oi := ⟨some 54, _, _, _, _, _⟩) (v := ?_) rfl (by kernel_rfl) (by kernel_rfl) (by kernel_rfl) (Or.inl ⟨by rfl, unib_val ?_⟩) ?_; rotate_left; (focus (intro w9 hSw; have q9 := T5_5.out.below hSw T5_5.out.lt; have q0 := q9.c0; have q1 := q9.c1; go_simp; try with_reducible rfl)); simp only [Act.put, List.setIfInBounds_toArray, List.set_cons_zero, List.set_cons_succ]
        refine wpG_take (i := 4) (oi := ⟨some 55, _, _, _, _, _⟩) rfl (by kernel_rfl) (by kernel_rfl) (by kernel_rfl) (Or.inl ⟨by rfl, unib_call ?_ M1C.out⟩) ?_; (focus (intro w9 hSw; go_simp; try with_reducible rfl)); simp only [Act.put, List.setIfInBounds_toArray, List.set_cons_zero, List.set_cons_succ]
        refine wpG_alloc (i := 5) (oi := ⟨some 12, _, _, _, _, _⟩) (z := #[.int .i64 0, .int .i64 0]) (t := 33) (by kernel_rfl) rfl ⟨by rfl, fun w9 hSw => by go_simp; try rfl⟩ ?_; intro g hg ng; simp only [Act.put, List.setIfInBounds_toArray, List.set_cons_zero, List.set_cons_succ]
        refine wpG_store (i := 6) (oi := ⟨none, _, _, _, _, _⟩) (v := undef) [(g, #[.int .i64 u, .int .i64 v], 33)] (by kernel_rfl) rfl ⟨by rfl, fun w9 hSw hO => ?_⟩ ?_; (focus (have q9 : StAt w9 g 0 0 := hO _ (.head _); have q0 := q9.c0; have q1 := q9.c1; have f0 := q9.fz 0; have f1 := q9.fz 1; refine ⟨_, Or.inr ⟨by go_simp; try rfl, rfl⟩, below_put hSw hg _ _, ?_⟩; intro x hx; obtain rfl := List.mem_singleton.1 hx; exact q9.put u v)); simp only [Act.put]
        refine wpG_done (by kernel_rfl) ?_ _
        intro w6 hb hO
        have T3_6 := Lib.hid (T3_5.out.below hb T3_5.out.lt)
        have T4_6 := Lib.hid (T4_5.out.below hb T4_5.out.lt)
        have T5_6 := Lib.hid (T5_5.out.below hb T5_5.out.lt)
        have T12_6 := Lib.hid (show StAt _ g u v from hO _ (.head _))
        have B9 := Lib.hid (B8.out.trans (hb.mono B8.out.size))
        clear hb hO
        go_wp2_with fail
        refine wp_region_G w6 (by kernel_rfl) ?_
        refine wpG_take (i := 0) (oi := ⟨some 56, _, _, _, _, _⟩) (v := ?_) rfl (by kernel_rfl) (by kernel_rfl) (by kernel_rfl) (Or.inl ⟨by rfl, unib_val ?_⟩) ?_; rotate_left; (focus (intro w9 hSw; go_simp; try with_reducible rfl)); simp only [Act.put, List.setIfInBounds_toArray, List.set_cons_zero, List.set_cons_succ]
        refine wpG_take (i := 1) (oi := ⟨some 57, _, _, _, _, _⟩) (v := ?_) rfl (by kernel_rfl) (by kernel_rfl) (by kernel_rfl) (Or.inl ⟨by rfl, unib_val ?_⟩) ?_; rotate_left; (focus (intro w9 hSw; go_simp; try with_reducible rfl)); simp only [Act.put, List.setIfInBounds_toArray, List.set_cons_zero, List.set_cons_succ]
        refine wpG_take (i := 2) (oi := ⟨some 58, _, _, _, _, _⟩) (v := ?_) rfl (by kernel_rfl) (by kernel_rfl) (by kernel_rfl) (Or.inl ⟨by rfl, unib_val ?_⟩) ?_; rotate_left; (focus (intro w9 hSw; go_simp; try with_reducible rfl)); simp only [Act.put, List.setIfInBounds_toArray, List.set_cons_zero, List.set_cons_succ]
        refine wpG_take (i := 3) (oi := ⟨some 59, _, _, _, _, _⟩) (v := ?_) rfl (by kernel_rfl) (by kernel_rfl) (by kernel_rfl) (Or.inl ⟨by rfl, unib_val ?_⟩) ?_; rotate_left; (focus (intro w9 hSw; go_simp; try with_reducible rfl)); simp only [Act.put, List.setIfInBounds_toArray, List.set_cons_zero, List.set_cons_succ]
        refine wpG_take (i := 4) (oi := ⟨some 60, _, _, _, _, _⟩) (v := ?_) rfl (by kernel_rfl) (by kernel_rfl) (by kernel_rfl) (Or.inl ⟨by rfl, unib_val ?_⟩) ?_; rotate_left; (focus (intro w9 hSw; go_simp; try with_reducible rfl)); simp only [Act.put, List.setIfInBounds_toArray, List.set_cons_zero, List.set_cons_succ]
        refine wpG_take (i := 5) (oi := ⟨some 61, _, _, _, _, _⟩) (v := ?_) rfl (by kernel_rfl) (by kernel_rfl) (by kernel_rfl) (Or.inl ⟨by rfl, unib_val ?_⟩) ?_; rotate_left; (focus (intro w9 hSw; have q9 := T12_6.out.below hSw T12_6.out.lt; have q0 := q9.c0; have q1 := q9.c1; go_simp; try with_reducible rfl)); simp only [Act.put, List.setIfInBounds_toArray, List.set_cons_zero, List.set_cons_succ]
        refine wpG_take (i := 6) (oi := ⟨some 62, _, _, _, _, _⟩) (v := ?_) rfl (by kernel_rfl) (by kernel_rfl) (by kernel_rfl) (Or.inl ⟨by rfl, unib_val ?_⟩) ?_; rotate_left; (focus (intro w9 hSw; have q9 := T3_6.out.below hSw T3_6.out.lt; have q0 := q9.c0; have q1 := q9.c1; go_simp; try with_reducible rfl)); simp only [Act.put, List.setIfInBounds_toArray, List.set_cons_zero, List.set_cons_succ]
        refine wpG_take (i := 7) (oi := ⟨some 63, _, _, _, _, _⟩) (v := ?_) rfl (by kernel_rfl) (by kernel_rfl) (by kernel_rfl) (Or.inl ⟨by rfl, unib_val ?_⟩) ?_; rotate_left; (focus (intro w9 hSw; have q9 := T4_6.out.below hSw T4_6.out.lt; have q0 := q9.c0; have q1 := q9.c1; go_simp; try with_reducible rfl)); simp only [Act.put, List.setIfInBounds_toArray, List.set_cons_zero, List.set_cons_succ]
        refine wpG_take (i := 8) (oi := ⟨some 64, _, _, _, _, _⟩) (v := ?_) rfl (by kernel_rfl) (by kernel_rfl) (by kernel_rfl) (Or.inl ⟨by rfl, unib_val ?_⟩) ?_; rotate_left; (focus (intro w9 hSw; have q9 := T5_6.out.below hSw T5_6.out.lt; have q0 := q9.c0; have q1 := q9.c1; go_simp; try with_reducible rfl)); simp only [Act.put, List.setIfInBounds_toArray, List.set_cons_zero, List.set_cons_succ]
        refine wpG_take (i := 9) (oi := ⟨some 65, _, _, _, _, _⟩) rfl (by kernel_rfl) (by kernel_rfl) (by kernel_rfl) (Or.inl ⟨by rfl, unib_call ?_ MBC.out⟩) ?_; (focus (intro w9 hSw; go_simp; try with_reducible rfl)); simp only [Act.put, List.setIfInBounds_toArray, List.set_cons_zero, List.set_cons_succ]
        refine wpG_take (i := 10) (oi := ⟨some 66, _, _, _, _, _⟩) rfl (by kernel_rfl) (by kernel_rfl) (by kernel_rfl) (Or.inl ⟨by rfl, unib_call ?_ MA2.out⟩) ?_; (focus (intro w9 hSw; go_simp; try with_reducible rfl)); simp only [Act.put, List.setIfInBounds_toArray, List.set_cons_zero, List.set_cons_succ]
        refine wpG_take (i := 11) (oi := ⟨some 67, _, _, _, _, _⟩) (v := ?_) rfl (by kernel_rfl) (by kernel_rfl) (by kernel_rfl) (Or.inl ⟨by rfl, unib_val ?_⟩) ?_; rotate_left; (focus (intro w9 hSw; go_simp; try with_reducible rfl)); simp only [Act.put, List.setIfInBounds_toArray, List.set_cons_zero, List.set_cons_succ]
        refine wpG_take (i := 12) (oi := ⟨some 68, _, _, _, _, _⟩) (v := ?_) rfl (by kernel_rfl) (by kernel_rfl) (by kernel_rfl) (Or.inl ⟨by rfl, unib_val ?_⟩) ?_; rotate_left; (focus (intro w9 hSw; go_simp; try with_reducible rfl)); simp only [Act.put, List.setIfInBounds_toArray, List.set_cons_zero, List.set_cons_succ]
        refine wpG_take (i := 13) (oi := ⟨some 69, _, _, _, _, _⟩) (v := ?_) rfl (by kernel_rfl) (by kernel_rfl) (by kernel_rfl) (Or.inl ⟨by rfl, unib_val ?_⟩) ?_; rotate_left; (focus (intro w9 hSw; go_simp; try with_reducible rfl)); simp only [Act.put, List.setIfInBounds_toArray, List.set_cons_zero, List.set_cons_succ]
        refine wpG_take (i := 14) (oi := ⟨some 70, _, _, _, _, _⟩) (v := ?_) rfl (by kernel_rfl) (by kernel_rfl) (by kernel_rfl) (Or.inl ⟨by rfl, unib_val ?_⟩) ?_; rotate_left; (focus (intro w9 hSw; have q9 := T3_6.out.below hSw T3_6.out.lt; have q0 := q9.c0; have q1 := q9.c1; go_simp; try with_reducible rfl)); simp only [Act.put, List.setIfInBounds_toArray, List.set_cons_zero, List.set_cons_succ]
        refine wpG_take (i := 15) (oi := ⟨some 71, _, _, _, _, _⟩) (v := ?_) rfl (by kernel_rfl) (by kernel_rfl) (by kernel_rfl) (Or.inl ⟨by rfl, unib_val ?_⟩) ?_; rotate_left; (focus (intro w9 hSw; have q9 := T4_6.out.below hSw T4_6.out.lt; have q0 := q9.c0; have q1 := q9.c1; go_simp; try with_reducible rfl)); simp only [Act.put, List.setIfInBounds_toArray, List.set_cons_zero, List.set_cons_succ]
        refine wpG_take (i := 16) (oi := ⟨some 72, _, _, _, _, _⟩) rfl (by kernel_rfl) (by kernel_rfl) (by kernel_rfl) (Or.inl ⟨by rfl, unib_call ?_ MAB.out⟩) ?_; (focus (intro w9 hSw; go_simp; try with_reducible rfl)); simp only [Act.put, List.setIfInBounds_toArray, List.set_cons_zero, List.set_cons_succ]
        refine wpG_take (i := 17) (oi := ⟨some 73, _, _, _, _, _⟩) (v := ?_) rfl (by kernel_rfl) (by kernel_rfl) (by kernel_rfl) (Or.inl ⟨by rfl, unib_val ?_⟩) ?_; rotate_left; (focus (intro w9 hSw; have q9 := T4_6.out.below hSw T4_6.out.lt; have q0 := q9.c0; have q1 := q9.c1; go_simp; try with_reducible rfl)); simp only [Act.put, List.setIfInBounds_toArray, List.set_cons_zero, List.set_cons_succ]
        refine wpG_take (i := 18) (oi := ⟨some 74, _, _, _, _, _⟩) (v := ?_) rfl (by kernel_rfl) (by kernel_rfl) (by kernel_rfl) (Or.inl ⟨by rfl, unib_val ?_⟩) ?_; rotate_left; (focus (intro w9 hSw; have q9 := T3_6.out.below hSw T3_6.out.lt; have q0 := q9.c0; have q1 := q9.c1; go_simp; try with_reducible rfl)); simp only [Act.put, List.setIfInBounds_toArray, List.set_cons_zero, List.set_cons_succ]
        refine wpG_take (i := 19) (oi := ⟨some 75, _, _, _, _, _⟩) rfl (by kernel_rfl) (by kernel_rfl) (by kernel_rfl) (Or.inl ⟨by rfl, unib_call ?_ MBA.out⟩) ?_; (focus (intro w9 hSw; go_simp; try with_reducible rfl)); simp only [Act.put, List.setIfInBounds_toArray, List.set_cons_zero, List.set_cons_succ]
        refine wpG_take (i := 20) (oi := ⟨some 76, _, _, _, _, _⟩) (v := ?_) rfl (by kernel_rfl) (by kernel_rfl) (by kernel_rfl) (Or.inl ⟨by rfl, unib_val ?_⟩) ?_; rotate_left; (focus (intro w9 hSw; go_simp; try with_reducible rfl)); simp only [Act.put, List.setIfInBounds_toArray, List.set_cons_zero, List.set_cons_succ]
        refine wpG_take (i := 21) (oi := ⟨some 77, _, _, _, _, _⟩) (v := ?_) rfl (by kernel_rfl) (by kernel_rfl) (by kernel_rfl) (Or.inl ⟨by rfl, unib_val ?_⟩) ?_; rotate_left; (focus (intro w9 hSw; go_simp; try with_reducible rfl)); simp only [Act.put, List.setIfInBounds_toArray, List.set_cons_zero, List.set_cons_succ]
        refine wpG_take (i := 22) (oi := ⟨some 78, _, _, _, _, _⟩) (v := ?_) rfl (by kernel_rfl) (by kernel_rfl) (by kernel_rfl) (Or.inl ⟨by rfl, unib_val ?_⟩) ?_; rotate_left; (focus (intro w9 hSw; go_simp; try with_reducible rfl)); simp only [Act.put, List.setIfInBounds_toArray, List.set_cons_zero, List.set_cons_succ]
        refine wpG_take (i := 23) (oi := ⟨some 79, _, _, _, _, _⟩) (v := ?_) rfl (by kernel_rfl) (by kernel_rfl) (by kernel_rfl) (Or.inl ⟨by rfl, unib_val ?_⟩) ?_; rotate_left; (focus (intro w9 hSw; have q9 := T3_6.out.below hSw T3_6.out.lt; have q0 := q9.c0; have q1 := q9.c1; go_simp; try with_reducible rfl)); simp only [Act.put, List.setIfInBounds_toArray, List.set_cons_zero, List.set_cons_succ]
        refine wpG_take (i := 24) (oi := ⟨some 80, _, _, _, _, _⟩) (v := ?_) rfl (by kernel_rfl) (by kernel_rfl) (by kernel_rfl) (Or.inl ⟨by rfl, unib_val ?_⟩) ?_; rotate_left; (focus (intro w9 hSw; have q9 := T3_6.out.below hSw T3_6.out.lt; have q0 := q9.c0; have q1 := q9.c1; go_simp; try with_reducible rfl)); simp only [Act.put, List.setIfInBounds_toArray, List.set_cons_zero, List.set_cons_succ]
        refine wpG_take (i := 25) (oi := ⟨some 81, _, _, _, _, _⟩) rfl (by kernel_rfl) (by kernel_rfl) (by kernel_rfl) (Or.inl ⟨by rfl, unib_call ?_ MAA.out⟩) ?_; (focus (intro w9 hSw; go_simp; try with_reducible rfl)); simp only [Act.put, List.setIfInBounds_toArray, List.set_cons_zero, List.set_cons_succ]
        refine wpG_take (i := 26) (oi := ⟨some 82, _, _, _, _, _⟩) (v := ?_) rfl (by kernel_rfl) (by kernel_rfl) (by kernel_rfl) (Or.inl ⟨by rfl, unib_val ?_⟩) ?_; rotate_left; (focus (intro w9 hSw; have q9 := T3_6.out.below hSw T3_6.out.lt; have q0 := q9.c0; have q1 := q9.c1; go_simp; try with_reducible rfl)); simp only [Act.put, List.setIfInBounds_toArray, List.set_cons_zero, List.set_cons_succ]
        refine wpG_take (i := 27) (oi := ⟨some 83, _, _, _, _, _⟩) (v := ?_) rfl (by kernel_rfl) (by kernel_rfl) (by kernel_rfl) (Or.inl ⟨by rfl, unib_val ?_⟩) ?_; rotate_left; (focus (intro w9 hSw; go_simp; try with_reducible rfl)); simp only [Act.put, List.setIfInBounds_toArray, List.set_cons_zero, List.set_cons_succ]
        refine wpG_take (i := 28) (oi := ⟨some 84, _, _, _, _, _⟩) (v := ?_) rfl (by kernel_rfl) (by kernel_rfl) (by kernel_rfl) (Or.inl ⟨by rfl, unib_val ?_⟩) ?_; rotate_left; (focus (intro w9 hSw; go_simp; try with_reducible rfl)); simp only [Act.put, List.setIfInBounds_toArray, List.set_cons_zero, List.set_cons_succ]
        refine wpG_take (i := 29) (oi := ⟨some 85, _, _, _, _, _⟩) (v := ?_) rfl (by kernel_rfl) (by kernel_rfl) (by kernel_rfl) (Or.inl ⟨by rfl, unib_val ?_⟩) ?_; rotate_left; (focus (intro w9 hSw; go_simp; try with_reducible rfl)); simp only [Act.put, List.setIfInBounds_toArray, List.set_cons_zero, List.set_cons_succ]
        refine wpG_take (i := 30) (oi := ⟨some 86, _, _, _, _, _⟩) (v := ?_) rfl (by kernel_rfl) (by kernel_rfl) (by kernel_rfl) (Or.inl ⟨by rfl, unib_val ?_⟩) ?_; rotate_left; (focus (intro w9 hSw; have q9 := T12_6.out.below hSw T12_6.out.lt; have q0 := q9.c0; have q1 := q9.c1; go_simp; try with_reducible rfl)); simp only [Act.put, List.setIfInBounds_toArray, List.set_cons_zero, List.set_cons_succ]
        refine wpG_take (i := 31) (oi := ⟨some 87, _, _, _, _, _⟩) (v := ?_) rfl (by kernel_rfl) (by kernel_rfl) (by kernel_rfl) (Or.inl ⟨by rfl, unib_val ?_⟩) ?_; rotate_left; (focus (intro w9 hSw; have q9 := T3_6.out.below hSw T3_6.out.lt; have q0 := q9.c0; have q1 := q9.c1; go_simp; try with_reducible rfl)); simp only [Act.put, List.setIfInBounds_toArray, List.set_cons_zero, List.set_cons_succ]
        refine wpG_take (i := 32) (oi := ⟨some 88, _, _, _, _, _⟩) rfl (by kernel_rfl) (by kernel_rfl) (by kernel_rfl) (Or.inl ⟨by rfl, unib_call ?_ L1A.out⟩) ?_; (focus (intro w9 hSw; go_simp; try with_reducible rfl)); simp only [Act.put, List.setIfInBounds_toArray, List.set_cons_zero, List.set_cons_succ]
        refine wpG_take (i := 33) (oi := ⟨some 89, _, _, _, _, _⟩) (v := ?_) rfl (by kernel_rfl) (by kernel_rfl) (by kernel_rfl) (Or.inl ⟨by rfl, unib_val ?_⟩) ?_; rotate_left; (focus (intro w9 hSw; go_simp; try with_reducible rfl)); simp only [Act.put, List.setIfInBounds_toArray, List.set_cons_zero, List.set_cons_succ]
        refine wpG_take (i := 34) (oi := ⟨some 90, _, _, _, _, _⟩) (v := ?_) rfl (by kernel_rfl) (by kernel_rfl) (by kernel_rfl) (Or.inl ⟨by rfl, unib_val ?_⟩) ?_; rotate_left; (focus (intro w9 hSw; go_simp; try with_reducible rfl)); simp only [Act.put, List.setIfInBounds_toArray, List.set_cons_zero, List.set_cons_succ]
        refine wpG_take (i := 35) (oi := ⟨some 91, _, _, _, _, _⟩) (v := ?_) rfl (by kernel_rfl) (by kernel_rfl) (by kernel_rfl) (Or.inl ⟨by rfl, unib_val ?_⟩) ?_; rotate_left; (focus (intro w9 hSw; go_simp; try with_reducible rfl)); simp only [Act.put, List.setIfInBounds_toArray, List.set_cons_zero, List.set_cons_succ]
        refine wpG_take (i := 36) (oi := ⟨some 92, _, _, _, _, _⟩) (v := ?_) rfl (by kernel_rfl) (by kernel_rfl) (by kernel_rfl) (Or.inl ⟨by rfl, unib_val ?_⟩) ?_; rotate_left; (focus (intro w9 hSw; have q9 := T12_6.out.below hSw T12_6.out.lt; have q0 := q9.c0; have q1 := q9.c1; go_simp; try with_reducible rfl)); simp only [Act.put, List.setIfInBounds_toArray, List.set_cons_zero, List.set_cons_succ]
        refine wpG_take (i := 37) (oi := ⟨some 93, _, _, _, _, _⟩) (v := ?_) rfl (by kernel_rfl) (by kernel_rfl) (by kernel_rfl) (Or.inl ⟨by rfl, unib_val ?_⟩) ?_; rotate_left; (focus (intro w9 hSw; have q9 := T5_6.out.below hSw T5_6.out.lt; have q0 := q9.c0; have q1 := q9.c1; go_simp; try with_reducible rfl)); simp only [Act.put, List.setIfInBounds_toArray, List.set_cons_zero, List.set_cons_succ]
        refine wpG_take (i := 38) (oi := ⟨some 94, _, _, _, _, _⟩) rfl (by kernel_rfl) (by kernel_rfl) (by kernel_rfl) (Or.inl ⟨by rfl, unib_call ?_ L1C.out⟩) ?_; (focus (intro w9 hSw; go_simp; try with_reducible rfl)); simp only [Act.put, List.setIfInBounds_toArray, List.set_cons_zero, List.set_cons_succ]
        refine wpG_take (i := 39) (oi := ⟨some 95, _, _, _, _, _⟩) (v := ?_) rfl (by kernel_rfl) (by kernel_rfl) (by kernel_rfl) (Or.inl ⟨by rfl, unib_val ?_⟩) ?_; rotate_left; (focus (intro w9 hSw; go_simp; try with_reducible rfl)); simp only [Act.put, List.setIfInBounds_toArray, List.set_cons_zero, List.set_cons_succ]
        refine wpG_take (i := 40) (oi := ⟨some 96, _, _, _, _, _⟩) (v := ?_) rfl (by kernel_rfl) (by kernel_rfl) (by kernel_rfl) (Or.inl ⟨by rfl, unib_val ?_⟩) ?_; rotate_left; (focus (intro w9 hSw; go_simp; try with_reducible rfl)); simp only [Act.put, List.setIfInBounds_toArray, List.set_cons_zero, List.set_cons_succ]
        refine wpG_take (i := 41) (oi := ⟨some 6, _, _, _, _, _⟩) (v := ?_) rfl (by kernel_rfl) (by kernel_rfl) (by kernel_rfl) (Or.inl ⟨by rfl, unib_val ?_⟩) ?_; rotate_left; (focus (intro w9 hSw; go_simp; try with_reducible rfl)); simp only [Act.put, List.setIfInBounds_toArray, List.set_cons_zero, List.set_cons_succ]
        refine wpG_done (by kernel_rfl) ?_ _
        intro w9 hSw hO
        go_wp2
        go_ret
        exact ⟨rfl, B9.out.trans (hSw.mono B9.out.size)⟩
end Go.Proofs.Ytomlckefkamdgaa
