/-
  The law StampTells: for every two stamps, every replica and all bytes it answers true, and nothing that was there is written.
-/
import Derived.Test.YtomlckefkamdgaaStAwake
import Derived.Test.YtomlckefkamdgaaStRef
import Derived.Test.YtomlckefkamdgaaUniG
namespace Go.Proofs.Ytomlckefkamdgaa
open Go.RowKit WM
set_option linter.unusedVariables false
/-- Bytes, and whether there are any. -/
def PutG (E : List Int) (f : Bool) (w : World) (e : Ending) (w' : World) : Prop :=
  ∃ A k c, e = .returned (.tuple #[.slice A k c, .bool f]) ∧ E.length = k ∧ Byt w' w'.heap.size A E ∧ k ≤ c ∧ c ≤ maxLen ∧ Below w.heap.size w w'
theorem putG_of (n r : Int) : ∃ E f, ∀ w e w', StPutPost w n r e w' → PutG E f w e w' := by
  cases hm : may n r
  · refine ⟨[], false, fun w e w' h => ?_⟩
    unfold StPutPost at h
    rw [hm] at h
    simp only [Bool.false_eq_true, if_false] at h
    obtain ⟨rfl, hb⟩ := h
    exact ⟨none, 0, 0, rfl, rfl, Byt.nil, Nat.le_refl _, by decide, hb⟩
  · refine ⟨enc (n * 8 + r), true, fun w e w' h => ?_⟩
    unfold StPutPost at h
    rw [hm] at h
    obtain ⟨A, k, c, rfl, hk, hkc, hc, own, hb⟩ := h
    exact ⟨A, k, c, rfl, hk, Byt.own own, hkc, hc, hb⟩
theorem getV_is (o : Option (Int × Int × Nat)) : ∃ a b c d, stGetV o = .tuple #[.agg #[.int .i64 a, .int .i64 b], .int .i64 c, .bool d] := by
  cases o with
  | none => exact ⟨0, 0, 0, false, rfl⟩
  | some x => obtain ⟨n, r, k⟩ := x; exact ⟨n, r, k, true, rfl⟩
set_option maxHeartbeats 8000000 in
theorem walk_stampTells (n r m s rep : Int) (a3 : Option Addr) (len cap : Nat) (z3 : List Int) (w : World) (hn : (Lit.int .i64 n).wf = true) (hr : (Lit.int .i64 r).wf = true) (hm : (Lit.int .i64 m).wf = true) (hs : (Lit.int .i64 s).wf = true) (hrep : (Lit.int .i64 rep).wf = true) (w3 : IsRow .u8 w a3 len cap z3) :
    Calls Try.prog 4 #[st n r, st m s, .int .i64 rep, .slice a3 len cap] w fun e w' => e = .returned (.bool true) ∧ Below w.heap.size w w' := by
  obtain ⟨hby, hlen, hbs, hlc, hcm⟩ := w3.byt
  have HG := Lib.hid (fun (w' : World) (hw : Below w.heap.size w w') => stGet_any a3 len cap _ w' (hby.below hw) hw.size hlen hbs (Nat.le_trans hlc hcm))
  have RG := Lib.hid (fun (w' : World) (hw : Below w.heap.size w w') => rstGet_any a3 len cap _ w' (hby.below hw) hw.size hlen hbs hlc hcm)
  obtain ⟨ga, gb, gc, gd, hgv⟩ := getV_is (stGet (z3.take len))
  rw [hgv] at HG RG
  simp only [maxLen] at hcm
  clear w3 hn hr hm hs hrep hby hlen hbs hgv
  by_cases h100 : 100 < len
  · unfold st
    have B0 := Lib.hid (Below.refl w.heap.size w)
    have T4n := StAt.new w n r
    have T4 := Lib.hid (T4n)
    clear T4n
    have B1 := Lib.hid (B0.out.alloc B0.out.size (.cells #[.int .i64 n, .int .i64 r] 33))
    have T4' := Lib.hid (T4.out.old (.cells #[.int .i64 m, .int .i64 s] 33))
    have T5n := StAt.new (w.alloc (.cells #[.int .i64 n, .int .i64 r] 33)) m s
    simp only [World.size_alloc] at T5n
    have T5 := Lib.hid (T5n)
    clear T5n
    have B2 := Lib.hid (B1.out.alloc B1.out.size (.cells #[.int .i64 m, .int .i64 s] 33))
    go_enter Try.func4, Try.ntmps4
    go_wp2_with fail
    refine (stAwake _).mono ?_
    rintro e w1 ⟨rfl, hb⟩
    have T4_1 := Lib.hid (T4'.out.below hb T4'.out.lt)
    have T5_1 := Lib.hid (T5.out.below hb T5.out.lt)
    have B3 := Lib.hid (B2.out.trans (hb.mono B2.out.size))
    clear hb
    have c40 := T4_1.out.c0
    have c41 := T4_1.out.c1
    have c50 := T5_1.out.c0
    have c51 := T5_1.out.c1
    go_wp2
    go_ret
    exact ⟨rfl, B3.out⟩
  have HX := Lib.hid (next_any n r rep)
  have RX := Lib.hid (rnext_any n r rep)
  obtain ⟨E, f, hE⟩ := putG_of n r
  have HP := Lib.hid (fun w => (stPut_any n r w).mono (hE w))
  have RP := Lib.hid (fun w => (rstPut_any n r w).mono (hE w))
  have C1 := Lib.hid (may_any n r)
  have C2 := Lib.hid (rmay_any n r)
  have C3 := Lib.hid (stLess_any n r m s)
  have C4 := Lib.hid (rless_any n r m s)
  have C5 := Lib.hid (stMax_any n r m s)
  have C6 := Lib.hid (rmax_any n r m s)
  obtain ⟨mu, mv, hmx⟩ : ∃ u v, (if stLess n r m s then st m s else st n r) = .agg #[.int .i64 u, .int .i64 v] := by
    split
    · exact ⟨m, s, rfl⟩
    · exact ⟨n, r, rfl⟩
  rw [hmx] at C5 C6
  clear hmx
  generalize stLess n r m s = l at *
  generalize may n r = y at *
  generalize nxt n r rep = x at *
  obtain ⟨p, q, z⟩ := x
  unfold nxtV at HX RX
  unfold st at *
  simp only at HX RX
  clear hE
  have B0 := Lib.hid (Below.refl w.heap.size w)
  have T4n := StAt.new w n r
  have T4 := Lib.hid (T4n)
  clear T4n
  have B1 := Lib.hid (B0.out.alloc B0.out.size (.cells #[.int .i64 n, .int .i64 r] 33))
  have T4' := Lib.hid (T4.out.old (.cells #[.int .i64 m, .int .i64 s] 33))
  have T5n := StAt.new (w.alloc (.cells #[.int .i64 n, .int .i64 r] 33)) m s
  simp only [World.size_alloc] at T5n
  have T5 := Lib.hid (T5n)
  clear T5n
  have B2 := Lib.hid (B1.out.alloc B1.out.size (.cells #[.int .i64 m, .int .i64 s] 33))
  go_enter Try.func4, Try.ntmps4
  go_wp2_with fail
  refine (stAwake _).mono ?_
  rintro e w1 ⟨rfl, hb⟩
  have T4_1 := Lib.hid (T4'.out.below hb T4'.out.lt)
  have T5_1 := Lib.hid (T5.out.below hb T5.out.lt)
  have B3 := Lib.hid (B2.out.trans (hb.mono B2.out.size))
  clear hb
  have c40 := T4_1.out.c0
  have c41 := T4_1.out.c1
  have c50 := T5_1.out.c0
  have c51 := T5_1.out.c1
  go_wp2_with fail
  refine (HX.out _).mono ?_
  rintro e w2 ⟨rfl, hb⟩
  have T4_2 := Lib.hid (T4_1.out.below hb T4_1.out.lt)
  have T5_2 := Lib.hid (T5_1.out.below hb T5_1.out.lt)
  have B4 := Lib.hid (B3.out.trans (hb.mono B3.out.size))
  clear hb
  clear c40 c41 c50 c51
  have T4_2' := Lib.hid (T4_2.out.old (.cells #[.int .i64 p, .int .i64 q] 33))
  have T5_2' := Lib.hid (T5_2.out.old (.cells #[.int .i64 p, .int .i64 q] 33))
  have T10n := StAt.new w2 p q
  have T10 := Lib.hid (T10n)
  clear T10n
  have B5 := Lib.hid (B4.out.alloc B4.out.size (.cells #[.int .i64 p, .int .i64 q] 33))
  have c40 := T4_2'.out.c0
  have c41 := T4_2'.out.c1
  have c50 := T5_2'.out.c0
  have c51 := T5_2'.out.c1
  go_wp2_with fail
  refine (RX.out _).mono ?_
  rintro e w3 ⟨rfl, hb⟩
  have T4_3 := Lib.hid (T4_2'.out.below hb T4_2'.out.lt)
  have T5_3 := Lib.hid (T5_2'.out.below hb T5_2'.out.lt)
  have T10_3 := Lib.hid (T10.out.below hb T10.out.lt)
  have B6 := Lib.hid (B5.out.trans (hb.mono B5.out.size))
  clear hb
  clear c40 c41 c50 c51
  have T4_3' := Lib.hid (T4_3.out.old (.cells #[.int .i64 p, .int .i64 q] 33))
  have T5_3' := Lib.hid (T5_3.out.old (.cells #[.int .i64 p, .int .i64 q] 33))
  have T10_3' := Lib.hid (T10_3.out.old (.cells #[.int .i64 p, .int .i64 q] 33))
  have T12n := StAt.new w3 p q
  have T12 := Lib.hid (T12n)
  clear T12n
  have B7 := Lib.hid (B6.out.alloc B6.out.size (.cells #[.int .i64 p, .int .i64 q] 33))
  have c40 := T4_3'.out.c0
  have c41 := T4_3'.out.c1
  have c50 := T5_3'.out.c0
  have c51 := T5_3'.out.c1
  go_wp2_with fail
  refine (HP.out _).mono ?_
  rintro e w4 ⟨A1, k1, c1, rfl, hk1, hy1, hkc1, hc1, hb⟩
  have T4_4 := Lib.hid (T4_3'.out.below hb T4_3'.out.lt)
  have T5_4 := Lib.hid (T5_3'.out.below hb T5_3'.out.lt)
  have T10_4 := Lib.hid (T10_3'.out.below hb T10_3'.out.lt)
  have T12_4 := Lib.hid (T12.out.below hb T12.out.lt)
  have B8 := Lib.hid (B7.out.trans (hb.mono B7.out.size))
  clear hb
  clear c40 c41 c50 c51
  have c40 := T4_4.out.c0
  have c41 := T4_4.out.c1
  have c50 := T5_4.out.c0
  have c51 := T5_4.out.c1
  have HY1 := Lib.hid hy1
  have HK1 := Lib.hid hk1
  clear hy1 hk1
  simp only [maxLen] at hc1
  go_wp2_with fail
  refine (RP.out _).mono ?_
  rintro e w5 ⟨A2, k2, c2, rfl, hk2, hy2, hkc2, hc2, hb⟩
  have T4_5 := Lib.hid (T4_4.out.below hb T4_4.out.lt)
  have T5_5 := Lib.hid (T5_4.out.below hb T5_4.out.lt)
  have T10_5 := Lib.hid (T10_4.out.below hb T10_4.out.lt)
  have T12_5 := Lib.hid (T12_4.out.below hb T12_4.out.lt)
  have HY1 := Lib.hid ((HY1.out.below hb).wide hb.size)
  have B9 := Lib.hid (B8.out.trans (hb.mono B8.out.size))
  clear hb
  have HY2 := Lib.hid hy2
  have HK2 := Lib.hid hk2
  clear hy2 hk2
  simp only [maxLen] at hc2
  clear c40 c41 c50 c51
  go_wp2_with fail
  refine (HG.out _ B9.out).mono ?_
  rintro e w6 ⟨rfl, hb⟩
  have T4_6 := Lib.hid (T4_5.out.below hb T4_5.out.lt)
  have T5_6 := Lib.hid (T5_5.out.below hb T5_5.out.lt)
  have T10_6 := Lib.hid (T10_5.out.below hb T10_5.out.lt)
  have T12_6 := Lib.hid (T12_5.out.below hb T12_5.out.lt)
  have HY1 := Lib.hid ((HY1.out.below hb).wide hb.size)
  have HY2 := Lib.hid ((HY2.out.below hb).wide hb.size)
  have B10 := Lib.hid (B9.out.trans (hb.mono B9.out.size))
  clear hb
  have HY1 := Lib.hid ((HY1.out.below ((Below.refl w6.heap.size w6).alloc (Nat.le_refl _) (.cells #[.int .i64 ga, .int .i64 gb] 33))).wide (by rw [World.size_alloc]; omega : w6.heap.size ≤ (w6.alloc (.cells #[.int .i64 ga, .int .i64 gb] 33)).heap.size))
  have HY2 := Lib.hid ((HY2.out.below ((Below.refl w6.heap.size w6).alloc (Nat.le_refl _) (.cells #[.int .i64 ga, .int .i64 gb] 33))).wide (by rw [World.size_alloc]; omega : w6.heap.size ≤ (w6.alloc (.cells #[.int .i64 ga, .int .i64 gb] 33)).heap.size))
  have T4_6' := Lib.hid (T4_6.out.old (.cells #[.int .i64 ga, .int .i64 gb] 33))
  have T5_6' := Lib.hid (T5_6.out.old (.cells #[.int .i64 ga, .int .i64 gb] 33))
  have T10_6' := Lib.hid (T10_6.out.old (.cells #[.int .i64 ga, .int .i64 gb] 33))
  have T12_6' := Lib.hid (T12_6.out.old (.cells #[.int .i64 ga, .int .i64 gb] 33))
  have T18n := StAt.new w6 ga gb
  have T18 := Lib.hid (T18n)
  clear T18n
  have B11 := Lib.hid (B10.out.alloc B10.out.size (.cells #[.int .i64 ga, .int .i64 gb] 33))
  go_wp2_with fail
  refine (RG.out _ B11.out).mono ?_
  rintro e w7 ⟨rfl, hb⟩
  have T4_7 := Lib.hid (T4_6'.out.below hb T4_6'.out.lt)
  have T5_7 := Lib.hid (T5_6'.out.below hb T5_6'.out.lt)
  have T10_7 := Lib.hid (T10_6'.out.below hb T10_6'.out.lt)
  have T12_7 := Lib.hid (T12_6'.out.below hb T12_6'.out.lt)
  have T18_7 := Lib.hid (T18.out.below hb T18.out.lt)
  have HY1 := Lib.hid ((HY1.out.below hb).wide hb.size)
  have HY2 := Lib.hid ((HY2.out.below hb).wide hb.size)
  have B12 := Lib.hid (B11.out.trans (hb.mono B11.out.size))
  clear hb
  have HY1 := Lib.hid ((HY1.out.below ((Below.refl w7.heap.size w7).alloc (Nat.le_refl _) (.cells #[.int .i64 ga, .int .i64 gb] 33))).wide (by rw [World.size_alloc]; omega : w7.heap.size ≤ (w7.alloc (.cells #[.int .i64 ga, .int .i64 gb] 33)).heap.size))
  have HY2 := Lib.hid ((HY2.out.below ((Below.refl w7.heap.size w7).alloc (Nat.le_refl _) (.cells #[.int .i64 ga, .int .i64 gb] 33))).wide (by rw [World.size_alloc]; omega : w7.heap.size ≤ (w7.alloc (.cells #[.int .i64 ga, .int .i64 gb] 33)).heap.size))
  have T4_7' := Lib.hid (T4_7.out.old (.cells #[.int .i64 ga, .int .i64 gb] 33))
  have T5_7' := Lib.hid (T5_7.out.old (.cells #[.int .i64 ga, .int .i64 gb] 33))
  have T10_7' := Lib.hid (T10_7.out.old (.cells #[.int .i64 ga, .int .i64 gb] 33))
  have T12_7' := Lib.hid (T12_7.out.old (.cells #[.int .i64 ga, .int .i64 gb] 33))
  have T18_7' := Lib.hid (T18_7.out.old (.cells #[.int .i64 ga, .int .i64 gb] 33))
  have T21n := StAt.new w7 ga gb
  have T21 := Lib.hid (T21n)
  clear T21n
  have B13 := Lib.hid (B12.out.alloc B12.out.size (.cells #[.int .i64 ga, .int .i64 gb] 33))
  go_wp2_with fail
  refine wp_region_G (w7.alloc (.cells #[.int .i64 ga, .int .i64 gb] 33)) (by kernel_rfl) ?_
  refine wpG_take (i := 0) (oi := ⟨some 68, _, _, _, _, _⟩) (v := ?_) rfl (by kernel_rfl) (by kernel_rfl) (by kernel_rfl) (Or.inl ⟨by rfl, unib_val ?_⟩) ?_; rotate_left; (focus (intro w9 hSw; have q9 := T4_7'.out.below hSw T4_7'.out.lt; have q0 := q9.c0; have q1 := q9.c1; go_simp; try with_reducible rfl)); simp only [Act.put, List.setIfInBounds_toArray, List.set_cons_zero, List.set_cons_succ]
  refine wpG_take (i := 1) (oi := ⟨some 69, _, _, _, _, _⟩) rfl (by kernel_rfl) (by kernel_rfl) (by kernel_rfl) (Or.inl ⟨by rfl, unib_call ?_ C1.out⟩) ?_; (focus (intro w9 hSw; go_simp; try with_reducible rfl)); simp only [Act.put, List.setIfInBounds_toArray, List.set_cons_zero, List.set_cons_succ]
  refine wpG_take (i := 2) (oi := ⟨some 70, _, _, _, _, _⟩) (v := ?_) rfl (by kernel_rfl) (by kernel_rfl) (by kernel_rfl) (Or.inl ⟨by rfl, unib_val ?_⟩) ?_; rotate_left; (focus (intro w9 hSw; have q9 := T4_7'.out.below hSw T4_7'.out.lt; have q0 := q9.c0; have q1 := q9.c1; go_simp; try with_reducible rfl)); simp only [Act.put, List.setIfInBounds_toArray, List.set_cons_zero, List.set_cons_succ]
  refine wpG_take (i := 3) (oi := ⟨some 71, _, _, _, _, _⟩) rfl (by kernel_rfl) (by kernel_rfl) (by kernel_rfl) (Or.inl ⟨by rfl, unib_call ?_ C2.out⟩) ?_; (focus (intro w9 hSw; go_simp; try with_reducible rfl)); simp only [Act.put, List.setIfInBounds_toArray, List.set_cons_zero, List.set_cons_succ]
  refine wpG_take (i := 4) (oi := ⟨some 72, _, _, _, _, _⟩) (v := ?_) rfl (by kernel_rfl) (by kernel_rfl) (by kernel_rfl) (Or.inl ⟨by rfl, unib_val ?_⟩) ?_; rotate_left; (focus (intro w9 hSw; go_simp; try with_reducible rfl)); simp only [Act.put, List.setIfInBounds_toArray, List.set_cons_zero, List.set_cons_succ]
  refine wpG_take (i := 5) (oi := ⟨some 73, _, _, _, _, _⟩) (v := ?_) rfl (by kernel_rfl) (by kernel_rfl) (by kernel_rfl) (Or.inl ⟨by rfl, unib_val ?_⟩) ?_; rotate_left; (focus (intro w9 hSw; go_simp; try with_reducible rfl)); simp only [Act.put, List.setIfInBounds_toArray, List.set_cons_zero, List.set_cons_succ]
  refine wpG_take (i := 6) (oi := ⟨some 74, _, _, _, _, _⟩) (v := ?_) rfl (by kernel_rfl) (by kernel_rfl) (by kernel_rfl) (Or.inl ⟨by rfl, unib_val ?_⟩) ?_; rotate_left; (focus (intro w9 hSw; have q9 := T4_7'.out.below hSw T4_7'.out.lt; have q0 := q9.c0; have q1 := q9.c1; go_simp; try with_reducible rfl)); simp only [Act.put, List.setIfInBounds_toArray, List.set_cons_zero, List.set_cons_succ]
  refine wpG_take (i := 7) (oi := ⟨some 75, _, _, _, _, _⟩) (v := ?_) rfl (by kernel_rfl) (by kernel_rfl) (by kernel_rfl) (Or.inl ⟨by rfl, unib_val ?_⟩) ?_; rotate_left; (focus (intro w9 hSw; have q9 := T5_7'.out.below hSw T5_7'.out.lt; have q0 := q9.c0; have q1 := q9.c1; go_simp; try with_reducible rfl)); simp only [Act.put, List.setIfInBounds_toArray, List.set_cons_zero, List.set_cons_succ]
  refine wpG_take (i := 8) (oi := ⟨some 76, _, _, _, _, _⟩) rfl (by kernel_rfl) (by kernel_rfl) (by kernel_rfl) (Or.inl ⟨by rfl, unib_call ?_ C3.out⟩) ?_; (focus (intro w9 hSw; go_simp; try with_reducible rfl)); simp only [Act.put, List.setIfInBounds_toArray, List.set_cons_zero, List.set_cons_succ]
  refine wpG_take (i := 9) (oi := ⟨some 77, _, _, _, _, _⟩) (v := ?_) rfl (by kernel_rfl) (by kernel_rfl) (by kernel_rfl) (Or.inl ⟨by rfl, unib_val ?_⟩) ?_; rotate_left; (focus (intro w9 hSw; have q9 := T4_7'.out.below hSw T4_7'.out.lt; have q0 := q9.c0; have q1 := q9.c1; go_simp; try with_reducible rfl)); simp only [Act.put, List.setIfInBounds_toArray, List.set_cons_zero, List.set_cons_succ]
  refine wpG_take (i := 10) (oi := ⟨some 78, _, _, _, _, _⟩) (v := ?_) rfl (by kernel_rfl) (by kernel_rfl) (by kernel_rfl) (Or.inl ⟨by rfl, unib_val ?_⟩) ?_; rotate_left; (focus (intro w9 hSw; have q9 := T5_7'.out.below hSw T5_7'.out.lt; have q0 := q9.c0; have q1 := q9.c1; go_simp; try with_reducible rfl)); simp only [Act.put, List.setIfInBounds_toArray, List.set_cons_zero, List.set_cons_succ]
  refine wpG_take (i := 11) (oi := ⟨some 79, _, _, _, _, _⟩) rfl (by kernel_rfl) (by kernel_rfl) (by kernel_rfl) (Or.inl ⟨by rfl, unib_call ?_ C4.out⟩) ?_; (focus (intro w9 hSw; go_simp; try with_reducible rfl)); simp only [Act.put, List.setIfInBounds_toArray, List.set_cons_zero, List.set_cons_succ]
  refine wpG_take (i := 12) (oi := ⟨some 80, _, _, _, _, _⟩) (v := ?_) rfl (by kernel_rfl) (by kernel_rfl) (by kernel_rfl) (Or.inl ⟨by rfl, unib_val ?_⟩) ?_; rotate_left; (focus (intro w9 hSw; go_simp; try with_reducible rfl)); simp only [Act.put, List.setIfInBounds_toArray, List.set_cons_zero, List.set_cons_succ]
  refine wpG_take (i := 13) (oi := ⟨some 81, _, _, _, _, _⟩) (v := ?_) rfl (by kernel_rfl) (by kernel_rfl) (by kernel_rfl) (Or.inl ⟨by rfl, unib_val ?_⟩) ?_; rotate_left; (focus (intro w9 hSw; go_simp; try with_reducible rfl)); simp only [Act.put, List.setIfInBounds_toArray, List.set_cons_zero, List.set_cons_succ]
  refine wpG_take (i := 14) (oi := ⟨some 82, _, _, _, _, _⟩) (v := ?_) rfl (by kernel_rfl) (by kernel_rfl) (by kernel_rfl) (Or.inl ⟨by rfl, unib_val ?_⟩) ?_; rotate_left; (focus (intro w9 hSw; go_simp; try with_reducible rfl)); simp only [Act.put, List.setIfInBounds_toArray, List.set_cons_zero, List.set_cons_succ]
  refine wpG_take (i := 15) (oi := ⟨some 83, _, _, _, _, _⟩) (v := ?_) rfl (by kernel_rfl) (by kernel_rfl) (by kernel_rfl) (Or.inl ⟨by rfl, unib_val ?_⟩) ?_; rotate_left; (focus (intro w9 hSw; have q9 := T4_7'.out.below hSw T4_7'.out.lt; have q0 := q9.c0; have q1 := q9.c1; go_simp; try with_reducible rfl)); simp only [Act.put, List.setIfInBounds_toArray, List.set_cons_zero, List.set_cons_succ]
  refine wpG_take (i := 16) (oi := ⟨some 84, _, _, _, _, _⟩) (v := ?_) rfl (by kernel_rfl) (by kernel_rfl) (by kernel_rfl) (Or.inl ⟨by rfl, unib_val ?_⟩) ?_; rotate_left; (focus (intro w9 hSw; have q9 := T5_7'.out.below hSw T5_7'.out.lt; have q0 := q9.c0; have q1 := q9.c1; go_simp; try with_reducible rfl)); simp only [Act.put, List.setIfInBounds_toArray, List.set_cons_zero, List.set_cons_succ]
  refine wpG_take (i := 17) (oi := ⟨some 85, _, _, _, _, _⟩) rfl (by kernel_rfl) (by kernel_rfl) (by kernel_rfl) (Or.inl ⟨by rfl, unib_call ?_ C5.out⟩) ?_; (focus (intro w9 hSw; go_simp; try with_reducible rfl)); simp only [Act.put, List.setIfInBounds_toArray, List.set_cons_zero, List.set_cons_succ]
  refine wpG_take (i := 18) (oi := ⟨some 86, _, _, _, _, _⟩) (v := ?_) rfl (by kernel_rfl) (by kernel_rfl) (by kernel_rfl) (Or.inl ⟨by rfl, unib_val ?_⟩) ?_; rotate_left; (focus (intro w9 hSw; have q9 := T4_7'.out.below hSw T4_7'.out.lt; have q0 := q9.c0; have q1 := q9.c1; go_simp; try with_reducible rfl)); simp only [Act.put, List.setIfInBounds_toArray, List.set_cons_zero, List.set_cons_succ]
  refine wpG_take (i := 19) (oi := ⟨some 87, _, _, _, _, _⟩) (v := ?_) rfl (by kernel_rfl) (by kernel_rfl) (by kernel_rfl) (Or.inl ⟨by rfl, unib_val ?_⟩) ?_; rotate_left; (focus (intro w9 hSw; have q9 := T5_7'.out.below hSw T5_7'.out.lt; have q0 := q9.c0; have q1 := q9.c1; go_simp; try with_reducible rfl)); simp only [Act.put, List.setIfInBounds_toArray, List.set_cons_zero, List.set_cons_succ]
  refine wpG_take (i := 20) (oi := ⟨some 88, _, _, _, _, _⟩) rfl (by kernel_rfl) (by kernel_rfl) (by kernel_rfl) (Or.inl ⟨by rfl, unib_call ?_ C6.out⟩) ?_; (focus (intro w9 hSw; go_simp; try with_reducible rfl)); simp only [Act.put, List.setIfInBounds_toArray, List.set_cons_zero, List.set_cons_succ]
  refine wpG_take (i := 21) (oi := ⟨some 89, _, _, _, _, _⟩) (v := ?_) rfl (by kernel_rfl) (by kernel_rfl) (by kernel_rfl) (Or.inl ⟨by rfl, unib_val ?_⟩) ?_; rotate_left; (focus (intro w9 hSw; go_simp; try with_reducible rfl)); simp only [Act.put, List.setIfInBounds_toArray, List.set_cons_zero, List.set_cons_succ]
  refine wpG_take (i := 22) (oi := ⟨some 90, _, _, _, _, _⟩) (v := ?_) rfl (by kernel_rfl) (by kernel_rfl) (by kernel_rfl) (Or.inl ⟨by rfl, unib_val ?_⟩) ?_; rotate_left; (focus (intro w9 hSw; go_simp; try with_reducible rfl)); simp only [Act.put, List.setIfInBounds_toArray, List.set_cons_zero, List.set_cons_succ]
  refine wpG_take (i := 23) (oi := ⟨some 24, _, _, _, _, _⟩) (v := ?_) rfl (by kernel_rfl) (by kernel_rfl) (by kernel_rfl) (Or.inl ⟨by rfl, unib_val ?_⟩) ?_; rotate_left; (focus (intro w9 hSw; go_simp; try with_reducible rfl)); simp only [Act.put, List.setIfInBounds_toArray, List.set_cons_zero, List.set_cons_succ]
  refine wpG_done (by kernel_rfl) ?_ _
  intro w9 hb hO
  have HB9 := Lib.hid hb
  have T4_9 := Lib.hid (T4_7'.out.below hb T4_7'.out.lt)
  have T5_9 := Lib.hid (T5_7'.out.below hb T5_7'.out.lt)
  have T10_9 := Lib.hid (T10_7'.out.below hb T10_7'.out.lt)
  have T12_9 := Lib.hid (T12_7'.out.below hb T12_7'.out.lt)
  have T18_9 := Lib.hid (T18_7'.out.below hb T18_7'.out.lt)
  have T21_9 := Lib.hid (T21.out.below hb T21.out.lt)
  have B14 := Lib.hid (B13.out.trans (hb.mono B13.out.size))
  clear hb
  have x1 := (HY1.out.below (HB9.out : Below (w7.alloc (.cells #[.int .i64 ga, .int .i64 gb] 33)).heap.size (w7.alloc (.cells #[.int .i64 ga, .int .i64 gb] 33)) w9)).text (P := Try.prog) (cap := c1) HK1.out 25 5 9 Try.underlying25 Try.underlying5 Try.underlying9
  have x2 := (HY2.out.below HB9.out).text (P := Try.prog) (cap := c2) HK2.out 25 5 9 Try.underlying25 Try.underlying5 Try.underlying9
  have hcmp := str_same E
  generalize strOfNums E = Sx at *
  have c100 := T10_9.out.c0
  have c101 := T10_9.out.c1
  have c120 := T12_9.out.c0
  have c121 := T12_9.out.c1
  have c180 := T18_9.out.c0
  have c181 := T18_9.out.c1
  have c210 := T21_9.out.c0
  have c211 := T21_9.out.c1
  go_wp2
  go_ret
  exact ⟨rfl, B14.out⟩
end Go.Proofs.Ytomlckefkamdgaa
