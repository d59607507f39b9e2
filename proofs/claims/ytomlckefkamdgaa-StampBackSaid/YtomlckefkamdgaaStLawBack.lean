/-
  The law StampBack: for every stamp and all bytes it answers true, and nothing that was there is written.
-/
import Derived.Test.YtomlckefkamdgaaStAwake
import Derived.Test.YtomlckefkamdgaaUniG
namespace Go.Proofs.Ytomlckefkamdgaa
open Go.RowKit WM
set_option linter.unusedVariables false
theorem stPut_yes (n r : Int) (w : World) (h : may n r = true) : Calls Try.prog 17 #[st n r] w (GivesT w (enc (n * 8 + r))) := by
  have := stPut_any n r w
  unfold StPutPost at this
  rw [h] at this
  exact this
theorem stGet_put {n r : Int} (t : List Int) (h : may n r = true) : stGet (enc (n * 8 + r) ++ t) = some (n, r, (enc (n * 8 + r)).length) := by
  have hm := may_iff.1 h
  unfold stGet
  rw [dec_enc _ _ (by omega) (by omega)]
  simp only
  rw [show (n * 8 + r) / 8 = n by omega, show (n * 8 + r) % 8 = r by omega, h]
  rfl
theorem stGet_some {zs : List Int} {n r : Int} {k : Nat} (hb : AllBytes zs) (h : stGet zs = some (n, r, k)) : may n r = true ∧ k ≤ zs.length ∧ enc (n * 8 + r) = zs.take k := by
  unfold stGet at h
  split at h
  · cases h
  · rename_i x j hd
    obtain ⟨d1, d2, d3, d4, d5⟩ := dec_some hb hd
    split at h
    · rename_i hm
      simp only [Option.some.injEq, Prod.mk.injEq] at h
      obtain ⟨rfl, rfl, rfl⟩ := h
      exact ⟨hm, d2, by rw [show x / 8 * 8 + x % 8 = x by omega]; exact d3⟩
    · cases h
set_option maxHeartbeats 8000000 in
theorem walk_stampBack (n r : Int) (a1 : Option Addr) (len1 cap1 : Nat) (z1 : List Int) (w : World) (hn : (Lit.int .i64 n).wf = true) (hr : (Lit.int .i64 r).wf = true) (w1 : IsRow .u8 w a1 len1 cap1 z1) :
    Calls Try.prog 5 #[st n r, .slice a1 len1 cap1] w fun e w' => e = .returned (.bool true) ∧ Below w.heap.size w w' := by
  obtain ⟨hby, hlen, hbs, hlc, hcm⟩ := w1.byt
  have hnil := row_nil w1
  have HCM := Lib.hid hcm
  simp only [maxLen] at hcm
  clear w1 hn hr
  generalize z1.take len1 = zs at hby hlen hbs
  have HY := Lib.hid hby
  have HL := Lib.hid hlen
  have HS := Lib.hid hbs
  have HN := Lib.hid hnil
  have HG := Lib.hid (fun (w' : World) (hw : Below w.heap.size w w') => stGet_any a1 len1 cap1 zs w' (HY.out.below hw) hw.size HL.out HS.out (Nat.le_trans hlc HCM.out))
  obtain ⟨F, cv, hF⟩ := cvt_ex
  have HF := Lib.hid hF
  have CV := Lib.hid cv
  obtain ⟨i0, hi, hz0, hz1, hz2⟩ := info_parts infoByte
  clear hby hlen hbs hnil cv hF
  by_cases h100 : 100 < len1
  · unfold st
    have B0 := Lib.hid (Below.refl w.heap.size w)
    have T2n := StAt.new w n r
    have T2 := Lib.hid (T2n)
    clear T2n
    have B1 := Lib.hid (B0.out.alloc B0.out.size (.cells #[.int .i64 n, .int .i64 r] 33))
    go_enter Try.func5, Try.ntmps5
    go_wp2_with fail
    refine (stAwake _).mono ?_
    rintro e w1 ⟨rfl, hb⟩
    have T2_1 := Lib.hid (T2.out.below hb T2.out.lt)
    have B2 := Lib.hid (B1.out.trans (hb.mono B1.out.size))
    clear hb
    have c20 := T2_1.out.c0
    have c21 := T2_1.out.c1
    go_wp2
    go_ret
    exact ⟨rfl, B2.out⟩
  have HM := Lib.hid (may_any n r)
  have HP := Lib.hid (stPut_any n r)
  unfold StPutPost at HP
  cases hm : may n r
  · rw [hm] at HM HP
    simp only [Bool.false_eq_true, if_false] at HP
    unfold st at HM HP ⊢
    clear hm
    have B0 := Lib.hid (Below.refl w.heap.size w)
    have T2n := StAt.new w n r
    have T2 := Lib.hid (T2n)
    clear T2n
    have B1 := Lib.hid (B0.out.alloc B0.out.size (.cells #[.int .i64 n, .int .i64 r] 33))
    go_enter Try.func5, Try.ntmps5
    go_wp2_with fail
    refine (stAwake _).mono ?_
    rintro e w1 ⟨rfl, hb⟩
    have T2_1 := Lib.hid (T2.out.below hb T2.out.lt)
    have B2 := Lib.hid (B1.out.trans (hb.mono B1.out.size))
    clear hb
    have c20 := T2_1.out.c0
    have c21 := T2_1.out.c1
    go_wp2_with fail
    refine (HP.out _).mono ?_
    rintro e w2 ⟨rfl, hb⟩
    have T2_2 := Lib.hid (T2_1.out.below hb T2_1.out.lt)
    have B3 := Lib.hid (B2.out.trans (hb.mono B2.out.size))
    clear hb
    clear c20 c21
    have c20 := T2_2.out.c0
    have c21 := T2_2.out.c1
    go_wp2_with fail
    refine (HM.out _).mono ?_
    rintro e w3 ⟨rfl, hb⟩
    have T2_3 := Lib.hid (T2_2.out.below hb T2_2.out.lt)
    have B4 := Lib.hid (B3.out.trans (hb.mono B3.out.size))
    clear hb
    clear c20 c21
    go_wp2_with fail
    refine (HG.out _ B4.out).mono ?_
    cases hO : stGet zs with
    | none =>
      rintro e w4 ⟨rfl, hb⟩
      have B5 := Lib.hid (B4.out.trans (hb.mono B4.out.size))
      clear hb
      unfold stGetV st
      have BZ := Lib.hid (B5.out.alloc B5.out.size (.cells #[.int .i64 0, .int .i64 0] 33))
      go_wp2
      go_ret
      exact ⟨rfl, BZ.out⟩
    | some o =>
      obtain ⟨n9, r9, k9⟩ := o
      obtain ⟨q1, q2, q3⟩ := stGet_some HS.out hO
      rintro e w4 ⟨rfl, hb⟩
      have B5 := Lib.hid (B4.out.trans (hb.mono B4.out.size))
      clear hb
      unfold stGetV st
      rw [HL.out] at q2
      have HPX := Lib.hid (fun w => stPut_yes n9 r9 w q1)
      have HMX := Lib.hid (may_any n9 r9)
      rw [q1] at HMX
      unfold st at HPX HMX
      rw [q3] at HPX
      clear q1 q3 hO
      have T11n := StAt.new w4 n9 r9
      have T11 := Lib.hid (T11n)
      clear T11n
      have B6 := Lib.hid (B5.out.alloc B5.out.size (.cells #[.int .i64 n9, .int .i64 r9] 33))
      go_wp2_with fail
      refine (HPX.out _).mono ?_
      rintro e w5 ⟨A8, n8, c8, rfl, hn8, hnc8, hcm8, own8, hb⟩
      have T11_5 := Lib.hid (T11.out.below hb T11.out.lt)
      have B7 := Lib.hid (B6.out.trans (hb.mono B6.out.size))
      clear hb
      have HY6 := Lib.hid (Byt.own (zs := zs.take k9) own8)
      have HN6 := Lib.hid hn8
      have HY7 := Lib.hid ((HY.out.below B7.out).take k9)
      have HN7 := Lib.hid (show (zs.take k9).length = k9 by rw [List.length_take, HL.out]; omega)
      have HLE := Lib.hid (show decide ((k9 : Int) ≤ len1) = true by simp; omega)
      have HSL := Lib.hid (sl_h a1 len1 cap1 k9 (by omega) (k9 : Int) rfl)
      clear own8 hn8
      simp only [maxLen] at hcm8
      go_wp2_with fail
      have cv := CV.out
      refine wp_region_G w5 (by kernel_rfl) ?_
      refine wpG_take (i := 0) (oi := ⟨some 77, _, _, _, _, _⟩) (v := ?_) rfl (by kernel_rfl) (by kernel_rfl) (by kernel_rfl) (Or.inl ⟨by rfl, unib_val ?_⟩) ?_; rotate_left; (focus (intro w9 hSw; go_simp; try with_reducible rfl)); simp only [Act.put, List.setIfInBounds_toArray, List.set_cons_zero, List.set_cons_succ]
      refine wpG_take (i := 1) (oi := ⟨some 78, _, _, _, _, _⟩) (v := ?_) rfl (by kernel_rfl) (by kernel_rfl) (by kernel_rfl) (Or.inl ⟨by rfl, unib_val ?_⟩) ?_; rotate_left; (focus (intro w9 hSw; go_simp; try with_reducible rfl)); simp only [Act.put, List.setIfInBounds_toArray, List.set_cons_zero, List.set_cons_succ]
      refine wpG_take (i := 2) (oi := ⟨some 79, _, _, _, _, _⟩) (v := ?_) rfl (by kernel_rfl) (by kernel_rfl) (by kernel_rfl) (Or.inl ⟨by rfl, unib_val ?_⟩) ?_; rotate_left; (focus (intro w9 hSw; have q9 := T11_5.out.below hSw T11_5.out.lt; have q0 := q9.c0; have q1 := q9.c1; go_simp; try with_reducible rfl)); simp only [Act.put, List.setIfInBounds_toArray, List.set_cons_zero, List.set_cons_succ]
      refine wpG_take (i := 3) (oi := ⟨some 80, _, _, _, _, _⟩) rfl (by kernel_rfl) (by kernel_rfl) (by kernel_rfl) (Or.inl ⟨by rfl, unib_call ?_ HMX.out⟩) ?_; (focus (intro w9 hSw; go_simp; try with_reducible rfl)); simp only [Act.put, List.setIfInBounds_toArray, List.set_cons_zero, List.set_cons_succ]
      refine wpG_take (i := 4) (oi := ⟨some 81, _, _, _, _, _⟩) (v := ?_) rfl (by kernel_rfl) (by kernel_rfl) (by kernel_rfl) (Or.inl ⟨by rfl, unib_val ?_⟩) ?_; rotate_left; (focus (intro w9 hSw; go_simp; try with_reducible rfl)); simp only [Act.put, List.setIfInBounds_toArray, List.set_cons_zero, List.set_cons_succ]
      refine wpG_take (i := 5) (oi := ⟨some 82, _, _, _, _, _⟩) (v := ?_) rfl (by kernel_rfl) (by kernel_rfl) (by kernel_rfl) (Or.inl ⟨by rfl, unib_val ?_⟩) ?_; rotate_left; (focus (intro w9 hSw; go_simp; try with_reducible rfl)); simp only [Act.put, List.setIfInBounds_toArray, List.set_cons_zero, List.set_cons_succ]
      refine wpG_take (i := 6) (oi := ⟨some 83, _, _, _, _, _⟩) (v := ?_) rfl (by kernel_rfl) (by kernel_rfl) (by kernel_rfl) (Or.inl ⟨by rfl, unib_val ?_⟩) ?_; rotate_left; (focus (intro w9 hSw; go_simp; try with_reducible rfl)); simp only [Act.put, List.setIfInBounds_toArray, List.set_cons_zero, List.set_cons_succ]
      refine wpG_take (i := 7) (oi := ⟨some 84, _, _, _, _, _⟩) (v := ?_) rfl (by kernel_rfl) (by kernel_rfl) (by kernel_rfl) (Or.inl ⟨by rfl, unib_val ?_⟩) ?_; rotate_left; (focus (intro w9 hSw; go_simp; try with_reducible rfl)); simp only [Act.put, List.setIfInBounds_toArray, List.set_cons_zero, List.set_cons_succ]
      refine wpG_take (i := 8) (oi := ⟨some 85, _, _, _, _, _⟩) (v := ?_) rfl (by kernel_rfl) (by kernel_rfl) (by kernel_rfl) (Or.inl ⟨by rfl, unib_val ?_⟩) ?_; rotate_left; (focus (intro w9 hSw; go_simp; try with_reducible rfl)); simp only [Act.put, List.setIfInBounds_toArray, List.set_cons_zero, List.set_cons_succ]
      refine wpG_take (i := 9) (oi := ⟨some 86, _, _, _, _, _⟩) (v := ?_) rfl (by kernel_rfl) (by kernel_rfl) (by kernel_rfl) (Or.inl ⟨by rfl, unib_val ?_⟩) ?_; rotate_left; (focus (intro w9 hSw; have s9 := HLE.out; go_simp; try with_reducible rfl)); simp only [Act.put, List.setIfInBounds_toArray, List.set_cons_zero, List.set_cons_succ]
      refine wpG_take (i := 10) (oi := ⟨some 87, _, _, _, _, _⟩) (v := ?_) rfl (by kernel_rfl) (by kernel_rfl) (by kernel_rfl) (Or.inl ⟨by rfl, unib_val ?_⟩) ?_; rotate_left; (focus (intro w9 hSw; go_simp; try with_reducible rfl)); simp only [Act.put, List.setIfInBounds_toArray, List.set_cons_zero, List.set_cons_succ]
      refine wpG_take (i := 11) (oi := ⟨some 88, _, _, _, _, _⟩) (v := ?_) rfl (by kernel_rfl) (by kernel_rfl) (by kernel_rfl) (Or.inl ⟨by rfl, unib_val ?_⟩) ?_; rotate_left; (focus (intro w9 hSw; go_simp; try with_reducible rfl)); simp only [Act.put, List.setIfInBounds_toArray, List.set_cons_zero, List.set_cons_succ]
      refine wpG_take (i := 12) (oi := ⟨some 89, _, _, _, _, _⟩) (v := ?_) rfl (by kernel_rfl) (by kernel_rfl) (by kernel_rfl) (Or.inl ⟨by rfl, unib_val ?_⟩) ?_; rotate_left; (focus (intro w9 hSw; go_simp; try with_reducible rfl)); simp only [Act.put, List.setIfInBounds_toArray, List.set_cons_zero, List.set_cons_succ]
      refine wpG_take (i := 13) (oi := ⟨some 90, _, _, _, _, _⟩) (v := ?_) rfl (by kernel_rfl) (by kernel_rfl) (by kernel_rfl) (Or.inl ⟨by rfl, unib_val ?_⟩) ?_; rotate_left; (focus (intro w9 hSw; have t9 := HF.out w9 _ _ _ (HY6.out.below hSw) n8 c8 HN6.out; go_simp; try with_reducible rfl)); simp only [Act.put, List.setIfInBounds_toArray, List.set_cons_zero, List.set_cons_succ]
      refine wpG_take (i := 14) (oi := ⟨some 91, _, _, _, _, _⟩) (v := ?_) rfl (by kernel_rfl) (by kernel_rfl) (by kernel_rfl) (Or.inl ⟨by rfl, unib_val ?_⟩) ?_; rotate_left; (focus (intro w9 hSw; go_simp; try with_reducible rfl)); simp only [Act.put, List.setIfInBounds_toArray, List.set_cons_zero, List.set_cons_succ]
      refine wpG_take (i := 15) (oi := ⟨some 92, _, _, _, _, _⟩) (v := ?_) rfl (by kernel_rfl) (by kernel_rfl) (by kernel_rfl) (Or.inl ⟨by rfl, unib_val ?_⟩) ?_; rotate_left; (focus (intro w9 hSw; go_simp; try with_reducible rfl)); simp only [Act.put, List.setIfInBounds_toArray, List.set_cons_zero, List.set_cons_succ]
      refine wpG_take (i := 16) (oi := ⟨some 93, _, _, _, _, _⟩) (v := ?_) rfl (by kernel_rfl) (by kernel_rfl) (by kernel_rfl) (Or.inl ⟨by rfl, unib_val ?_⟩) ?_; rotate_left; (focus (intro w9 hSw; have s9 := HSL.out w9; go_simp; try with_reducible rfl)); simp only [Act.put, List.setIfInBounds_toArray, List.set_cons_zero, List.set_cons_succ]
      refine wpG_take (i := 17) (oi := ⟨some 94, _, _, _, _, _⟩) (v := ?_) rfl (by kernel_rfl) (by kernel_rfl) (by kernel_rfl) (Or.inl ⟨by rfl, unib_val ?_⟩) ?_; rotate_left; (focus (intro w9 hSw; have t9 := HF.out w9 _ _ _ (HY7.out.below (hSw.mono B7.out.size)) k9 cap1 HN7.out; go_simp; try with_reducible rfl)); simp only [Act.put, List.setIfInBounds_toArray, List.set_cons_zero, List.set_cons_succ]
      refine wpG_take (i := 18) (oi := ⟨some 95, _, _, _, _, _⟩) (v := ?_) rfl (by kernel_rfl) (by kernel_rfl) (by kernel_rfl) (Or.inl ⟨by rfl, unib_val ?_⟩) ?_; rotate_left; (focus (intro w9 hSw; go_simp; try with_reducible rfl)); simp only [Act.put, List.setIfInBounds_toArray, List.set_cons_zero, List.set_cons_succ]
      refine wpG_take (i := 19) (oi := ⟨some 96, _, _, _, _, _⟩) (v := ?_) rfl (by kernel_rfl) (by kernel_rfl) (by kernel_rfl) (Or.inl ⟨by rfl, unib_val ?_⟩) ?_; rotate_left; (focus (intro w9 hSw; go_simp; try with_reducible rfl)); simp only [Act.put, List.setIfInBounds_toArray, List.set_cons_zero, List.set_cons_succ]
      refine wpG_take (i := 20) (oi := ⟨some 4, _, _, _, _, _⟩) (v := ?_) rfl (by kernel_rfl) (by kernel_rfl) (by kernel_rfl) (Or.inl ⟨by rfl, unib_val ?_⟩) ?_; rotate_left; (focus (intro w9 hSw; go_simp; try with_reducible rfl)); simp only [Act.put, List.setIfInBounds_toArray, List.set_cons_zero, List.set_cons_succ]
      refine wpG_done (by kernel_rfl) ?_ _
      intro w9 hSw hO
      clear cv
      go_wp2
      go_ret
      exact ⟨rfl, B7.out.trans (hSw.mono B7.out.size)⟩
  · have HOK := Lib.hid (stGet_put zs hm)
    rw [hm] at HM HP
    simp only [if_true] at HP
    have HEB := Lib.hid (enc_bytes (n * 8 + r))
    have HE10 := Lib.hid (enc_len (n * 8 + r)).2
    unfold st at HM HP ⊢
    clear hm
    generalize enc (n * 8 + r) = E at *
    have B0 := Lib.hid (Below.refl w.heap.size w)
    have T2n := StAt.new w n r
    have T2 := Lib.hid (T2n)
    clear T2n
    have B1 := Lib.hid (B0.out.alloc B0.out.size (.cells #[.int .i64 n, .int .i64 r] 33))
    go_enter Try.func5, Try.ntmps5
    go_wp2_with fail
    refine (stAwake _).mono ?_
    rintro e w1 ⟨rfl, hb⟩
    have T2_1 := Lib.hid (T2.out.below hb T2.out.lt)
    have B2 := Lib.hid (B1.out.trans (hb.mono B1.out.size))
    clear hb
    have c20 := T2_1.out.c0
    have c21 := T2_1.out.c1
    go_wp2_with fail
    refine (HP.out _).mono ?_
    rintro e w2 ⟨A, n1, c1, rfl, hn1, hnc1, hcm1, own1, hb⟩
    have T2_2 := Lib.hid (T2_1.out.below hb T2_1.out.lt)
    have B3 := Lib.hid (B2.out.trans (hb.mono B2.out.size))
    clear hb
    have HN1 := Lib.hid hn1
    have hy1 := Byt.own (zs := E) own1
    have hnil1 := own_nil own1
    clear own1 hn1
    simp only [maxLen] at hcm1
    clear c20 c21
    have c20 := T2_2.out.c0
    have c21 := T2_2.out.c1
    go_wp2_with fail
    refine (HM.out _).mono ?_
    rintro e w3 ⟨rfl, hb⟩
    have HY3 := Lib.hid (hy1.below hb)
    have hle3 : w2.heap.size ≤ w3.heap.size := hb.size
    have T2_3 := Lib.hid (T2_2.out.below hb T2_2.out.lt)
    have B4 := Lib.hid (B3.out.trans (hb.mono B3.out.size))
    clear c20 c21
    clear hb hy1
    have hn9 : n1 ≤ 10 := by rw [← HN1.out]; exact HE10.out
    go_wp2_with (first
      | (at_builtin; refine wpList_append_byt (o := ⟨some 37, _, _, _, _, _⟩) _ rfl _ _ 25 rfl w3.heap.size 5 i0 Try.underlying25 hi hz0 hz1 hz2 _ 0 [] rfl (World.ownsRow_nil _ _ _ _) w3.heap.size A n1 c1 E rfl (HY3.out.wide hle3) HN1.out hnil1 (by omega) (Nat.le_refl _) ?_; intro v4 w4 ho4 hg4; rw [Nat.zero_add, List.nil_append] at ho4; have b4 := B4.out.grown hg4 B4.out.size (fun g hg => by cases hg); have b34 := (Below.refl w3.heap.size w3).grown hg4 (Nat.le_refl _) (fun g hg => by cases hg); clear hg4)
      | (at_builtin; refine wpList_append_byt (o := ⟨some 39, _, _, _, _, _⟩) _ rfl _ _ 25 rfl w3.heap.size 5 i0 Try.underlying25 hi hz0 hz1 hz2 _ n1 E rfl ho4 w.heap.size a1 len1 cap1 zs rfl (HY.out.below b4) HL.out HN.out (by omega) b34.size ?_; intro v5 w5 ho5 hg5; have b5 := Lib.hid (b4.grown hg5 b4.size (fun g hg => Nat.le_trans B4.out.size (own_base ho4 hg))); have b35 := b34.grown hg5 b34.size (fun g hg => own_base ho4 hg); have T5 := Lib.hid (T2_3.out.below b35 T2_3.out.lt); obtain ⟨A5, n5, c5, hv5, hn5, hnc5, hcm5, ho5', _⟩ := gives_own (w := w3) ho5 b35; injection hv5 with hv5; subst hv5; have ho := stGet_any A5 n5 c5 (E ++ zs) w5 (Byt.own ho5') (Nat.le_refl _) hn5 (all_append HEB.out HS.out) (Nat.le_trans hnc5 hcm5); rw [HOK.out] at ho; rw [HN1.out] at ho; have HO5 := Lib.hid ho; clear ho ho5 ho5' hg5 ho4 hn5 b34 b35 b4; simp only [maxLen] at hcm5))
    unfold stGetV st at HO5
    refine (HO5.out).mono ?_
    rintro e w6 ⟨rfl, hb⟩
    have T2_6 := Lib.hid (T5.out.below hb T5.out.lt)
    have B5 := Lib.hid (b5.out.trans (hb.mono b5.out.size))
    clear hb
    have T2_6' := Lib.hid (T2_6.out.old (.cells #[.int .i64 n, .int .i64 r] 33))
    have T8n := StAt.new w6 n r
    have T8 := Lib.hid (T8n)
    clear T8n
    have B6 := Lib.hid (B5.out.alloc B5.out.size (.cells #[.int .i64 n, .int .i64 r] 33))
    have c20 := T2_6'.out.c0
    have c21 := T2_6'.out.c1
    have hnn : n1 = n1 := rfl
    go_wp2_with fail
    refine (HG.out _ B6.out).mono ?_
    cases hO : stGet zs with
    | none =>
      rintro e w7 ⟨rfl, hb⟩
      have B7 := Lib.hid (B6.out.trans (hb.mono B6.out.size))
      clear hb
      unfold stGetV st
      have BZ := Lib.hid (B7.out.alloc B7.out.size (.cells #[.int .i64 0, .int .i64 0] 33))
      go_wp2
      go_ret
      exact ⟨rfl, BZ.out⟩
    | some o =>
      obtain ⟨n9, r9, k9⟩ := o
      obtain ⟨q1, q2, q3⟩ := stGet_some HS.out hO
      rintro e w7 ⟨rfl, hb⟩
      have B7 := Lib.hid (B6.out.trans (hb.mono B6.out.size))
      clear hb
      unfold stGetV st
      rw [HL.out] at q2
      have HPX := Lib.hid (fun w => stPut_yes n9 r9 w q1)
      have HMX := Lib.hid (may_any n9 r9)
      rw [q1] at HMX
      unfold st at HPX HMX
      rw [q3] at HPX
      clear q1 q3 hO
      have T11n := StAt.new w7 n9 r9
      have T11 := Lib.hid (T11n)
      clear T11n
      have B8 := Lib.hid (B7.out.alloc B7.out.size (.cells #[.int .i64 n9, .int .i64 r9] 33))
      go_wp2_with fail
      refine (HPX.out _).mono ?_
      rintro e w8 ⟨A8, n8, c8, rfl, hn8, hnc8, hcm8, own8, hb⟩
      have T11_8 := Lib.hid (T11.out.below hb T11.out.lt)
      have B9 := Lib.hid (B8.out.trans (hb.mono B8.out.size))
      clear hb
      have HY6 := Lib.hid (Byt.own (zs := zs.take k9) own8)
      have HN6 := Lib.hid hn8
      have HY7 := Lib.hid ((HY.out.below B9.out).take k9)
      have HN7 := Lib.hid (show (zs.take k9).length = k9 by rw [List.length_take, HL.out]; omega)
      have HLE := Lib.hid (show decide ((k9 : Int) ≤ len1) = true by simp; omega)
      have HSL := Lib.hid (sl_h a1 len1 cap1 k9 (by omega) (k9 : Int) rfl)
      clear own8 hn8
      simp only [maxLen] at hcm8
      go_wp2_with fail
      have cv := CV.out
      refine wp_region_G w8 (by kernel_rfl) ?_
      refine wpG_take (i := 0) (oi := ⟨some 77, _, _, _, _, _⟩) (v := ?_) rfl (by kernel_rfl) (by kernel_rfl) (by kernel_rfl) (Or.inl ⟨by rfl, unib_val ?_⟩) ?_; rotate_left; (focus (intro w9 hSw; go_simp; try with_reducible rfl)); simp only [Act.put, List.setIfInBounds_toArray, List.set_cons_zero, List.set_cons_succ]
      refine wpG_take (i := 1) (oi := ⟨some 78, _, _, _, _, _⟩) (v := ?_) rfl (by kernel_rfl) (by kernel_rfl) (by kernel_rfl) (Or.inl ⟨by rfl, unib_val ?_⟩) ?_; rotate_left; (focus (intro w9 hSw; go_simp; try with_reducible rfl)); simp only [Act.put, List.setIfInBounds_toArray, List.set_cons_zero, List.set_cons_succ]
      refine wpG_take (i := 2) (oi := ⟨some 79, _, _, _, _, _⟩) (v := ?_) rfl (by kernel_rfl) (by kernel_rfl) (by kernel_rfl) (Or.inl ⟨by rfl, unib_val ?_⟩) ?_; rotate_left; (focus (intro w9 hSw; have q9 := T11_8.out.below hSw T11_8.out.lt; have q0 := q9.c0; have q1 := q9.c1; go_simp; try with_reducible rfl)); simp only [Act.put, List.setIfInBounds_toArray, List.set_cons_zero, List.set_cons_succ]
      refine wpG_take (i := 3) (oi := ⟨some 80, _, _, _, _, _⟩) rfl (by kernel_rfl) (by kernel_rfl) (by kernel_rfl) (Or.inl ⟨by rfl, unib_call ?_ HMX.out⟩) ?_; (focus (intro w9 hSw; go_simp; try with_reducible rfl)); simp only [Act.put, List.setIfInBounds_toArray, List.set_cons_zero, List.set_cons_succ]
      refine wpG_take (i := 4) (oi := ⟨some 81, _, _, _, _, _⟩) (v := ?_) rfl (by kernel_rfl) (by kernel_rfl) (by kernel_rfl) (Or.inl ⟨by rfl, unib_val ?_⟩) ?_; rotate_left; (focus (intro w9 hSw; go_simp; try with_reducible rfl)); simp only [Act.put, List.setIfInBounds_toArray, List.set_cons_zero, List.set_cons_succ]
      refine wpG_take (i := 5) (oi := ⟨some 82, _, _, _, _, _⟩) (v := ?_) rfl (by kernel_rfl) (by kernel_rfl) (by kernel_rfl) (Or.inl ⟨by rfl, unib_val ?_⟩) ?_; rotate_left; (focus (intro w9 hSw; go_simp; try with_reducible rfl)); simp only [Act.put, List.setIfInBounds_toArray, List.set_cons_zero, List.set_cons_succ]
      refine wpG_take (i := 6) (oi := ⟨some 83, _, _, _, _, _⟩) (v := ?_) rfl (by kernel_rfl) (by kernel_rfl) (by kernel_rfl) (Or.inl ⟨by rfl, unib_val ?_⟩) ?_; rotate_left; (focus (intro w9 hSw; go_simp; try with_reducible rfl)); simp only [Act.put, List.setIfInBounds_toArray, List.set_cons_zero, List.set_cons_succ]
      refine wpG_take (i := 7) (oi := ⟨some 84, _, _, _, _, _⟩) (v := ?_) rfl (by kernel_rfl) (by kernel_rfl) (by kernel_rfl) (Or.inl ⟨by rfl, unib_val ?_⟩) ?_; rotate_left; (focus (intro w9 hSw; go_simp; try with_reducible rfl)); simp only [Act.put, List.setIfInBounds_toArray, List.set_cons_zero, List.set_cons_succ]
      refine wpG_take (i := 8) (oi := ⟨some 85, _, _, _, _, _⟩) (v := ?_) rfl (by kernel_rfl) (by kernel_rfl) (by kernel_rfl) (Or.inl ⟨by rfl, unib_val ?_⟩) ?_; rotate_left; (focus (intro w9 hSw; go_simp; try with_reducible rfl)); simp only [Act.put, List.setIfInBounds_toArray, List.set_cons_zero, List.set_cons_succ]
      refine wpG_take (i := 9) (oi := ⟨some 86, _, _, _, _, _⟩) (v := ?_) rfl (by kernel_rfl) (by kernel_rfl) (by kernel_rfl) (Or.inl ⟨by rfl, unib_val ?_⟩) ?_; rotate_left; (focus (intro w9 hSw; have s9 := HLE.out; go_simp; try with_reducible rfl)); simp only [Act.put, List.setIfInBounds_toArray, List.set_cons_zero, List.set_cons_succ]
      refine wpG_take (i := 10) (oi := ⟨some 87, _, _, _, _, _⟩) (v := ?_) rfl (by kernel_rfl) (by kernel_rfl) (by kernel_rfl) (Or.inl ⟨by rfl, unib_val ?_⟩) ?_; rotate_left; (focus (intro w9 hSw; go_simp; try with_reducible rfl)); simp only [Act.put, List.setIfInBounds_toArray, List.set_cons_zero, List.set_cons_succ]
      refine wpG_take (i := 11) (oi := ⟨some 88, _, _, _, _, _⟩) (v := ?_) rfl (by kernel_rfl) (by kernel_rfl) (by kernel_rfl) (Or.inl ⟨by rfl, unib_val ?_⟩) ?_; rotate_left; (focus (intro w9 hSw; go_simp; try with_reducible rfl)); simp only [Act.put, List.setIfInBounds_toArray, List.set_cons_zero, List.set_cons_succ]
      refine wpG_take (i := 12) (oi := ⟨some 89, _, _, _, _, _⟩) (v := ?_) rfl (by kernel_rfl) (by kernel_rfl) (by kernel_rfl) (Or.inl ⟨by rfl, unib_val ?_⟩) ?_; rotate_left; (focus (intro w9 hSw; go_simp; try with_reducible rfl)); simp only [Act.put, List.setIfInBounds_toArray, List.set_cons_zero, List.set_cons_succ]
      refine wpG_take (i := 13) (oi := ⟨some 90, _, _, _, _, _⟩) (v := ?_) rfl (by kernel_rfl) (by kernel_rfl) (by kernel_rfl) (Or.inl ⟨by rfl, unib_val ?_⟩) ?_; rotate_left; (focus (intro w9 hSw; have t9 := HF.out w9 _ _ _ (HY6.out.below hSw) n8 c8 HN6.out; go_simp; try with_reducible rfl)); simp only [Act.put, List.setIfInBounds_toArray, List.set_cons_zero, List.set_cons_succ]
      refine wpG_take (i := 14) (oi := ⟨some 91, _, _, _, _, _⟩) (v := ?_) rfl (by kernel_rfl) (by kernel_rfl) (by kernel_rfl) (Or.inl ⟨by rfl, unib_val ?_⟩) ?_; rotate_left; (focus (intro w9 hSw; go_simp; try with_reducible rfl)); simp only [Act.put, List.setIfInBounds_toArray, List.set_cons_zero, List.set_cons_succ]
      refine wpG_take (i := 15) (oi := ⟨some 92, _, _, _, _, _⟩) (v := ?_) rfl (by kernel_rfl) (by kernel_rfl) (by kernel_rfl) (Or.inl ⟨by rfl, unib_val ?_⟩) ?_; rotate_left; (focus (intro w9 hSw; go_simp; try with_reducible rfl)); simp only [Act.put, List.setIfInBounds_toArray, List.set_cons_zero, List.set_cons_succ]
      refine wpG_take (i := 16) (oi := ⟨some 93, _, _, _, _, _⟩) (v := ?_) rfl (by kernel_rfl) (by kernel_rfl) (by kernel_rfl) (Or.inl ⟨by rfl, unib_val ?_⟩) ?_; rotate_left; (focus (intro w9 hSw; have s9 := HSL.out w9; go_simp; try with_reducible rfl)); simp only [Act.put, List.setIfInBounds_toArray, List.set_cons_zero, List.set_cons_succ]
      refine wpG_take (i := 17) (oi := ⟨some 94, _, _, _, _, _⟩) (v := ?_) rfl (by kernel_rfl) (by kernel_rfl) (by kernel_rfl) (Or.inl ⟨by rfl, unib_val ?_⟩) ?_; rotate_left; (focus (intro w9 hSw; have t9 := HF.out w9 _ _ _ (HY7.out.below (hSw.mono B9.out.size)) k9 cap1 HN7.out; go_simp; try with_reducible rfl)); simp only [Act.put, List.setIfInBounds_toArray, List.set_cons_zero, List.set_cons_succ]
      refine wpG_take (i := 18) (oi := ⟨some 95, _, _, _, _, _⟩) (v := ?_) rfl (by kernel_rfl) (by kernel_rfl) (by kernel_rfl) (Or.inl ⟨by rfl, unib_val ?_⟩) ?_; rotate_left; (focus (intro w9 hSw; go_simp; try with_reducible rfl)); simp only [Act.put, List.setIfInBounds_toArray, List.set_cons_zero, List.set_cons_succ]
      refine wpG_take (i := 19) (oi := ⟨some 96, _, _, _, _, _⟩) (v := ?_) rfl (by kernel_rfl) (by kernel_rfl) (by kernel_rfl) (Or.inl ⟨by rfl, unib_val ?_⟩) ?_; rotate_left; (focus (intro w9 hSw; go_simp; try with_reducible rfl)); simp only [Act.put, List.setIfInBounds_toArray, List.set_cons_zero, List.set_cons_succ]
      refine wpG_take (i := 20) (oi := ⟨some 4, _, _, _, _, _⟩) (v := ?_) rfl (by kernel_rfl) (by kernel_rfl) (by kernel_rfl) (Or.inl ⟨by rfl, unib_val ?_⟩) ?_; rotate_left; (focus (intro w9 hSw; go_simp; try with_reducible rfl)); simp only [Act.put, List.setIfInBounds_toArray, List.set_cons_zero, List.set_cons_succ]
      refine wpG_done (by kernel_rfl) ?_ _
      intro w9 hSw hO
      clear cv
      go_wp2
      go_ret
      exact ⟨rfl, B9.out.trans (hSw.mono B9.out.size)⟩
end Go.Proofs.Ytomlckefkamdgaa
