import Derived.Test.YtlahjooofjbfbaaDoorSgAwake
/-
  The law SignJoin: for every two texts it answers true, and nothing that was there is written. Nothing that was there is written.
-/
namespace Go.Proofs.YtlahjooofjbfbaaDoor
open Go.RowKit WM
set_option linter.unusedVariables false
set_option maxRecDepth 100000
theorem nums_app10 (s t : ByteArray) : nums (s ++ t) = nums s ++ nums t := by
  unfold nums
  rw [ByteArray.data_append]
  simp
set_option maxHeartbeats 8000000 in
theorem walk_signJoin (s t : ByteArray) (w : World) (hlaid : Laid w) (hs : s.size ≤ maxLen) (ht : t.size ≤ maxLen) :
    Calls Tryd.prog 7 #[.string s, .string t] w fun e w' => e = .returned (.bool true) ∧ Below w.heap.size w w' := by
  have B0 := Lib.hid (Below.refl w.heap.size w)
  have HL := Lib.hid hlaid
  have HLA := Lib.hid (fun (X : World) (hX : Below w.heap.size w X) => hlaid.below hX (Nat.le_refl _))
  have hN := nums_len s
  have hM := nums_len t
  obtain ⟨n, hn⟩ : ∃ n, n = s.size := ⟨_, rfl⟩
  obtain ⟨m, hm⟩ : ∃ m, m = t.size := ⟨_, rfl⟩
  have hlen : s.size = n := hn.symm
  have hlen2 : t.size = m := hm.symm
  have HSZ := Lib.hid hlen
  have HSZ2 := Lib.hid hlen2
  rw [← hn] at hN
  rw [← hm] at hM
  have hN := Lib.hid hN
  have hM := Lib.hid hM
  clear hn hm hlaid hs ht
  by_cases t1 : (300 : Int) < (n : Int)
  · clear HLA
    go_enter Tryd.func7, Tryd.ntmps7
    go_wp2_with fail
    refine (sgAwake w HL.out).mono ?_
    rintro e w1 ⟨rfl, hb⟩
    have B1 := Lib.hid (B0.out.trans (hb.mono B0.out.size))
    clear hb
    go_wp2
    go_ret
    exact ⟨rfl, B1.out⟩
  by_cases t2 : (300 : Int) < (m : Int)
  · clear HLA
    go_enter Tryd.func7, Tryd.ntmps7
    go_wp2_with fail
    refine (sgAwake w HL.out).mono ?_
    rintro e w1 ⟨rfl, hb⟩
    have B1 := Lib.hid (B0.out.trans (hb.mono B0.out.size))
    clear hb
    go_wp2
    go_ret
    exact ⟨rfl, B1.out⟩
  by_cases t3 : (n : Int) < 24
  · clear HLA
    go_enter Tryd.func7, Tryd.ntmps7
    go_wp2_with fail
    refine (sgAwake w HL.out).mono ?_
    rintro e w1 ⟨rfl, hb⟩
    have B1 := Lib.hid (B0.out.trans (hb.mono B0.out.size))
    clear hb
    go_wp2
    go_ret
    exact ⟨rfl, B1.out⟩
  by_cases t4 : (m : Int) < 24
  · clear HLA
    go_enter Tryd.func7, Tryd.ntmps7
    go_wp2_with fail
    refine (sgAwake w HL.out).mono ?_
    rintro e w1 ⟨rfl, hb⟩
    have B1 := Lib.hid (B0.out.trans (hb.mono B0.out.size))
    clear hb
    go_wp2
    go_ret
    exact ⟨rfl, B1.out⟩
  have f0 : Int.tmod (n : Int) 8 = ((n % 8 : Nat) : Int) := by rw [Int.tmod_eq_emod_of_nonneg (by omega)]; omega
  by_cases h8 : n % 8 = 0
  · rw [h8, Int.natCast_zero] at f0
    have C1 := Lib.hid (fun X (hX : Below w.heap.size w X) => of10_any s X (HLA.out X hX) (by rw [HSZ.out]; omega))
    have C2 := Lib.hid (fun X (hX : Below w.heap.size w X) => of10_any t X (HLA.out X hX) (by rw [HSZ2.out]; omega))
    have C3 := Lib.hid (fun X (hX : Below w.heap.size w X) => of10_any (s ++ t) X (HLA.out X hX) (by rw [ByteArray.size_append, HSZ.out, HSZ2.out]; omega))
    rw [nums_app10, sgOf_append (by rw [hN.out]; omega) (by rw [hM.out]; omega) (by rw [hN.out]; exact h8)] at C3
    unfold KPost at C1 C2 C3
    have LO1 := Lib.hid (sgOf_ok (nums s))
    have LO2 := Lib.hid (sgOf_ok (nums t))
    have b1 := sgOf_le (nums s)
    have b2 := sgOf_le (nums t)
    rw [hN.out] at b1
    rw [hM.out] at b2
    generalize sgOf (nums s) = L1 at *
    generalize sgOf (nums t) = L2 at *
    have HLA1 := Lib.hid (show (L1 ++ L2).length = L1.length + L2.length from List.length_append)
    obtain ⟨p, hp⟩ : ∃ p, p = L1.length := ⟨_, rfl⟩
    obtain ⟨q, hq⟩ : ∃ q, q = L2.length := ⟨_, rfl⟩
    obtain ⟨r, hr⟩ : ∃ r, r = p + q := ⟨_, rfl⟩
    rw [← hp] at C1 HLA1 b1
    rw [← hq] at C2 HLA1 b2
    rw [HLA1.out, ← hr] at C3
    have HP := Lib.hid hp
    have HQL := Lib.hid hq
    have HRR := Lib.hid hr
    have f1 : IntKind.i64.wrap ((p : Int) + (q : Int)) = (r : Int) := by rw [IntWalk.i64_in _ (by omega)]; omega
    have hrb : r ≤ 1000 := by omega
    clear hp hq hr h8
    go_enter Tryd.func7, Tryd.ntmps7
    go_wp2_with fail
    refine (sgAwake w HL.out).mono ?_
    rintro e w1 ⟨rfl, hb⟩
    have B1 := Lib.hid (B0.out.trans (hb.mono B0.out.size))
    clear hb
    go_wp2_with fail
    refine (C1.out _ B1.out).mono ?_
    rintro e w2 ⟨A1, c1, rfl, r1, hb⟩
    have B2 := Lib.hid (B1.out.trans (hb.mono B1.out.size))
    have R1 := Lib.hid r1
    clear hb r1
    go_wp2_with fail
    refine (C2.out _ B2.out).mono ?_
    rintro e w3 ⟨A2, c2, rfl, r2, hb⟩
    have B3 := Lib.hid (B2.out.trans (hb.mono B2.out.size))
    have R2 := Lib.hid r2
    have X3 := Lib.hid hb
    clear hb r2
    go_wp2_with fail
    refine (C3.out _ B3.out).mono ?_
    rintro e w4 ⟨A3, c3, rfl, r3, hb⟩
    have B4 := Lib.hid (B3.out.trans (hb.mono B3.out.size))
    have R3 := Lib.hid r3
    have X4 := Lib.hid hb
    clear hb r3
    go_wp2
    go_loopw [9] (fun i wr => ∃ k : Nat, k ≤ r ∧ i = .int .i64 k ∧ Below w4.heap.size w4 wr) (fun i _ => r - (intOf i).toNat)
    case atStart => exact ⟨0, Nat.zero_le _, rfl, Below.refl _ _⟩
    case round =>
      obtain ⟨k, hk, rfl, hb⟩ := hrel
      have BR3 := Lib.hid hb
      have HBB := Lib.hid (B4.out.trans (hb.mono B4.out.size))
      clear hb
      by_cases hlt : k < r
      · have t6 : (k : Int) < (r : Int) := by omega
        obtain ⟨b3, o3, rfl, h3w, hat3, hix3⟩ := sig_row R3.out (by rw [HLA1.out]; have := HRR.out; omega)
        have I1 := hix3 k (by rw [HLA1.out]; have := HRR.out; omega) (k : Int) rfl
        rw [HLA1.out, ← HRR.out] at I1
        have I1 := Lib.hid I1
        have Q1 := hat3 k (by rw [HLA1.out]; have := HRR.out; omega)
        have h1w := Lib.hid h3w
        have BR1 := BR3
        by_cases hkp : k < p
        · have t7 : (k : Int) < (p : Int) := by omega
          have t8 : ¬ (p : Int) ≤ (k : Int) := by omega
          have t9 : decide (p ≤ k) = false := decide_eq_false (by omega)
          have t10 : decide ((p : Int) ≤ (k : Int)) = false := decide_eq_false (by omega)
          obtain ⟨b1', o1, rfl, h2w, hat1, hix1⟩ := sig_row R1.out (by rw [← HP.out]; omega)
          have I2 := hix1 k (by rw [← HP.out]; exact hkp) (k : Int) rfl
          rw [← HP.out] at I2
          have I2 := Lib.hid I2
          have Q2 := Lib.hid (hat1 k (by rw [← HP.out]; exact hkp))
          have h2w := Lib.hid h2w
          have BR2 := Lib.hid (X3.out.trans ((X4.out.trans (BR3.out.mono X4.out.size)).mono X3.out.size))
          rw [getD_app_l (by rw [← HP.out]; exact hkp)] at Q1
          have XO := Lib.hid (LO1.out (L1.getD k sg0) (by rw [List.getD_eq_getElem?_getD, List.getElem?_eq_getElem (by rw [← HP.out]; exact hkp)]; exact List.getElem_mem _))
          have HQ := Lib.hid (show ∀ w9, (Op.equalIn 10000 30 (.agg (KSig.cs (L1.getD k sg0)).toArray) (.agg (KSig.cs (L1.getD k sg0)).toArray)).run Tryd.prog w9 = .ok true w9 from fun w9 => by rw [← show decide (L1.getD k sg0 = L1.getD k sg0) = true by simp]; exact eq_sig XO.out XO.out w9)
          have Q1 := Lib.hid Q1
          generalize L1.getD k sg0 = x at *
          clear hat3 hix3 hat1 hix1 h3w
          go_wp2_with fail
          refine wp_region_G _ (by kernel_rfl) ?_
          refine wpG_take (i := 0) (oi := ⟨some 62, _, _, _, _, _⟩) (v := ?_) rfl (by kernel_rfl) (by kernel_rfl) (by kernel_rfl) (Or.inl ⟨by rfl, unib_val ?_⟩) ?_; rotate_left; (focus (intro w9 hSw; go_simp; try with_reducible rfl)); simp only [Act.put, List.setIfInBounds_toArray, List.set_cons_zero, List.set_cons_succ]
          refine wpG_take (i := 1) (oi := ⟨some 63, _, _, _, _, _⟩) (v := ?_) rfl (by kernel_rfl) (by kernel_rfl) (by kernel_rfl) (Or.inl ⟨by rfl, unib_val ?_⟩) ?_; rotate_left; (focus (intro w9 hSw; go_simp; try with_reducible rfl)); simp only [Act.put, List.setIfInBounds_toArray, List.set_cons_zero, List.set_cons_succ]
          refine wpG_take (i := 2) (oi := ⟨some 64, _, _, _, _, _⟩) (v := ?_) rfl (by kernel_rfl) (by kernel_rfl) (by kernel_rfl) (Or.inl ⟨by rfl, unib_val ?_⟩) ?_; rotate_left; (focus (intro w9 hSw; go_simp; try with_reducible rfl)); simp only [Act.put, List.setIfInBounds_toArray, List.set_cons_zero, List.set_cons_succ]
          refine wpG_take (i := 3) (oi := ⟨some 65, _, _, _, _, _⟩) (v := ?_) rfl (by kernel_rfl) (by kernel_rfl) (by kernel_rfl) (Or.inl ⟨by rfl, unib_val ?_⟩) ?_; rotate_left; (focus (intro w9 hSw; go_simp; try with_reducible rfl)); simp only [Act.put, List.setIfInBounds_toArray, List.set_cons_zero, List.set_cons_succ]
          refine wpG_take (i := 4) (oi := ⟨some 66, _, _, _, _, _⟩) (v := ?_) rfl (by kernel_rfl) (by kernel_rfl) (by kernel_rfl) (Or.inl ⟨by rfl, unib_val ?_⟩) ?_; rotate_left; (focus (intro w9 hSw; go_simp; try with_reducible rfl)); simp only [Act.put, List.setIfInBounds_toArray, List.set_cons_zero, List.set_cons_succ]
          refine wpG_take (i := 5) (oi := ⟨some 67, _, _, _, _, _⟩) (v := ?_) rfl (by kernel_rfl) (by kernel_rfl) (by kernel_rfl) (Or.inl ⟨by rfl, unib_val ?_⟩) ?_; rotate_left; (focus (intro w9 hSw; go_simp; try with_reducible rfl)); simp only [Act.put, List.setIfInBounds_toArray, List.set_cons_zero, List.set_cons_succ]
          refine wpG_take (i := 6) (oi := ⟨some 68, _, _, _, _, _⟩) (v := ?_) rfl (by kernel_rfl) (by kernel_rfl) (by kernel_rfl) (Or.inl ⟨by rfl, unib_val ?_⟩) ?_; rotate_left; (focus (intro w9 hSw; go_simp; try with_reducible rfl)); simp only [Act.put, List.setIfInBounds_toArray, List.set_cons_zero, List.set_cons_succ]
          refine wpG_take (i := 7) (oi := ⟨some 69, _, _, _, _, _⟩) (v := ?_) rfl (by kernel_rfl) (by kernel_rfl) (by kernel_rfl) (Or.inl ⟨by rfl, unib_val ?_⟩) ?_; rotate_left; (focus (intro w9 hSw; have q0 := I1.out w9; go_simp; try with_reducible rfl)); simp only [Act.put, List.setIfInBounds_toArray, List.set_cons_zero, List.set_cons_succ]
          refine wpG_take (i := 8) (oi := ⟨some 70, _, _, _, _, _⟩) (v := (.agg (KSig.cs x).toArray)) rfl (by kernel_rfl) (by kernel_rfl) (by kernel_rfl) (Or.inl ⟨by rfl, unib_val ?_⟩) ?_; (focus (intro w9 hSw; exact exec_load_at 30 _ rfl _ rfl (load_sigK Q1.out XO.out (BR1.out.trans (hSw.mono BR1.out.size)) h1w.out))); simp only [Act.put, List.setIfInBounds_toArray, List.set_cons_zero, List.set_cons_succ]
          refine wpG_take (i := 9) (oi := ⟨some 71, _, _, _, _, _⟩) (v := ?_) rfl (by kernel_rfl) (by kernel_rfl) (by kernel_rfl) (Or.inl ⟨by rfl, unib_val ?_⟩) ?_; rotate_left; (focus (intro w9 hSw; go_simp; try with_reducible rfl)); simp only [Act.put, List.setIfInBounds_toArray, List.set_cons_zero, List.set_cons_succ]
          refine wpG_take (i := 10) (oi := ⟨some 72, _, _, _, _, _⟩) (v := ?_) rfl (by kernel_rfl) (by kernel_rfl) (by kernel_rfl) (Or.inl ⟨by rfl, unib_val ?_⟩) ?_; rotate_left; (focus (intro w9 hSw; go_simp; try with_reducible rfl)); simp only [Act.put, List.setIfInBounds_toArray, List.set_cons_zero, List.set_cons_succ]
          refine wpG_take (i := 11) (oi := ⟨some 73, _, _, _, _, _⟩) (v := ?_) rfl (by kernel_rfl) (by kernel_rfl) (by kernel_rfl) (Or.inl ⟨by rfl, unib_val ?_⟩) ?_; rotate_left; (focus (intro w9 hSw; have q0 := I2.out w9; go_simp; try with_reducible rfl)); simp only [Act.put, List.setIfInBounds_toArray, List.set_cons_zero, List.set_cons_succ]
          refine wpG_take (i := 12) (oi := ⟨some 74, _, _, _, _, _⟩) (v := (.agg (KSig.cs x).toArray)) rfl (by kernel_rfl) (by kernel_rfl) (by kernel_rfl) (Or.inl ⟨by rfl, unib_val ?_⟩) ?_; (focus (intro w9 hSw; exact exec_load_at 30 _ rfl _ rfl (load_sigK Q2.out XO.out (BR2.out.trans (hSw.mono BR2.out.size)) h2w.out))); simp only [Act.put, List.setIfInBounds_toArray, List.set_cons_zero, List.set_cons_succ]
          refine wpG_take (i := 13) (oi := ⟨some 75, _, _, _, _, _⟩) (v := (.bool false)) rfl (by kernel_rfl) (by kernel_rfl) (by kernel_rfl) (Or.inl ⟨by rfl, unib_val ?_⟩) ?_; (focus (intro w9 hSw; have q0 := HQ.out w9; exact exec_neq_at 30 _ _ _ rfl rfl rfl guardSig q0)); simp only [Act.put, List.setIfInBounds_toArray, List.set_cons_zero, List.set_cons_succ]
          refine wpG_take (i := 14) (oi := ⟨some 76, _, _, _, _, _⟩) (v := ?_) rfl (by kernel_rfl) (by kernel_rfl) (by kernel_rfl) (Or.inl ⟨by rfl, unib_val ?_⟩) ?_; rotate_left; (focus (intro w9 hSw; go_simp; try with_reducible rfl)); simp only [Act.put, List.setIfInBounds_toArray, List.set_cons_zero, List.set_cons_succ]
          refine wpG_take (i := 15) (oi := ⟨some 77, _, _, _, _, _⟩) (v := ?_) rfl (by kernel_rfl) (by kernel_rfl) (by kernel_rfl) (Or.inl ⟨by rfl, unib_val ?_⟩) ?_; rotate_left; (focus (intro w9 hSw; go_simp; try with_reducible rfl)); simp only [Act.put, List.setIfInBounds_toArray, List.set_cons_zero, List.set_cons_succ]
          refine wpG_take (i := 16) (oi := ⟨some 78, _, _, _, _, _⟩) (v := ?_) rfl (by kernel_rfl) (by kernel_rfl) (by kernel_rfl) (Or.inl ⟨by rfl, unib_val ?_⟩) ?_; rotate_left; (focus (intro w9 hSw; go_simp; try with_reducible rfl)); simp only [Act.put, List.setIfInBounds_toArray, List.set_cons_zero, List.set_cons_succ]
          refine wpG_take (i := 17) (oi := ⟨some 79, _, _, _, _, _⟩) (v := ?_) rfl (by kernel_rfl) (by kernel_rfl) (by kernel_rfl) (Or.inl ⟨by rfl, unib_val ?_⟩) ?_; rotate_left; (focus (intro w9 hSw; go_simp; try with_reducible rfl)); simp only [Act.put, List.setIfInBounds_toArray, List.set_cons_zero, List.set_cons_succ]
          refine wpG_take (i := 18) (oi := ⟨some 80, _, _, _, _, _⟩) (v := ?_) rfl (by kernel_rfl) (by kernel_rfl) (by kernel_rfl) (Or.inl ⟨by rfl, unib_val ?_⟩) ?_; rotate_left; (focus (intro w9 hSw; go_simp; try with_reducible rfl)); simp only [Act.put, List.setIfInBounds_toArray, List.set_cons_zero, List.set_cons_succ]
          refine wpG_take (i := 19) (oi := ⟨some 81, _, _, _, _, _⟩) (v := ?_) rfl (by kernel_rfl) (by kernel_rfl) (by kernel_rfl) (Or.inl ⟨by rfl, unib_val ?_⟩) ?_; rotate_left; (focus (intro w9 hSw; go_simp; try with_reducible rfl)); simp only [Act.put, List.setIfInBounds_toArray, List.set_cons_zero, List.set_cons_succ]
          refine wpG_take (i := 20) (oi := ⟨some 82, _, _, _, _, _⟩) (v := ?_) rfl (by kernel_rfl) (by kernel_rfl) (by kernel_rfl) (Or.inl ⟨by rfl, unib_val ?_⟩) ?_; rotate_left; (focus (intro w9 hSw; go_simp; try with_reducible rfl)); simp only [Act.put, List.setIfInBounds_toArray, List.set_cons_zero, List.set_cons_succ]
          refine wpG_take (i := 21) (oi := ⟨some 83, _, _, _, _, _⟩) rfl (by kernel_rfl) (by kernel_rfl) (by kernel_rfl) (Or.inr ⟨by rfl, rfl⟩) ?_; simp only [Act.put, List.setIfInBounds_toArray, List.set_cons_zero, List.set_cons_succ]
          refine wpG_take (i := 22) (oi := ⟨some 84, _, _, _, _, _⟩) rfl (by kernel_rfl) (by kernel_rfl) (by kernel_rfl) (Or.inr ⟨by rfl, rfl⟩) ?_; simp only [Act.put, List.setIfInBounds_toArray, List.set_cons_zero, List.set_cons_succ]
          refine wpG_take (i := 23) (oi := ⟨some 85, _, _, _, _, _⟩) rfl (by kernel_rfl) (by kernel_rfl) (by kernel_rfl) (Or.inr ⟨by rfl, rfl⟩) ?_; simp only [Act.put, List.setIfInBounds_toArray, List.set_cons_zero, List.set_cons_succ]
          refine wpG_take (i := 24) (oi := ⟨some 86, _, _, _, _, _⟩) rfl (by kernel_rfl) (by kernel_rfl) (by kernel_rfl) (Or.inr ⟨by rfl, rfl⟩) ?_; simp only [Act.put, List.setIfInBounds_toArray, List.set_cons_zero, List.set_cons_succ]
          refine wpG_take (i := 25) (oi := ⟨some 87, _, _, _, _, _⟩) rfl (by kernel_rfl) (by kernel_rfl) (by kernel_rfl) (Or.inr ⟨by rfl, rfl⟩) ?_; simp only [Act.put, List.setIfInBounds_toArray, List.set_cons_zero, List.set_cons_succ]
          refine wpG_take (i := 26) (oi := ⟨some 88, _, _, _, _, _⟩) rfl (by kernel_rfl) (by kernel_rfl) (by kernel_rfl) (Or.inr ⟨by rfl, rfl⟩) ?_; simp only [Act.put, List.setIfInBounds_toArray, List.set_cons_zero, List.set_cons_succ]
          refine wpG_take (i := 27) (oi := ⟨some 89, _, _, _, _, _⟩) rfl (by kernel_rfl) (by kernel_rfl) (by kernel_rfl) (Or.inr ⟨by rfl, rfl⟩) ?_; simp only [Act.put, List.setIfInBounds_toArray, List.set_cons_zero, List.set_cons_succ]
          refine wpG_take (i := 28) (oi := ⟨some 90, _, _, _, _, _⟩) rfl (by kernel_rfl) (by kernel_rfl) (by kernel_rfl) (Or.inr ⟨by rfl, rfl⟩) ?_; simp only [Act.put, List.setIfInBounds_toArray, List.set_cons_zero, List.set_cons_succ]
          refine wpG_take (i := 29) (oi := ⟨some 91, _, _, _, _, _⟩) rfl (by kernel_rfl) (by kernel_rfl) (by kernel_rfl) (Or.inr ⟨by rfl, rfl⟩) ?_; simp only [Act.put, List.setIfInBounds_toArray, List.set_cons_zero, List.set_cons_succ]
          refine wpG_take (i := 30) (oi := ⟨some 92, _, _, _, _, _⟩) rfl (by kernel_rfl) (by kernel_rfl) (by kernel_rfl) (Or.inr ⟨by rfl, rfl⟩) ?_; simp only [Act.put, List.setIfInBounds_toArray, List.set_cons_zero, List.set_cons_succ]
          refine wpG_take (i := 31) (oi := ⟨some 93, _, _, _, _, _⟩) rfl (by kernel_rfl) (by kernel_rfl) (by kernel_rfl) (Or.inr ⟨by rfl, rfl⟩) ?_; simp only [Act.put, List.setIfInBounds_toArray, List.set_cons_zero, List.set_cons_succ]
          refine wpG_take (i := 32) (oi := ⟨some 94, _, _, _, _, _⟩) rfl (by kernel_rfl) (by kernel_rfl) (by kernel_rfl) (Or.inr ⟨by rfl, rfl⟩) ?_; simp only [Act.put, List.setIfInBounds_toArray, List.set_cons_zero, List.set_cons_succ]
          refine wpG_take (i := 33) (oi := ⟨some 95, _, _, _, _, _⟩) (v := ?_) rfl (by kernel_rfl) (by kernel_rfl) (by kernel_rfl) (Or.inl ⟨by rfl, unib_val ?_⟩) ?_; rotate_left; (focus (intro w9 hSw; go_simp; try with_reducible rfl)); simp only [Act.put, List.setIfInBounds_toArray, List.set_cons_zero, List.set_cons_succ]
          refine wpG_take (i := 34) (oi := ⟨some 96, _, _, _, _, _⟩) (v := ?_) rfl (by kernel_rfl) (by kernel_rfl) (by kernel_rfl) (Or.inl ⟨by rfl, unib_val ?_⟩) ?_; rotate_left; (focus (intro w9 hSw; go_simp; try with_reducible rfl)); simp only [Act.put, List.setIfInBounds_toArray, List.set_cons_zero, List.set_cons_succ]
          refine wpG_done (by kernel_rfl) ?_ _
          intro w9 hSw _
          have B9 := Lib.hid (BR3.out.trans (hSw.mono BR3.out.size))
          clear hSw
          go_wp2
          go_roundw
          case rel => exact ⟨k + 1, by omega, by go_num, B9.out⟩
          case measure => simp [intOf]; omega
        · have t7 : ¬ (k : Int) < (p : Int) := by omega
          have t8 : (p : Int) ≤ (k : Int) := by omega
          obtain ⟨d, hd⟩ : ∃ d, d = k - p := ⟨_, rfl⟩
          have hdq : d < q := by have := HRR.out; omega
          have FS := Lib.hid (show IntKind.i64.wrap ((k : Int) - (p : Int)) = (d : Int) by rw [IntWalk.i64_in _ (by omega)]; omega)
          obtain ⟨b1', o1, rfl, h2w, hat1, hix1⟩ := sig_row R2.out (by rw [← HQL.out]; omega)
          have I2 := hix1 d (by rw [← HQL.out]; exact hdq) (d : Int) rfl
          rw [← HQL.out] at I2
          have I2 := Lib.hid I2
          have Q2 := Lib.hid (hat1 d (by rw [← HQL.out]; exact hdq))
          have h2w := Lib.hid h2w
          have BR2 := Lib.hid (X4.out.trans (BR3.out.mono X4.out.size))
          rw [show (L1 ++ L2).getD k sg0 = L2.getD d sg0 by rw [getD_app_r (by rw [← HP.out]; omega), ← HP.out, hd]] at Q1
          have XO := Lib.hid (LO2.out (L2.getD d sg0) (by rw [List.getD_eq_getElem?_getD, List.getElem?_eq_getElem (by rw [← HQL.out]; exact hdq)]; exact List.getElem_mem _))
          have HQ := Lib.hid (show ∀ w9, (Op.equalIn 10000 30 (.agg (KSig.cs (L2.getD d sg0)).toArray) (.agg (KSig.cs (L2.getD d sg0)).toArray)).run Tryd.prog w9 = .ok true w9 from fun w9 => by rw [← show decide (L2.getD d sg0 = L2.getD d sg0) = true by simp]; exact eq_sig XO.out XO.out w9)
          have Q1 := Lib.hid Q1
          generalize L2.getD d sg0 = x at *
          have HD9 := Lib.hid hd
          clear hat3 hix3 hat1 hix1 h3w hd
          go_wp2_with fail
          refine wp_region_G _ (by kernel_rfl) ?_
          refine wpG_take (i := 0) (oi := ⟨some 62, _, _, _, _, _⟩) (v := ?_) rfl (by kernel_rfl) (by kernel_rfl) (by kernel_rfl) (Or.inl ⟨by rfl, unib_val ?_⟩) ?_; rotate_left; (focus (intro w9 hSw; go_simp; try with_reducible rfl)); simp only [Act.put, List.setIfInBounds_toArray, List.set_cons_zero, List.set_cons_succ]
          refine wpG_take (i := 1) (oi := ⟨some 63, _, _, _, _, _⟩) (v := ?_) rfl (by kernel_rfl) (by kernel_rfl) (by kernel_rfl) (Or.inl ⟨by rfl, unib_val ?_⟩) ?_; rotate_left; (focus (intro w9 hSw; go_simp; try with_reducible rfl)); simp only [Act.put, List.setIfInBounds_toArray, List.set_cons_zero, List.set_cons_succ]
          refine wpG_take (i := 2) (oi := ⟨some 64, _, _, _, _, _⟩) (v := ?_) rfl (by kernel_rfl) (by kernel_rfl) (by kernel_rfl) (Or.inl ⟨by rfl, unib_val ?_⟩) ?_; rotate_left; (focus (intro w9 hSw; go_simp; try with_reducible rfl)); simp only [Act.put, List.setIfInBounds_toArray, List.set_cons_zero, List.set_cons_succ]
          refine wpG_take (i := 3) (oi := ⟨some 65, _, _, _, _, _⟩) (v := ?_) rfl (by kernel_rfl) (by kernel_rfl) (by kernel_rfl) (Or.inl ⟨by rfl, unib_val ?_⟩) ?_; rotate_left; (focus (intro w9 hSw; go_simp; try with_reducible rfl)); simp only [Act.put, List.setIfInBounds_toArray, List.set_cons_zero, List.set_cons_succ]
          refine wpG_take (i := 4) (oi := ⟨some 66, _, _, _, _, _⟩) (v := ?_) rfl (by kernel_rfl) (by kernel_rfl) (by kernel_rfl) (Or.inl ⟨by rfl, unib_val ?_⟩) ?_; rotate_left; (focus (intro w9 hSw; go_simp; try with_reducible rfl)); simp only [Act.put, List.setIfInBounds_toArray, List.set_cons_zero, List.set_cons_succ]
          refine wpG_take (i := 5) (oi := ⟨some 67, _, _, _, _, _⟩) rfl (by kernel_rfl) (by kernel_rfl) (by kernel_rfl) (Or.inr ⟨by rfl, rfl⟩) ?_; simp only [Act.put, List.setIfInBounds_toArray, List.set_cons_zero, List.set_cons_succ]
          refine wpG_take (i := 6) (oi := ⟨some 68, _, _, _, _, _⟩) rfl (by kernel_rfl) (by kernel_rfl) (by kernel_rfl) (Or.inr ⟨by rfl, rfl⟩) ?_; simp only [Act.put, List.setIfInBounds_toArray, List.set_cons_zero, List.set_cons_succ]
          refine wpG_take (i := 7) (oi := ⟨some 69, _, _, _, _, _⟩) rfl (by kernel_rfl) (by kernel_rfl) (by kernel_rfl) (Or.inr ⟨by rfl, rfl⟩) ?_; simp only [Act.put, List.setIfInBounds_toArray, List.set_cons_zero, List.set_cons_succ]
          refine wpG_take (i := 8) (oi := ⟨some 70, _, _, _, _, _⟩) rfl (by kernel_rfl) (by kernel_rfl) (by kernel_rfl) (Or.inr ⟨by rfl, rfl⟩) ?_; simp only [Act.put, List.setIfInBounds_toArray, List.set_cons_zero, List.set_cons_succ]
          refine wpG_take (i := 9) (oi := ⟨some 71, _, _, _, _, _⟩) rfl (by kernel_rfl) (by kernel_rfl) (by kernel_rfl) (Or.inr ⟨by rfl, rfl⟩) ?_; simp only [Act.put, List.setIfInBounds_toArray, List.set_cons_zero, List.set_cons_succ]
          refine wpG_take (i := 10) (oi := ⟨some 72, _, _, _, _, _⟩) rfl (by kernel_rfl) (by kernel_rfl) (by kernel_rfl) (Or.inr ⟨by rfl, rfl⟩) ?_; simp only [Act.put, List.setIfInBounds_toArray, List.set_cons_zero, List.set_cons_succ]
          refine wpG_take (i := 11) (oi := ⟨some 73, _, _, _, _, _⟩) rfl (by kernel_rfl) (by kernel_rfl) (by kernel_rfl) (Or.inr ⟨by rfl, rfl⟩) ?_; simp only [Act.put, List.setIfInBounds_toArray, List.set_cons_zero, List.set_cons_succ]
          refine wpG_take (i := 12) (oi := ⟨some 74, _, _, _, _, _⟩) rfl (by kernel_rfl) (by kernel_rfl) (by kernel_rfl) (Or.inr ⟨by rfl, rfl⟩) ?_; simp only [Act.put, List.setIfInBounds_toArray, List.set_cons_zero, List.set_cons_succ]
          refine wpG_take (i := 13) (oi := ⟨some 75, _, _, _, _, _⟩) rfl (by kernel_rfl) (by kernel_rfl) (by kernel_rfl) (Or.inr ⟨by rfl, rfl⟩) ?_; simp only [Act.put, List.setIfInBounds_toArray, List.set_cons_zero, List.set_cons_succ]
          refine wpG_take (i := 14) (oi := ⟨some 76, _, _, _, _, _⟩) (v := ?_) rfl (by kernel_rfl) (by kernel_rfl) (by kernel_rfl) (Or.inl ⟨by rfl, unib_val ?_⟩) ?_; rotate_left; (focus (intro w9 hSw; go_simp; try with_reducible rfl)); simp only [Act.put, List.setIfInBounds_toArray, List.set_cons_zero, List.set_cons_succ]
          refine wpG_take (i := 15) (oi := ⟨some 77, _, _, _, _, _⟩) (v := ?_) rfl (by kernel_rfl) (by kernel_rfl) (by kernel_rfl) (Or.inl ⟨by rfl, unib_val ?_⟩) ?_; rotate_left; (focus (intro w9 hSw; go_simp; try with_reducible rfl)); simp only [Act.put, List.setIfInBounds_toArray, List.set_cons_zero, List.set_cons_succ]
          refine wpG_take (i := 16) (oi := ⟨some 78, _, _, _, _, _⟩) (v := ?_) rfl (by kernel_rfl) (by kernel_rfl) (by kernel_rfl) (Or.inl ⟨by rfl, unib_val ?_⟩) ?_; rotate_left; (focus (intro w9 hSw; go_simp; try with_reducible rfl)); simp only [Act.put, List.setIfInBounds_toArray, List.set_cons_zero, List.set_cons_succ]
          refine wpG_take (i := 17) (oi := ⟨some 79, _, _, _, _, _⟩) (v := ?_) rfl (by kernel_rfl) (by kernel_rfl) (by kernel_rfl) (Or.inl ⟨by rfl, unib_val ?_⟩) ?_; rotate_left; (focus (intro w9 hSw; go_simp; try with_reducible rfl)); simp only [Act.put, List.setIfInBounds_toArray, List.set_cons_zero, List.set_cons_succ]
          refine wpG_take (i := 18) (oi := ⟨some 80, _, _, _, _, _⟩) (v := ?_) rfl (by kernel_rfl) (by kernel_rfl) (by kernel_rfl) (Or.inl ⟨by rfl, unib_val ?_⟩) ?_; rotate_left; (focus (intro w9 hSw; go_simp; try with_reducible rfl)); simp only [Act.put, List.setIfInBounds_toArray, List.set_cons_zero, List.set_cons_succ]
          refine wpG_take (i := 19) (oi := ⟨some 81, _, _, _, _, _⟩) (v := ?_) rfl (by kernel_rfl) (by kernel_rfl) (by kernel_rfl) (Or.inl ⟨by rfl, unib_val ?_⟩) ?_; rotate_left; (focus (intro w9 hSw; go_simp; try with_reducible rfl)); simp only [Act.put, List.setIfInBounds_toArray, List.set_cons_zero, List.set_cons_succ]
          refine wpG_take (i := 20) (oi := ⟨some 82, _, _, _, _, _⟩) (v := ?_) rfl (by kernel_rfl) (by kernel_rfl) (by kernel_rfl) (Or.inl ⟨by rfl, unib_val ?_⟩) ?_; rotate_left; (focus (intro w9 hSw; go_simp; try with_reducible rfl)); simp only [Act.put, List.setIfInBounds_toArray, List.set_cons_zero, List.set_cons_succ]
          refine wpG_take (i := 21) (oi := ⟨some 83, _, _, _, _, _⟩) (v := ?_) rfl (by kernel_rfl) (by kernel_rfl) (by kernel_rfl) (Or.inl ⟨by rfl, unib_val ?_⟩) ?_; rotate_left; (focus (intro w9 hSw; go_simp; try with_reducible rfl)); simp only [Act.put, List.setIfInBounds_toArray, List.set_cons_zero, List.set_cons_succ]
          refine wpG_take (i := 22) (oi := ⟨some 84, _, _, _, _, _⟩) (v := ?_) rfl (by kernel_rfl) (by kernel_rfl) (by kernel_rfl) (Or.inl ⟨by rfl, unib_val ?_⟩) ?_; rotate_left; (focus (intro w9 hSw; go_simp; try with_reducible rfl)); simp only [Act.put, List.setIfInBounds_toArray, List.set_cons_zero, List.set_cons_succ]
          refine wpG_take (i := 23) (oi := ⟨some 85, _, _, _, _, _⟩) (v := ?_) rfl (by kernel_rfl) (by kernel_rfl) (by kernel_rfl) (Or.inl ⟨by rfl, unib_val ?_⟩) ?_; rotate_left; (focus (intro w9 hSw; have q0 := I1.out w9; go_simp; try with_reducible rfl)); simp only [Act.put, List.setIfInBounds_toArray, List.set_cons_zero, List.set_cons_succ]
          refine wpG_take (i := 24) (oi := ⟨some 86, _, _, _, _, _⟩) (v := (.agg (KSig.cs x).toArray)) rfl (by kernel_rfl) (by kernel_rfl) (by kernel_rfl) (Or.inl ⟨by rfl, unib_val ?_⟩) ?_; (focus (intro w9 hSw; exact exec_load_at 30 _ rfl _ rfl (load_sigK Q1.out XO.out (BR1.out.trans (hSw.mono BR1.out.size)) h1w.out))); simp only [Act.put, List.setIfInBounds_toArray, List.set_cons_zero, List.set_cons_succ]
          refine wpG_take (i := 25) (oi := ⟨some 87, _, _, _, _, _⟩) (v := ?_) rfl (by kernel_rfl) (by kernel_rfl) (by kernel_rfl) (Or.inl ⟨by rfl, unib_val ?_⟩) ?_; rotate_left; (focus (intro w9 hSw; go_simp; try with_reducible rfl)); simp only [Act.put, List.setIfInBounds_toArray, List.set_cons_zero, List.set_cons_succ]
          refine wpG_take (i := 26) (oi := ⟨some 88, _, _, _, _, _⟩) (v := ?_) rfl (by kernel_rfl) (by kernel_rfl) (by kernel_rfl) (Or.inl ⟨by rfl, unib_val ?_⟩) ?_; rotate_left; (focus (intro w9 hSw; go_simp; try with_reducible rfl)); simp only [Act.put, List.setIfInBounds_toArray, List.set_cons_zero, List.set_cons_succ]
          refine wpG_take (i := 27) (oi := ⟨some 89, _, _, _, _, _⟩) (v := ?_) rfl (by kernel_rfl) (by kernel_rfl) (by kernel_rfl) (Or.inl ⟨by rfl, unib_val ?_⟩) ?_; rotate_left; (focus (intro w9 hSw; go_simp; try with_reducible rfl)); simp only [Act.put, List.setIfInBounds_toArray, List.set_cons_zero, List.set_cons_succ]
          refine wpG_take (i := 28) (oi := ⟨some 90, _, _, _, _, _⟩) (v := ?_) rfl (by kernel_rfl) (by kernel_rfl) (by kernel_rfl) (Or.inl ⟨by rfl, unib_val ?_⟩) ?_; rotate_left; (focus (intro w9 hSw; go_simp; try with_reducible rfl)); simp only [Act.put, List.setIfInBounds_toArray, List.set_cons_zero, List.set_cons_succ]
          refine wpG_take (i := 29) (oi := ⟨some 91, _, _, _, _, _⟩) (v := ?_) rfl (by kernel_rfl) (by kernel_rfl) (by kernel_rfl) (Or.inl ⟨by rfl, unib_val ?_⟩) ?_; rotate_left; (focus (intro w9 hSw; have q0 := FS.out; go_simp; try with_reducible rfl)); simp only [Act.put, List.setIfInBounds_toArray, List.set_cons_zero, List.set_cons_succ]
          refine wpG_take (i := 30) (oi := ⟨some 92, _, _, _, _, _⟩) (v := ?_) rfl (by kernel_rfl) (by kernel_rfl) (by kernel_rfl) (Or.inl ⟨by rfl, unib_val ?_⟩) ?_; rotate_left; (focus (intro w9 hSw; have q0 := I2.out w9; go_simp; try with_reducible rfl)); simp only [Act.put, List.setIfInBounds_toArray, List.set_cons_zero, List.set_cons_succ]
          refine wpG_take (i := 31) (oi := ⟨some 93, _, _, _, _, _⟩) (v := (.agg (KSig.cs x).toArray)) rfl (by kernel_rfl) (by kernel_rfl) (by kernel_rfl) (Or.inl ⟨by rfl, unib_val ?_⟩) ?_; (focus (intro w9 hSw; exact exec_load_at 30 _ rfl _ rfl (load_sigK Q2.out XO.out (BR2.out.trans (hSw.mono BR2.out.size)) h2w.out))); simp only [Act.put, List.setIfInBounds_toArray, List.set_cons_zero, List.set_cons_succ]
          refine wpG_take (i := 32) (oi := ⟨some 94, _, _, _, _, _⟩) (v := (.bool false)) rfl (by kernel_rfl) (by kernel_rfl) (by kernel_rfl) (Or.inl ⟨by rfl, unib_val ?_⟩) ?_; (focus (intro w9 hSw; have q0 := HQ.out w9; exact exec_neq_at 30 _ _ _ rfl rfl rfl guardSig q0)); simp only [Act.put, List.setIfInBounds_toArray, List.set_cons_zero, List.set_cons_succ]
          refine wpG_take (i := 33) (oi := ⟨some 95, _, _, _, _, _⟩) (v := ?_) rfl (by kernel_rfl) (by kernel_rfl) (by kernel_rfl) (Or.inl ⟨by rfl, unib_val ?_⟩) ?_; rotate_left; (focus (intro w9 hSw; go_simp; try with_reducible rfl)); simp only [Act.put, List.setIfInBounds_toArray, List.set_cons_zero, List.set_cons_succ]
          refine wpG_take (i := 34) (oi := ⟨some 96, _, _, _, _, _⟩) (v := ?_) rfl (by kernel_rfl) (by kernel_rfl) (by kernel_rfl) (Or.inl ⟨by rfl, unib_val ?_⟩) ?_; rotate_left; (focus (intro w9 hSw; go_simp; try with_reducible rfl)); simp only [Act.put, List.setIfInBounds_toArray, List.set_cons_zero, List.set_cons_succ]
          refine wpG_done (by kernel_rfl) ?_ _
          intro w9 hSw _
          have B9 := Lib.hid (BR3.out.trans (hSw.mono BR3.out.size))
          clear hSw
          go_wp2
          go_roundw
          case rel => exact ⟨k + 1, by omega, by go_num, B9.out⟩
          case measure => simp [intOf]; omega
      · obtain rfl : k = r := by omega
        have t6 : ¬ (k : Int) < (k : Int) := by omega
        go_wp2
        go_ret
        exact ⟨rfl, HBB.out⟩
  · have t5 : ¬ ((n % 8 : Nat) : Int) = 0 := by omega
    generalize ((n % 8 : Nat) : Int) = z at *
    have t5b : (z != 0) = true := by simpa using t5
    clear HLA h8
    go_enter Tryd.func7, Tryd.ntmps7
    go_wp2_with fail
    refine (sgAwake w HL.out).mono ?_
    rintro e w1 ⟨rfl, hb⟩
    have B1 := Lib.hid (B0.out.trans (hb.mono B0.out.size))
    clear hb
    go_wp2
    go_ret
    exact ⟨rfl, B1.out⟩
end Go.Proofs.YtlahjooofjbfbaaDoor

