import Derived.Test.YtlahjooofjbfbaaDoorSgAwake
/-
  The law SignMany: for every text it answers true, and nothing that was there is written. Nothing that was there is written.
-/
namespace Go.Proofs.YtlahjooofjbfbaaDoor
open Go.RowKit WM
set_option linter.unusedVariables false
set_option maxRecDepth 100000
set_option maxHeartbeats 4000000 in
theorem walk_signMany (s : ByteArray) (w : World) (hlaid : Laid w) (hs : s.size ≤ maxLen) :
    Calls Tryd.prog 5 #[.string s] w fun e w' => e = .returned (.bool true) ∧ Below w.heap.size w w' := by
  have B0 := Lib.hid (Below.refl w.heap.size w)
  have HL := Lib.hid hlaid
  have HLA := Lib.hid (fun (X : World) (hX : Below w.heap.size w X) => hlaid.below hX (Nat.le_refl _))
  have HNN := nums_len s
  obtain ⟨n, hn⟩ : ∃ n, n = s.size := ⟨_, rfl⟩
  have hlen : s.size = n := hn.symm
  have HSZ := Lib.hid hlen
  rw [← hn] at HNN
  clear hn hlaid hs
  by_cases t1 : (300 : Int) < (n : Int)
  · clear HLA HNN
    go_enter Tryd.func5, Tryd.ntmps5
    go_wp2_with fail
    refine (sgAwake w HL.out).mono ?_
    rintro e w1 ⟨rfl, hb⟩
    have B1 := Lib.hid (B0.out.trans (hb.mono B0.out.size))
    clear hb
    go_wp2
    go_ret
    exact ⟨rfl, B1.out⟩
  have C1 := Lib.hid (fun X (hX : Below w.heap.size w X) => of10_any s X (HLA.out X hX) (by rw [HSZ.out]; omega))
  unfold KPost at C1
  by_cases t2 : (n : Int) < 24
  · have h0 := sgOf_none (zs := nums s) (by rw [HNN]; omega)
    rw [h0, show ([] : List Sg).length = 0 from rfl] at C1
    clear HNN h0
    go_enter Tryd.func5, Tryd.ntmps5
    go_wp2_with fail
    refine (sgAwake w HL.out).mono ?_
    rintro e w1 ⟨rfl, hb⟩
    have B1 := Lib.hid (B0.out.trans (hb.mono B0.out.size))
    clear hb
    go_wp2_with fail
    refine (C1.out _ B1.out).mono ?_
    rintro e w2 ⟨A1, c1, rfl, r1, hb⟩
    have B2 := Lib.hid (B1.out.trans (hb.mono B1.out.size))
    have R1 := Lib.hid r1
    clear hb r1
    go_wp2
    go_ret
    exact ⟨rfl, B2.out⟩
  have h24 : ¬ (nums s).length < 24 := by rw [HNN]; omega
  have LF := sgOf_len h24
  rw [HNN] at LF
  have HAT := Lib.hid (fun k (hk : k < n / 8) => sgOf_at h24 (k := k) (by rw [HNN]; exact hk))
  have LO := Lib.hid (sgOf_ok (nums s))
  obtain ⟨m, hm⟩ : ∃ m, m = n / 8 := ⟨_, rfl⟩
  rw [← hm] at LF HAT
  have hquo : Int.tdiv (n : Int) 8 = (m : Int) := by rw [Int.tdiv_eq_ediv_of_nonneg (by omega)]; omega
  have hm8 : 8 * m ≤ n := by omega
  generalize sgOf (nums s) = L at *
  rw [LF] at C1
  have HLF := Lib.hid LF
  clear LF h24 HNN hm
  go_enter Tryd.func5, Tryd.ntmps5
  go_wp2_with fail
  refine (sgAwake w HL.out).mono ?_
  rintro e w1 ⟨rfl, hb⟩
  have B1 := Lib.hid (B0.out.trans (hb.mono B0.out.size))
  clear hb
  go_wp2_with fail
  refine (C1.out _ B1.out).mono ?_
  rintro e w2 ⟨A1, c1, rfl, r1, hb⟩
  have B2 := Lib.hid (B1.out.trans (hb.mono B1.out.size))
  have R1 := Lib.hid r1
  clear hb r1
  go_wp2
  go_loopw [5] (fun i wr => ∃ k : Nat, k ≤ m ∧ i = .int .i64 k ∧ Below w2.heap.size w2 wr) (fun i _ => m - (intOf i).toNat)
  case atStart => exact ⟨0, Nat.zero_le _, rfl, Below.refl _ _⟩
  case round =>
    obtain ⟨k, hk, rfl, hb⟩ := hrel
    have BR := Lib.hid hb
    have HBB := Lib.hid (B2.out.trans (hb.mono B2.out.size))
    clear hb
    by_cases hlt : k < m
    · obtain ⟨a, ha⟩ : ∃ a, a = 8 * k := ⟨_, rfl⟩
      have t3 : (k : Int) < (m : Int) := by omega
      have f1 : IntKind.i64.wrap (8 * (k : Int)) = (a : Int) := by rw [IntWalk.i64_in _ (by omega)]; omega
      have f2 : IntKind.i64.wrap ((a : Int) + 8) = (a : Int) + 8 := IntWalk.i64_in _ (by omega)
      have L1 := sub_str s a (a + 8) (by omega) (by rw [HSZ.out]; omega) (a : Int) ((a : Int) + 8) rfl (by omega)
      have hps : (s.extract a (a + 8)).size = 8 := by rw [extract_size _ _ _ (by rw [HSZ.out]; omega)]; omega
      have hLk := HAT.out k hlt
      rw [← ha, ← part_nums s a 8] at hLk
      have C5 := Lib.hid (fun X => rlsum_any (s.extract a (a + 8)) X (by rw [hps]; decide))
      have C6 := Lib.hid (fun X (hX : Below wr.heap.size wr X) => of_any (s.extract a (a + 8)) X (HLA.out _ (HBB.out.trans (hX.mono HBB.out.size))) (by rw [hps]; decide))
      unfold DSumPost at C6
      obtain ⟨b, off, rfl, hbw, hat, hix⟩ := sig_row R1.out (by rw [HLF.out]; omega)
      have IX := hix k (by rw [HLF.out]; exact hlt) (k : Int) rfl
      rw [HLF.out] at IX
      have IX := Lib.hid IX
      have QK := hat k (by rw [HLF.out]; exact hlt)
      have XO := Lib.hid (LO.out (L.getD k sg0) (by rw [List.getD_eq_getElem?_getD, List.getElem?_eq_getElem (by rw [HLF.out]; exact hlt)]; exact List.getElem_mem _))
      have QD := Lib.hid (sig_dig QK)
      have CW := sig_wk QK
      have hwk : (L.getD k sg0).wk = rlS (nums (s.extract a (a + 8))) := by rw [hLk]; rfl
      have hds : (L.getD k sg0).ds = SH.sum (nums (s.extract a (a + 8))) := by rw [hLk]; rfl
      rw [← hwk] at C5
      rw [← hds] at C6
      have HQ := Lib.hid (show ∀ w9, (Op.equalIn 10000 28 (.agg (bvals (L.getD k sg0).ds)) (.agg (bvals (L.getD k sg0).ds))).run Tryd.prog w9 = .ok true w9 from fun w9 => by rw [eq_dig XO.out.2.2.2 XO.out.2.2.2 XO.out.2.2.1 XO.out.2.2.1 w9]; simp)
      have hbl := Lib.hid (Nat.lt_of_lt_of_le hbw BR.out.size)
      have CW := Lib.hid ((BR.out.cell (p := ⟨b, off + k * 33, none⟩) hbw).trans CW)
      have hbw := Lib.hid hbw
      generalize s.extract a (a + 8) = p at *
      generalize L.getD k sg0 = x at *
      generalize off + k * 33 = o at *
      clear hat hix hLk hwk hds QK hps ha
      go_wp2_with fail
      refine wp_region_G _ (by kernel_rfl) ?_
      refine wpG_take (i := 0) (oi := ⟨some 43, _, _, _, _, _⟩) (v := ?_) rfl (by kernel_rfl) (by kernel_rfl) (by kernel_rfl) (Or.inl ⟨by rfl, unib_val ?_⟩) ?_; rotate_left; (focus (intro w9 hSw; go_simp; try with_reducible rfl)); simp only [Act.put, List.setIfInBounds_toArray, List.set_cons_zero, List.set_cons_succ]
      refine wpG_take (i := 1) (oi := ⟨some 44, _, _, _, _, _⟩) (v := ?_) rfl (by kernel_rfl) (by kernel_rfl) (by kernel_rfl) (Or.inl ⟨by rfl, unib_val ?_⟩) ?_; rotate_left; (focus (intro w9 hSw; go_simp; try with_reducible rfl)); simp only [Act.put, List.setIfInBounds_toArray, List.set_cons_zero, List.set_cons_succ]
      refine wpG_take (i := 2) (oi := ⟨some 45, _, _, _, _, _⟩) (v := ?_) rfl (by kernel_rfl) (by kernel_rfl) (by kernel_rfl) (Or.inl ⟨by rfl, unib_val ?_⟩) ?_; rotate_left; (focus (intro w9 hSw; have q0 := IX.out w9; go_simp; try with_reducible rfl)); simp only [Act.put, List.setIfInBounds_toArray, List.set_cons_zero, List.set_cons_succ]
      refine wpG_take (i := 3) (oi := ⟨some 46, _, _, _, _, _⟩) (v := ?_) rfl (by kernel_rfl) (by kernel_rfl) (by kernel_rfl) (Or.inl ⟨by rfl, unib_val ?_⟩) ?_; rotate_left; (focus (intro w9 hSw; go_simp; try with_reducible rfl)); simp only [Act.put, List.setIfInBounds_toArray, List.set_cons_zero, List.set_cons_succ]
      refine wpG_take (i := 4) (oi := ⟨some 47, _, _, _, _, _⟩) (v := ?_) rfl (by kernel_rfl) (by kernel_rfl) (by kernel_rfl) (Or.inl ⟨by rfl, unib_val ?_⟩) ?_; rotate_left; (focus (intro w9 hSw; have q0 := (hSw.cell (p := ⟨b, o, none⟩) hbl.out).trans CW.out; go_simp; try with_reducible rfl)); simp only [Act.put, List.setIfInBounds_toArray, List.set_cons_zero, List.set_cons_succ]
      refine wpG_take (i := 5) (oi := ⟨some 48, _, _, _, _, _⟩) (v := ?_) rfl (by kernel_rfl) (by kernel_rfl) (by kernel_rfl) (Or.inl ⟨by rfl, unib_val ?_⟩) ?_; rotate_left; (focus (intro w9 hSw; go_simp; try with_reducible rfl)); simp only [Act.put, List.setIfInBounds_toArray, List.set_cons_zero, List.set_cons_succ]
      refine wpG_take (i := 6) (oi := ⟨some 49, _, _, _, _, _⟩) rfl (by kernel_rfl) (by kernel_rfl) (by kernel_rfl) (Or.inl ⟨by rfl, unib_call ?_ C5.out⟩) ?_; (focus (intro w9 hSw; go_simp; try with_reducible rfl)); simp only [Act.put, List.setIfInBounds_toArray, List.set_cons_zero, List.set_cons_succ]
      refine wpG_take (i := 7) (oi := ⟨some 50, _, _, _, _, _⟩) (v := ?_) rfl (by kernel_rfl) (by kernel_rfl) (by kernel_rfl) (Or.inl ⟨by rfl, unib_val ?_⟩) ?_; rotate_left; (focus (intro w9 hSw; go_simp; try with_reducible rfl)); simp only [Act.put, List.setIfInBounds_toArray, List.set_cons_zero, List.set_cons_succ]
      refine wpG_take (i := 8) (oi := ⟨some 51, _, _, _, _, _⟩) (v := ?_) rfl (by kernel_rfl) (by kernel_rfl) (by kernel_rfl) (Or.inl ⟨by rfl, unib_val ?_⟩) ?_; rotate_left; (focus (intro w9 hSw; go_simp; try with_reducible rfl)); simp only [Act.put, List.setIfInBounds_toArray, List.set_cons_zero, List.set_cons_succ]
      refine wpG_take (i := 9) (oi := ⟨some 52, _, _, _, _, _⟩) (v := ?_) rfl (by kernel_rfl) (by kernel_rfl) (by kernel_rfl) (Or.inl ⟨by rfl, unib_val ?_⟩) ?_; rotate_left; (focus (intro w9 hSw; go_simp; try with_reducible rfl)); simp only [Act.put, List.setIfInBounds_toArray, List.set_cons_zero, List.set_cons_succ]
      refine wpG_take (i := 10) (oi := ⟨some 53, _, _, _, _, _⟩) (v := ?_) rfl (by kernel_rfl) (by kernel_rfl) (by kernel_rfl) (Or.inl ⟨by rfl, unib_val ?_⟩) ?_; rotate_left; (focus (intro w9 hSw; go_simp; try with_reducible rfl)); simp only [Act.put, List.setIfInBounds_toArray, List.set_cons_zero, List.set_cons_succ]
      refine wpG_take (i := 11) (oi := ⟨some 54, _, _, _, _, _⟩) (v := ?_) rfl (by kernel_rfl) (by kernel_rfl) (by kernel_rfl) (Or.inl ⟨by rfl, unib_val ?_⟩) ?_; rotate_left; (focus (intro w9 hSw; have q0 := IX.out w9; go_simp; try with_reducible rfl)); simp only [Act.put, List.setIfInBounds_toArray, List.set_cons_zero, List.set_cons_succ]
      refine wpG_take (i := 12) (oi := ⟨some 55, _, _, _, _, _⟩) (v := ?_) rfl (by kernel_rfl) (by kernel_rfl) (by kernel_rfl) (Or.inl ⟨by rfl, unib_val ?_⟩) ?_; rotate_left; (focus (intro w9 hSw; go_simp; try with_reducible rfl)); simp only [Act.put, List.setIfInBounds_toArray, List.set_cons_zero, List.set_cons_succ]
      refine wpG_take (i := 13) (oi := ⟨some 56, _, _, _, _, _⟩) (v := (.agg (bvals x.ds))) rfl (by kernel_rfl) (by kernel_rfl) (by kernel_rfl) (Or.inl ⟨by rfl, unib_val ?_⟩) ?_; (focus (intro w9 hSw; exact exec_load_at 28 _ rfl _ rfl (load_digK QD.out XO.out.2.2.1 (BR.out.trans (hSw.mono BR.out.size)) hbw.out))); simp only [Act.put, List.setIfInBounds_toArray, List.set_cons_zero, List.set_cons_succ]
      refine wpG_take (i := 14) (oi := ⟨some 57, _, _, _, _, _⟩) (v := ?_) rfl (by kernel_rfl) (by kernel_rfl) (by kernel_rfl) (Or.inl ⟨by rfl, unib_val ?_⟩) ?_; rotate_left; (focus (intro w9 hSw; go_simp; try with_reducible rfl)); simp only [Act.put, List.setIfInBounds_toArray, List.set_cons_zero, List.set_cons_succ]
      refine wpG_take (i := 15) (oi := ⟨some 58, _, _, _, _, _⟩) rfl (by kernel_rfl) (by kernel_rfl) (by kernel_rfl) (Or.inl ⟨by rfl, unib_call_if ?_ C6.out⟩) ?_; (focus (intro w9 hSw; go_simp; try with_reducible rfl)); simp only [Act.put, List.setIfInBounds_toArray, List.set_cons_zero, List.set_cons_succ]
      refine wpG_take (i := 16) (oi := ⟨some 59, _, _, _, _, _⟩) (v := (.bool false)) rfl (by kernel_rfl) (by kernel_rfl) (by kernel_rfl) (Or.inl ⟨by rfl, unib_val ?_⟩) ?_; (focus (intro w9 hSw; have q0 := HQ.out w9; exact exec_neq_at 28 _ _ _ rfl rfl rfl guardDig q0)); simp only [Act.put, List.setIfInBounds_toArray, List.set_cons_zero, List.set_cons_succ]
      refine wpG_take (i := 17) (oi := ⟨some 60, _, _, _, _, _⟩) (v := ?_) rfl (by kernel_rfl) (by kernel_rfl) (by kernel_rfl) (Or.inl ⟨by rfl, unib_val ?_⟩) ?_; rotate_left; (focus (intro w9 hSw; go_simp; try with_reducible rfl)); simp only [Act.put, List.setIfInBounds_toArray, List.set_cons_zero, List.set_cons_succ]
      refine wpG_done (by kernel_rfl) ?_ _
      intro w9 hSw _
      have B9 := Lib.hid (BR.out.trans (hSw.mono BR.out.size))
      clear hSw
      go_wp2
      go_roundw
      case rel => exact ⟨k + 1, by omega, by go_num, B9.out⟩
      case measure => simp [intOf]; omega
    · obtain rfl : k = m := by omega
      have t3 : ¬ (k : Int) < (k : Int) := by omega
      go_wp2
      go_ret
      exact ⟨rfl, HBB.out⟩
end Go.Proofs.YtlahjooofjbfbaaDoor

