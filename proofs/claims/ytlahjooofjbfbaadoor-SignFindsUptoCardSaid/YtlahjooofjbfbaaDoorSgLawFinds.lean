import Derived.Test.YtlahjooofjbfbaaDoorSgAwake
/-
  The law SignFinds: for every text that is not too long, and every number, it answers true, and nothing that was there is written. Nothing that was there is written.
-/
namespace Go.Proofs.YtlahjooofjbfbaaDoor
open Go.RowKit WM
set_option linter.unusedVariables false
set_option maxRecDepth 100000
set_option maxHeartbeats 4000000 in
theorem walk_signFinds (s : ByteArray) (at' : Int) (w : World) (hlaid : Laid w) (hs : s.size ≤ 1048576) (hat : (Lit.int .i64 at').wf = true) :
    Calls Tryd.prog 4 #[.string s, .int .i64 at'] w fun e w' => e = .returned (.bool true) ∧ Below w.heap.size w w' := by
  have B0 := Lib.hid (Below.refl w.heap.size w)
  have HL := Lib.hid hlaid
  have HLA := Lib.hid (fun (X : World) (hX : Below w.heap.size w X) => hlaid.below hX (Nat.le_refl _))
  have C1 := Lib.hid (fun X (hX : Below w.heap.size w X) => of10_any s X (HLA.out X hX) (by omega))
  unfold KPost at C1
  have HNN := nums_len s
  obtain ⟨n, hn⟩ : ∃ n, n = s.size := ⟨_, rfl⟩
  have hlen : s.size = n := hn.symm
  have HSZ := Lib.hid hlen
  rw [← hn] at HNN
  clear hn hlaid hat
  have HNN := Lib.hid HNN
  have LF := Lib.hid (fun (h : ¬ n < 24) => sgOf_len (zs := nums s) (by rw [HNN.out]; exact h))
  have LN := Lib.hid (fun (h : n < 24) => sgOf_none (zs := nums s) (by rw [HNN.out]; exact h))
  have LA := Lib.hid (fun (h : ¬ n < 24) (k : Nat) (hk : k < n / 8) => sgOf_at (zs := nums s) (by rw [HNN.out]; exact h) (k := k) (by rw [HNN.out]; exact hk))
  have LO := Lib.hid (sgOf_ok (nums s))
  generalize sgOf (nums s) = L at *
  by_cases t1 : (300 : Int) < (n : Int)
  · clear HLA hs
    go_enter Tryd.func4, Tryd.ntmps4
    go_wp2_with fail
    refine (sgAwake w HL.out).mono ?_
    rintro e w1 ⟨rfl, hb⟩
    have B1 := Lib.hid (B0.out.trans (hb.mono B0.out.size))
    clear hb
    go_wp2_with fail
    refine (C1.out _ B1.out).mono ?_
    rintro e w2 ⟨A1, c1, rfl, r1, hb⟩
    have B2 := Lib.hid (B1.out.trans (hb.mono B1.out.size))
    have R1 := Lib.hid r1
    clear hb r1
    go_wp2
    go_ret
    exact ⟨rfl, B2.out⟩
  by_cases t2 : at' < 0
  · clear HLA hs
    go_enter Tryd.func4, Tryd.ntmps4
    go_wp2_with fail
    refine (sgAwake w HL.out).mono ?_
    rintro e w1 ⟨rfl, hb⟩
    have B1 := Lib.hid (B0.out.trans (hb.mono B0.out.size))
    clear hb
    go_wp2_with fail
    refine (C1.out _ B1.out).mono ?_
    rintro e w2 ⟨A1, c1, rfl, r1, hb⟩
    have B2 := Lib.hid (B1.out.trans (hb.mono B1.out.size))
    have R1 := Lib.hid r1
    clear hb r1
    go_wp2
    go_ret
    exact ⟨rfl, B2.out⟩
  by_cases t3 : (L.length : Int) ≤ at'
  · clear HLA hs
    go_enter Tryd.func4, Tryd.ntmps4
    go_wp2_with fail
    refine (sgAwake w HL.out).mono ?_
    rintro e w1 ⟨rfl, hb⟩
    have B1 := Lib.hid (B0.out.trans (hb.mono B0.out.size))
    clear hb
    go_wp2_with fail
    refine (C1.out _ B1.out).mono ?_
    rintro e w2 ⟨A1, c1, rfl, r1, hb⟩
    have B2 := Lib.hid (B1.out.trans (hb.mono B1.out.size))
    have R1 := Lib.hid r1
    clear hb r1
    go_wp2
    go_ret
    exact ⟨rfl, B2.out⟩
  obtain ⟨k, rfl⟩ : ∃ k : Nat, at' = k := ⟨at'.toNat, by omega⟩
  have hkL : k < L.length := by omega
  have h24 : ¬ n < 24 := fun h => by rw [LN.out h] at hkL; simp at hkL
  have hLl := LF.out h24
  rw [HNN.out] at hLl
  have h8 : 8 * k + 8 ≤ n := by omega
  obtain ⟨a, ha⟩ : ∃ a, a = 8 * k := ⟨_, rfl⟩
  have f1 : IntKind.i64.wrap (8 * (k : Int)) = (a : Int) := by rw [IntWalk.i64_in _ (by omega)]; omega
  have f2 : IntKind.i64.wrap ((a : Int) + 8) = (a : Int) + 8 := IntWalk.i64_in _ (by omega)
  have t4 : ¬ (n : Int) < (a : Int) + 8 := by omega
  have L1 := sub_str s a (a + 8) (by omega) (by rw [HSZ.out]; omega) (a : Int) ((a : Int) + 8) rfl (by omega)
  have hpn := part_nums s a 8
  have hps : (s.extract a (a + 8)).size = 8 := by rw [extract_size _ _ _ (by rw [HSZ.out]; omega)]; omega
  have hLk := LA.out h24 k (by omega)
  rw [← ha, ← hpn] at hLk
  obtain ⟨j, hj, hfj, hjx⟩ := sgFrom_found hkL hLk
  have hfind : sgFind L (nums (s.extract a (a + 8))) = (j : Int) := by
    unfold sgFind
    rw [if_pos (by rw [nums_len, hps])]
    exact hfj
  have HFIND := Lib.hid hfind
  have HPS := Lib.hid hps
  have XO := Lib.hid (LO.out (L.getD k sg0) (by rw [List.getD_eq_getElem?_getD, List.getElem?_eq_getElem hkL]; exact List.getElem_mem _))
  have HJX := Lib.hid (hjx.trans hLk.symm)
  have HJL := Lib.hid (show j < L.length by omega)
  have HKL := Lib.hid hkL
  have HLM := Lib.hid (show L.length ≤ 1000000 by omega)
  have t5 : (0 : Int) ≤ (j : Int) := by omega
  have t6 : (j : Int) ≤ (k : Int) := by omega
  have HQ := Lib.hid (show ∀ w9, (Op.equalIn 10000 30 (.agg (KSig.cs (L.getD k sg0)).toArray) (.agg (KSig.cs (L.getD k sg0)).toArray)).run Tryd.prog w9 = .ok true w9 from fun w9 => by rw [← show decide (L.getD k sg0 = L.getD k sg0) = true by simp]; exact eq_sig XO.out XO.out w9)
  generalize s.extract a (a + 8) = p at *
  have HA := Lib.hid ha
  clear LF LN LA hpn hps hLk hfj hjx hfind hLl h8 ha hs
  go_enter Tryd.func4, Tryd.ntmps4
  go_wp2_with fail
  refine (sgAwake w HL.out).mono ?_
  rintro e w1 ⟨rfl, hb⟩
  have B1 := Lib.hid (B0.out.trans (hb.mono B0.out.size))
  clear hb
  go_wp2_with fail
  refine (C1.out _ B1.out).mono ?_
  rintro e w2 ⟨A1, c1, rfl, r1, hb⟩
  have B2 := Lib.hid (B1.out.trans (hb.mono B1.out.size))
  have R1 := Lib.hid r1
  clear hb r1
  have C3 := Lib.hid (find10_any A1 c1 L p w2 (HLA.out _ B2.out) R1.out HLM.out (by rw [HPS.out]; decide))
  rw [HFIND.out] at C3
  go_wp2_with fail
  refine (C3.out).mono ?_
  rintro e w3 ⟨rfl, hb⟩
  have B3 := Lib.hid (B2.out.trans (hb.mono B2.out.size))
  have BR := Lib.hid hb
  clear hb
  obtain ⟨b, off, rfl, hbw, hat, hix⟩ := sig_row R1.out (by have := HJL.out; omega)
  have IXJ := Lib.hid (hix j HJL.out (j : Int) rfl)
  have IXK := Lib.hid (hix k HKL.out (k : Int) rfl)
  have QJ := Lib.hid (hat j HJL.out)
  have QK := Lib.hid (hat k HKL.out)
  rw [HJX.out] at QJ
  generalize L.getD k sg0 = x at *
  have hbw := Lib.hid hbw
  clear hat hix
  go_wp2_with fail
  refine wp_region_G _ (by kernel_rfl) ?_
  refine wpG_take (i := 0) (oi := ⟨some 44, _, _, _, _, _⟩) (v := ?_) rfl (by kernel_rfl) (by kernel_rfl) (by kernel_rfl) (Or.inl ⟨by rfl, unib_val ?_⟩) ?_; rotate_left; (focus (intro w9 hSw; go_simp; try with_reducible rfl)); simp only [Act.put, List.setIfInBounds_toArray, List.set_cons_zero, List.set_cons_succ]
  refine wpG_take (i := 1) (oi := ⟨some 45, _, _, _, _, _⟩) (v := ?_) rfl (by kernel_rfl) (by kernel_rfl) (by kernel_rfl) (Or.inl ⟨by rfl, unib_val ?_⟩) ?_; rotate_left; (focus (intro w9 hSw; go_simp; try with_reducible rfl)); simp only [Act.put, List.setIfInBounds_toArray, List.set_cons_zero, List.set_cons_succ]
  refine wpG_take (i := 2) (oi := ⟨some 46, _, _, _, _, _⟩) (v := ?_) rfl (by kernel_rfl) (by kernel_rfl) (by kernel_rfl) (Or.inl ⟨by rfl, unib_val ?_⟩) ?_; rotate_left; (focus (intro w9 hSw; go_simp; try with_reducible rfl)); simp only [Act.put, List.setIfInBounds_toArray, List.set_cons_zero, List.set_cons_succ]
  refine wpG_take (i := 3) (oi := ⟨some 47, _, _, _, _, _⟩) (v := ?_) rfl (by kernel_rfl) (by kernel_rfl) (by kernel_rfl) (Or.inl ⟨by rfl, unib_val ?_⟩) ?_; rotate_left; (focus (intro w9 hSw; go_simp; try with_reducible rfl)); simp only [Act.put, List.setIfInBounds_toArray, List.set_cons_zero, List.set_cons_succ]
  refine wpG_take (i := 4) (oi := ⟨some 48, _, _, _, _, _⟩) (v := ?_) rfl (by kernel_rfl) (by kernel_rfl) (by kernel_rfl) (Or.inl ⟨by rfl, unib_val ?_⟩) ?_; rotate_left; (focus (intro w9 hSw; go_simp; try with_reducible rfl)); simp only [Act.put, List.setIfInBounds_toArray, List.set_cons_zero, List.set_cons_succ]
  refine wpG_take (i := 5) (oi := ⟨some 49, _, _, _, _, _⟩) (v := ?_) rfl (by kernel_rfl) (by kernel_rfl) (by kernel_rfl) (Or.inl ⟨by rfl, unib_val ?_⟩) ?_; rotate_left; (focus (intro w9 hSw; go_simp; try with_reducible rfl)); simp only [Act.put, List.setIfInBounds_toArray, List.set_cons_zero, List.set_cons_succ]
  refine wpG_take (i := 6) (oi := ⟨some 50, _, _, _, _, _⟩) (v := ?_) rfl (by kernel_rfl) (by kernel_rfl) (by kernel_rfl) (Or.inl ⟨by rfl, unib_val ?_⟩) ?_; rotate_left; (focus (intro w9 hSw; go_simp; try with_reducible rfl)); simp only [Act.put, List.setIfInBounds_toArray, List.set_cons_zero, List.set_cons_succ]
  refine wpG_take (i := 7) (oi := ⟨some 51, _, _, _, _, _⟩) (v := ?_) rfl (by kernel_rfl) (by kernel_rfl) (by kernel_rfl) (Or.inl ⟨by rfl, unib_val ?_⟩) ?_; rotate_left; (focus (intro w9 hSw; go_simp; try with_reducible rfl)); simp only [Act.put, List.setIfInBounds_toArray, List.set_cons_zero, List.set_cons_succ]
  refine wpG_take (i := 8) (oi := ⟨some 52, _, _, _, _, _⟩) (v := ?_) rfl (by kernel_rfl) (by kernel_rfl) (by kernel_rfl) (Or.inl ⟨by rfl, unib_val ?_⟩) ?_; rotate_left; (focus (intro w9 hSw; go_simp; try with_reducible rfl)); simp only [Act.put, List.setIfInBounds_toArray, List.set_cons_zero, List.set_cons_succ]
  refine wpG_take (i := 9) (oi := ⟨some 53, _, _, _, _, _⟩) (v := ?_) rfl (by kernel_rfl) (by kernel_rfl) (by kernel_rfl) (Or.inl ⟨by rfl, unib_val ?_⟩) ?_; rotate_left; (focus (intro w9 hSw; go_simp; try with_reducible rfl)); simp only [Act.put, List.setIfInBounds_toArray, List.set_cons_zero, List.set_cons_succ]
  refine wpG_take (i := 10) (oi := ⟨some 54, _, _, _, _, _⟩) (v := ?_) rfl (by kernel_rfl) (by kernel_rfl) (by kernel_rfl) (Or.inl ⟨by rfl, unib_val ?_⟩) ?_; rotate_left; (focus (intro w9 hSw; have q0 := IXJ.out w9; go_simp; try with_reducible rfl)); simp only [Act.put, List.setIfInBounds_toArray, List.set_cons_zero, List.set_cons_succ]
  refine wpG_take (i := 11) (oi := ⟨some 55, _, _, _, _, _⟩) (v := (.agg (KSig.cs x).toArray)) rfl (by kernel_rfl) (by kernel_rfl) (by kernel_rfl) (Or.inl ⟨by rfl, unib_val ?_⟩) ?_; (focus (intro w9 hSw; exact exec_load_at 30 _ rfl _ rfl (load_sigK QJ.out XO.out (BR.out.trans (hSw.mono BR.out.size)) hbw.out))); simp only [Act.put, List.setIfInBounds_toArray, List.set_cons_zero, List.set_cons_succ]
  refine wpG_take (i := 12) (oi := ⟨some 56, _, _, _, _, _⟩) (v := ?_) rfl (by kernel_rfl) (by kernel_rfl) (by kernel_rfl) (Or.inl ⟨by rfl, unib_val ?_⟩) ?_; rotate_left; (focus (intro w9 hSw; go_simp; try with_reducible rfl)); simp only [Act.put, List.setIfInBounds_toArray, List.set_cons_zero, List.set_cons_succ]
  refine wpG_take (i := 13) (oi := ⟨some 57, _, _, _, _, _⟩) (v := ?_) rfl (by kernel_rfl) (by kernel_rfl) (by kernel_rfl) (Or.inl ⟨by rfl, unib_val ?_⟩) ?_; rotate_left; (focus (intro w9 hSw; go_simp; try with_reducible rfl)); simp only [Act.put, List.setIfInBounds_toArray, List.set_cons_zero, List.set_cons_succ]
  refine wpG_take (i := 14) (oi := ⟨some 58, _, _, _, _, _⟩) (v := ?_) rfl (by kernel_rfl) (by kernel_rfl) (by kernel_rfl) (Or.inl ⟨by rfl, unib_val ?_⟩) ?_; rotate_left; (focus (intro w9 hSw; have q0 := IXK.out w9; go_simp; try with_reducible rfl)); simp only [Act.put, List.setIfInBounds_toArray, List.set_cons_zero, List.set_cons_succ]
  refine wpG_take (i := 15) (oi := ⟨some 59, _, _, _, _, _⟩) (v := (.agg (KSig.cs x).toArray)) rfl (by kernel_rfl) (by kernel_rfl) (by kernel_rfl) (Or.inl ⟨by rfl, unib_val ?_⟩) ?_; (focus (intro w9 hSw; exact exec_load_at 30 _ rfl _ rfl (load_sigK QK.out XO.out (BR.out.trans (hSw.mono BR.out.size)) hbw.out))); simp only [Act.put, List.setIfInBounds_toArray, List.set_cons_zero, List.set_cons_succ]
  refine wpG_take (i := 16) (oi := ⟨some 60, _, _, _, _, _⟩) (v := (.bool true)) rfl (by kernel_rfl) (by kernel_rfl) (by kernel_rfl) (Or.inl ⟨by rfl, unib_val ?_⟩) ?_; (focus (intro w9 hSw; have q0 := HQ.out w9; exact exec_eql_at 30 _ _ _ rfl rfl rfl guardSig q0)); simp only [Act.put, List.setIfInBounds_toArray, List.set_cons_zero, List.set_cons_succ]
  refine wpG_take (i := 17) (oi := ⟨some 61, _, _, _, _, _⟩) (v := ?_) rfl (by kernel_rfl) (by kernel_rfl) (by kernel_rfl) (Or.inl ⟨by rfl, unib_val ?_⟩) ?_; rotate_left; (focus (intro w9 hSw; go_simp; try with_reducible rfl)); simp only [Act.put, List.setIfInBounds_toArray, List.set_cons_zero, List.set_cons_succ]
  refine wpG_take (i := 18) (oi := ⟨some 4, _, _, _, _, _⟩) (v := ?_) rfl (by kernel_rfl) (by kernel_rfl) (by kernel_rfl) (Or.inl ⟨by rfl, unib_val ?_⟩) ?_; rotate_left; (focus (intro w9 hSw; go_simp; try with_reducible rfl)); simp only [Act.put, List.setIfInBounds_toArray, List.set_cons_zero, List.set_cons_succ]
  refine wpG_done (by kernel_rfl) ?_ _
  intro w9 hSw _
  have B9 := Lib.hid (B3.out.trans (hSw.mono B3.out.size))
  clear hSw
  go_wp2
  go_ret
  exact ⟨rfl, B9.out⟩
end Go.Proofs.YtlahjooofjbfbaaDoor

