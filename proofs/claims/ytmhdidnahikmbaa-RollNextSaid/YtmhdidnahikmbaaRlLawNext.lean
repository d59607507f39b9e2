import Derived.Test.YtmhdidnahikmbaaRlProg
import Derived.Test.YtmhdidnahikmbaaGUni
import Derived.Test.YtmhdidnahikmbaaRlAwake
/-
  The law RollNext: for every text and two numbers it answers true, and nothing that was there is written.
-/
namespace Go.Proofs.Ytmhdidnahikmbaa
open Go.RowKit WM
set_option linter.unusedVariables false
set_option maxRecDepth 100000
set_option maxHeartbeats 8000000 in
theorem walk_rollNext (s : ByteArray) (at' many : Int) (w : World) (hs : s.size ≤ maxLen) (hat : (Lit.int .i64 at').wf = true) (hmany : (Lit.int .i64 many).wf = true) :
    Calls Try.prog 4 #[.string s, .int .i64 at', .int .i64 many] w fun e w' => e = .returned (.bool true) ∧ Below w.heap.size w w' := by
  have B0 := Lib.hid (Below.refl w.heap.size w)
  obtain ⟨n, hn⟩ : ∃ n, n = s.size := ⟨_, rfl⟩
  have HNN := Lib.hid (show (nums s).length = n by rw [nums_len, hn])
  have HSZ := Lib.hid hn.symm
  have hlen : s.size = n := hn.symm
  clear hn
  by_cases t1 : (600 : Int) < (n : Int)
  · clear hs hat hmany
    go_enter Try.func4, Try.ntmps4
    go_wp2_with fail
    refine (rlAwake w).mono ?_
    rintro e w1 ⟨rfl, hb⟩
    have B1 := Lib.hid (B0.out.trans (hb.mono B0.out.size))
    clear hb
    go_wp2
    go_ret
    exact ⟨rfl, B1.out⟩
  by_cases t2 : at' < 0
  · clear hs hat hmany
    go_enter Try.func4, Try.ntmps4
    go_wp2_with fail
    refine (rlAwake w).mono ?_
    rintro e w1 ⟨rfl, hb⟩
    have B1 := Lib.hid (B0.out.trans (hb.mono B0.out.size))
    clear hb
    go_wp2
    go_ret
    exact ⟨rfl, B1.out⟩
  by_cases t3 : 600 < at'
  · clear hs hat hmany
    go_enter Try.func4, Try.ntmps4
    go_wp2_with fail
    refine (rlAwake w).mono ?_
    rintro e w1 ⟨rfl, hb⟩
    have B1 := Lib.hid (B0.out.trans (hb.mono B0.out.size))
    clear hb
    go_wp2
    go_ret
    exact ⟨rfl, B1.out⟩
  by_cases t4 : many < 1
  · clear hs hat hmany
    go_enter Try.func4, Try.ntmps4
    go_wp2_with fail
    refine (rlAwake w).mono ?_
    rintro e w1 ⟨rfl, hb⟩
    have B1 := Lib.hid (B0.out.trans (hb.mono B0.out.size))
    clear hb
    go_wp2
    go_ret
    exact ⟨rfl, B1.out⟩
  by_cases t5 : 600 < many
  · clear hs hat hmany
    go_enter Try.func4, Try.ntmps4
    go_wp2_with fail
    refine (rlAwake w).mono ?_
    rintro e w1 ⟨rfl, hb⟩
    have B1 := Lib.hid (B0.out.trans (hb.mono B0.out.size))
    clear hb
    go_wp2
    go_ret
    exact ⟨rfl, B1.out⟩
  have f1 : IntKind.i64.wrap (at' + many) = at' + many := IntWalk.i64_in _ (by omega)
  by_cases t6 : (n : Int) ≤ at' + many
  · clear hs hat hmany
    go_enter Try.func4, Try.ntmps4
    go_wp2_with fail
    refine (rlAwake w).mono ?_
    rintro e w1 ⟨rfl, hb⟩
    have B1 := Lib.hid (B0.out.trans (hb.mono B0.out.size))
    clear hb
    go_wp2
    go_ret
    exact ⟨rfl, B1.out⟩
  obtain ⟨k, rfl⟩ : ∃ k : Nat, at' = k := ⟨at'.toNat, by omega⟩
  obtain ⟨m, rfl⟩ : ∃ m : Nat, many = m := ⟨many.toNat, by omega⟩
  have hkm : k + m < n := by omega
  have L1 := Lib.hid (fun w => sub_str s k (k + m) (by omega) (by rw [HSZ.out]; omega) (k : Int) ((k : Int) + (m : Int)) rfl (by omega) w)
  have L2 := Lib.hid (fun w => sub_str s (k + 1) (k + 1 + m) (by omega) (by rw [HSZ.out]; omega) ((k : Int) + 1) ((k : Int) + (m : Int) + 1) (by omega) (by omega) w)
  have X1 := Lib.hid (fun w => ix_strR s k (by rw [HNN.out]; omega) (k : Int) rfl w)
  have X2 := Lib.hid (fun w => ix_strR s (k + m) (by rw [HNN.out]; omega) ((k : Int) + (m : Int)) (by omega) w)
  have C1 := Lib.hid (fun w => rlsum_any (s.extract k (k + m)) w (by rw [extract_size _ _ _ (by rw [HSZ.out]; omega)]; omega))
  have C3 := Lib.hid (fun w => rlsum_any (s.extract (k + 1) (k + 1 + m)) w (by rw [extract_size _ _ _ (by rw [HSZ.out]; omega)]; omega))
  have z1 := byte_at s k
  have z2 := byte_at s (k + m)
  have r1 := rlS_range (((nums s).drop k).take m)
  have hnx := next_part (zs := nums s) (k := k) (m := m) (by omega) (by rw [HNN.out]; exact hkm)
  rw [part_nums] at C1 C3
  have C2 := fun w => rlnext_any (rlS (((nums s).drop k).take m)) (m : Int) ((nums s).getD k 0) ((nums s).getD (k + m) 0) w r1.1 r1.2 (by omega) (by omega) z1.1 z1.2 z2.1 z2.2
  rw [hnx] at C2
  have C2 := Lib.hid C2
  have W1 := Lib.hid f1
  have W2 : Hid (IntKind.i64.wrap ((k : Int) + 1) = (k : Int) + 1) := Lib.hid (IntWalk.i64_in _ (by omega))
  have W3 : Hid (IntKind.i64.wrap ((k : Int) + (m : Int) + 1) = (k : Int) + (m : Int) + 1) := Lib.hid (IntWalk.i64_in _ (by omega))
  generalize rlS (((nums s).drop k).take m) = P at *
  generalize rlS (((nums s).drop (k + 1)).take m) = Q at *
  generalize (nums s).getD k 0 = zk at *
  generalize (nums s).getD (k + m) 0 = zm at *
  generalize s.extract k (k + m) = p at *
  generalize s.extract (k + 1) (k + 1 + m) = q at *
  clear hs hat hmany z1 z2 r1 hnx
  go_enter Try.func4, Try.ntmps4
  go_wp2_with fail
  refine (rlAwake w).mono ?_
  rintro e w1 ⟨rfl, hb⟩
  have B1 := Lib.hid (B0.out.trans (hb.mono B0.out.size))
  clear hb
  go_wp2_with fail
  refine wp_region_G _ (by kernel_rfl) ?_
  refine wpG_take (i := 0) (oi := ⟨some 41, _, _, _, _, _⟩) (v := ?_) rfl (by kernel_rfl) (by kernel_rfl) (by kernel_rfl) (Or.inl ⟨by rfl, unib_val ?_⟩) ?_; rotate_left; (focus (intro w9 hSw; go_simp; try with_reducible rfl)); simp only [Act.put, List.setIfInBounds_toArray, List.set_cons_zero, List.set_cons_succ]
  refine wpG_take (i := 1) (oi := ⟨some 42, _, _, _, _, _⟩) (v := ?_) rfl (by kernel_rfl) (by kernel_rfl) (by kernel_rfl) (Or.inl ⟨by rfl, unib_val ?_⟩) ?_; rotate_left; (focus (intro w9 hSw; go_simp; try with_reducible rfl)); simp only [Act.put, List.setIfInBounds_toArray, List.set_cons_zero, List.set_cons_succ]
  refine wpG_take (i := 2) (oi := ⟨some 43, _, _, _, _, _⟩) (v := ?_) rfl (by kernel_rfl) (by kernel_rfl) (by kernel_rfl) (Or.inl ⟨by rfl, unib_val ?_⟩) ?_; rotate_left; (focus (intro w9 hSw; go_simp; try with_reducible rfl)); simp only [Act.put, List.setIfInBounds_toArray, List.set_cons_zero, List.set_cons_succ]
  refine wpG_take (i := 3) (oi := ⟨some 44, _, _, _, _, _⟩) (v := ?_) rfl (by kernel_rfl) (by kernel_rfl) (by kernel_rfl) (Or.inl ⟨by rfl, unib_val ?_⟩) ?_; rotate_left; (focus (intro w9 hSw; go_simp; try with_reducible rfl)); simp only [Act.put, List.setIfInBounds_toArray, List.set_cons_zero, List.set_cons_succ]
  refine wpG_take (i := 4) (oi := ⟨some 45, _, _, _, _, _⟩) (v := ?_) rfl (by kernel_rfl) (by kernel_rfl) (by kernel_rfl) (Or.inl ⟨by rfl, unib_val ?_⟩) ?_; rotate_left; (focus (intro w9 hSw; have q0 := W1.out; go_simp; try with_reducible rfl)); simp only [Act.put, List.setIfInBounds_toArray, List.set_cons_zero, List.set_cons_succ]
  refine wpG_take (i := 5) (oi := ⟨some 46, _, _, _, _, _⟩) (v := ?_) rfl (by kernel_rfl) (by kernel_rfl) (by kernel_rfl) (Or.inl ⟨by rfl, unib_val ?_⟩) ?_; rotate_left; (focus (intro w9 hSw; have q0 := L1.out w9; go_simp; try with_reducible rfl)); simp only [Act.put, List.setIfInBounds_toArray, List.set_cons_zero, List.set_cons_succ]
  refine wpG_take (i := 6) (oi := ⟨some 47, _, _, _, _, _⟩) rfl (by kernel_rfl) (by kernel_rfl) (by kernel_rfl) (Or.inl ⟨by rfl, unib_call ?_ C1.out⟩) ?_; (focus (intro w9 hSw; go_simp; try with_reducible rfl)); simp only [Act.put, List.setIfInBounds_toArray, List.set_cons_zero, List.set_cons_succ]
  refine wpG_take (i := 7) (oi := ⟨some 48, _, _, _, _, _⟩) (v := ?_) rfl (by kernel_rfl) (by kernel_rfl) (by kernel_rfl) (Or.inl ⟨by rfl, unib_val ?_⟩) ?_; rotate_left; (focus (intro w9 hSw; go_simp; try with_reducible rfl)); simp only [Act.put, List.setIfInBounds_toArray, List.set_cons_zero, List.set_cons_succ]
  refine wpG_take (i := 8) (oi := ⟨some 49, _, _, _, _, _⟩) (v := ?_) rfl (by kernel_rfl) (by kernel_rfl) (by kernel_rfl) (Or.inl ⟨by rfl, unib_val ?_⟩) ?_; rotate_left; (focus (intro w9 hSw; go_simp; try with_reducible rfl)); simp only [Act.put, List.setIfInBounds_toArray, List.set_cons_zero, List.set_cons_succ]
  refine wpG_take (i := 9) (oi := ⟨some 50, _, _, _, _, _⟩) (v := ?_) rfl (by kernel_rfl) (by kernel_rfl) (by kernel_rfl) (Or.inl ⟨by rfl, unib_val ?_⟩) ?_; rotate_left; (focus (intro w9 hSw; go_simp; try with_reducible rfl)); simp only [Act.put, List.setIfInBounds_toArray, List.set_cons_zero, List.set_cons_succ]
  refine wpG_take (i := 10) (oi := ⟨some 51, _, _, _, _, _⟩) (v := ?_) rfl (by kernel_rfl) (by kernel_rfl) (by kernel_rfl) (Or.inl ⟨by rfl, unib_val ?_⟩) ?_; rotate_left; (focus (intro w9 hSw; have q0 := X1.out w9; go_simp; try with_reducible rfl)); simp only [Act.put, List.setIfInBounds_toArray, List.set_cons_zero, List.set_cons_succ]
  refine wpG_take (i := 11) (oi := ⟨some 52, _, _, _, _, _⟩) (v := ?_) rfl (by kernel_rfl) (by kernel_rfl) (by kernel_rfl) (Or.inl ⟨by rfl, unib_val ?_⟩) ?_; rotate_left; (focus (intro w9 hSw; go_simp; try with_reducible rfl)); simp only [Act.put, List.setIfInBounds_toArray, List.set_cons_zero, List.set_cons_succ]
  refine wpG_take (i := 12) (oi := ⟨some 53, _, _, _, _, _⟩) (v := ?_) rfl (by kernel_rfl) (by kernel_rfl) (by kernel_rfl) (Or.inl ⟨by rfl, unib_val ?_⟩) ?_; rotate_left; (focus (intro w9 hSw; go_simp; try with_reducible rfl)); simp only [Act.put, List.setIfInBounds_toArray, List.set_cons_zero, List.set_cons_succ]
  refine wpG_take (i := 13) (oi := ⟨some 54, _, _, _, _, _⟩) (v := ?_) rfl (by kernel_rfl) (by kernel_rfl) (by kernel_rfl) (Or.inl ⟨by rfl, unib_val ?_⟩) ?_; rotate_left; (focus (intro w9 hSw; go_simp; try with_reducible rfl)); simp only [Act.put, List.setIfInBounds_toArray, List.set_cons_zero, List.set_cons_succ]
  refine wpG_take (i := 14) (oi := ⟨some 55, _, _, _, _, _⟩) (v := ?_) rfl (by kernel_rfl) (by kernel_rfl) (by kernel_rfl) (Or.inl ⟨by rfl, unib_val ?_⟩) ?_; rotate_left; (focus (intro w9 hSw; have q0 := W1.out; go_simp; try with_reducible rfl)); simp only [Act.put, List.setIfInBounds_toArray, List.set_cons_zero, List.set_cons_succ]
  refine wpG_take (i := 15) (oi := ⟨some 56, _, _, _, _, _⟩) (v := ?_) rfl (by kernel_rfl) (by kernel_rfl) (by kernel_rfl) (Or.inl ⟨by rfl, unib_val ?_⟩) ?_; rotate_left; (focus (intro w9 hSw; have q0 := X2.out w9; go_simp; try with_reducible rfl)); simp only [Act.put, List.setIfInBounds_toArray, List.set_cons_zero, List.set_cons_succ]
  refine wpG_take (i := 16) (oi := ⟨some 57, _, _, _, _, _⟩) rfl (by kernel_rfl) (by kernel_rfl) (by kernel_rfl) (Or.inl ⟨by rfl, unib_call ?_ C2.out⟩) ?_; (focus (intro w9 hSw; go_simp; try with_reducible rfl)); simp only [Act.put, List.setIfInBounds_toArray, List.set_cons_zero, List.set_cons_succ]
  refine wpG_take (i := 17) (oi := ⟨some 58, _, _, _, _, _⟩) (v := ?_) rfl (by kernel_rfl) (by kernel_rfl) (by kernel_rfl) (Or.inl ⟨by rfl, unib_val ?_⟩) ?_; rotate_left; (focus (intro w9 hSw; go_simp; try with_reducible rfl)); simp only [Act.put, List.setIfInBounds_toArray, List.set_cons_zero, List.set_cons_succ]
  refine wpG_take (i := 18) (oi := ⟨some 59, _, _, _, _, _⟩) (v := ?_) rfl (by kernel_rfl) (by kernel_rfl) (by kernel_rfl) (Or.inl ⟨by rfl, unib_val ?_⟩) ?_; rotate_left; (focus (intro w9 hSw; go_simp; try with_reducible rfl)); simp only [Act.put, List.setIfInBounds_toArray, List.set_cons_zero, List.set_cons_succ]
  refine wpG_take (i := 19) (oi := ⟨some 60, _, _, _, _, _⟩) (v := ?_) rfl (by kernel_rfl) (by kernel_rfl) (by kernel_rfl) (Or.inl ⟨by rfl, unib_val ?_⟩) ?_; rotate_left; (focus (intro w9 hSw; have q0 := W2.out; go_simp; try with_reducible rfl)); simp only [Act.put, List.setIfInBounds_toArray, List.set_cons_zero, List.set_cons_succ]
  refine wpG_take (i := 20) (oi := ⟨some 61, _, _, _, _, _⟩) (v := ?_) rfl (by kernel_rfl) (by kernel_rfl) (by kernel_rfl) (Or.inl ⟨by rfl, unib_val ?_⟩) ?_; rotate_left; (focus (intro w9 hSw; go_simp; try with_reducible rfl)); simp only [Act.put, List.setIfInBounds_toArray, List.set_cons_zero, List.set_cons_succ]
  refine wpG_take (i := 21) (oi := ⟨some 62, _, _, _, _, _⟩) (v := ?_) rfl (by kernel_rfl) (by kernel_rfl) (by kernel_rfl) (Or.inl ⟨by rfl, unib_val ?_⟩) ?_; rotate_left; (focus (intro w9 hSw; go_simp; try with_reducible rfl)); simp only [Act.put, List.setIfInBounds_toArray, List.set_cons_zero, List.set_cons_succ]
  refine wpG_take (i := 22) (oi := ⟨some 63, _, _, _, _, _⟩) (v := ?_) rfl (by kernel_rfl) (by kernel_rfl) (by kernel_rfl) (Or.inl ⟨by rfl, unib_val ?_⟩) ?_; rotate_left; (focus (intro w9 hSw; have q0 := W1.out; go_simp; try with_reducible rfl)); simp only [Act.put, List.setIfInBounds_toArray, List.set_cons_zero, List.set_cons_succ]
  refine wpG_take (i := 23) (oi := ⟨some 64, _, _, _, _, _⟩) (v := ?_) rfl (by kernel_rfl) (by kernel_rfl) (by kernel_rfl) (Or.inl ⟨by rfl, unib_val ?_⟩) ?_; rotate_left; (focus (intro w9 hSw; have q0 := W3.out; go_simp; try with_reducible rfl)); simp only [Act.put, List.setIfInBounds_toArray, List.set_cons_zero, List.set_cons_succ]
  refine wpG_take (i := 24) (oi := ⟨some 65, _, _, _, _, _⟩) (v := ?_) rfl (by kernel_rfl) (by kernel_rfl) (by kernel_rfl) (Or.inl ⟨by rfl, unib_val ?_⟩) ?_; rotate_left; (focus (intro w9 hSw; have q0 := L2.out w9; go_simp; try with_reducible rfl)); simp only [Act.put, List.setIfInBounds_toArray, List.set_cons_zero, List.set_cons_succ]
  refine wpG_take (i := 25) (oi := ⟨some 66, _, _, _, _, _⟩) rfl (by kernel_rfl) (by kernel_rfl) (by kernel_rfl) (Or.inl ⟨by rfl, unib_call ?_ C3.out⟩) ?_; (focus (intro w9 hSw; go_simp; try with_reducible rfl)); simp only [Act.put, List.setIfInBounds_toArray, List.set_cons_zero, List.set_cons_succ]
  refine wpG_take (i := 26) (oi := ⟨some 67, _, _, _, _, _⟩) (v := ?_) rfl (by kernel_rfl) (by kernel_rfl) (by kernel_rfl) (Or.inl ⟨by rfl, unib_val ?_⟩) ?_; rotate_left; (focus (intro w9 hSw; go_simp; try with_reducible rfl)); simp only [Act.put, List.setIfInBounds_toArray, List.set_cons_zero, List.set_cons_succ]
  refine wpG_take (i := 27) (oi := ⟨some 6, _, _, _, _, _⟩) (v := ?_) rfl (by kernel_rfl) (by kernel_rfl) (by kernel_rfl) (Or.inl ⟨by rfl, unib_val ?_⟩) ?_; rotate_left; (focus (intro w9 hSw; go_simp; try with_reducible rfl)); simp only [Act.put, List.setIfInBounds_toArray, List.set_cons_zero, List.set_cons_succ]
  refine wpG_done (by kernel_rfl) ?_ _
  intro w9 hSw _
  go_wp2
  go_ret
  exact ⟨rfl, B1.out.trans (hSw.mono B1.out.size)⟩
end Go.Proofs.Ytmhdidnahikmbaa

