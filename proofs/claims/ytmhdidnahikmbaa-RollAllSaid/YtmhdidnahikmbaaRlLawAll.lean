import Derived.Test.YtmhdidnahikmbaaRlProg
import Derived.Test.YtmhdidnahikmbaaGUni
import Derived.Test.YtmhdidnahikmbaaRlAwake
/-
  The law RollAll: for every text and number it answers true, and nothing that was there is written.
-/
namespace Go.Proofs.Ytmhdidnahikmbaa
open Go.RowKit WM
set_option linter.unusedVariables false
set_option maxRecDepth 100000
set_option maxHeartbeats 8000000 in
theorem walk_rollAll (s : ByteArray) (many : Int) (w : World) (hs : s.size ≤ maxLen) (hmany : (Lit.int .i64 many).wf = true) :
    Calls Try.prog 5 #[.string s, .int .i64 many] w fun e w' => e = .returned (.bool true) ∧ Below w.heap.size w w' := by
  have B0 := Lib.hid (Below.refl w.heap.size w)
  obtain ⟨a3, a4⟩ := wf_rng64 hmany
  obtain ⟨n, hn⟩ : ∃ n, n = s.size := ⟨_, rfl⟩
  have HNN := Lib.hid (show (nums s).length = n by rw [nums_len, hn])
  have HSZ := Lib.hid hn.symm
  have hlen : s.size = n := hn.symm
  clear hn
  by_cases t1 : (300 : Int) < (n : Int)
  · clear hs hmany a3 a4
    go_enter Try.func5, Try.ntmps5
    go_wp2_with fail
    refine (rlAwake w).mono ?_
    rintro e w1 ⟨rfl, hb⟩
    have B1 := Lib.hid (B0.out.trans (hb.mono B0.out.size))
    clear hb
    go_wp2
    go_ret
    exact ⟨rfl, B1.out⟩
  have C2 := Lib.hid (fun w => rlall_any s many w (by rw [HSZ.out]; omega) a3 a4)
  unfold RAllPost at C2
  by_cases t2 : many < 1
  · rw [rlA_none (.inl t2)] at C2
    clear hs hmany a3 a4
    go_enter Try.func5, Try.ntmps5
    go_wp2_with fail
    refine (rlAwake w).mono ?_
    rintro e w1 ⟨rfl, hb⟩
    have B1 := Lib.hid (B0.out.trans (hb.mono B0.out.size))
    clear hb
    go_wp2_with fail
    refine (C2.out _).mono ?_
    rintro e w2 ⟨A, c, rfl, _, hb⟩
    have B2 := Lib.hid (B1.out.trans (hb.mono B1.out.size))
    clear hb
    go_wp2
    go_ret
    exact ⟨rfl, B2.out⟩
  by_cases t3 : (n : Int) < many
  · rw [rlA_none (.inr (by rw [HNN.out]; exact t3))] at C2
    clear hs hmany a3 a4
    go_enter Try.func5, Try.ntmps5
    go_wp2_with fail
    refine (rlAwake w).mono ?_
    rintro e w1 ⟨rfl, hb⟩
    have B1 := Lib.hid (B0.out.trans (hb.mono B0.out.size))
    clear hb
    go_wp2_with fail
    refine (C2.out _).mono ?_
    rintro e w2 ⟨A, c, rfl, _, hb⟩
    have B2 := Lib.hid (B1.out.trans (hb.mono B1.out.size))
    clear hb
    go_wp2
    go_ret
    exact ⟨rfl, B2.out⟩
  obtain ⟨m, rfl⟩ : ∃ m : Nat, many = m := ⟨many.toNat, by omega⟩
  have hm1 : 1 ≤ m := by omega
  have hmn : m ≤ n := by omega
  have hll := rlA_len (zs := nums s) hm1 (by rw [HNN.out]; exact hmn)
  rw [HNN.out] at hll
  have HAT := Lib.hid (fun k (hk : k + m ≤ n) => rlA_at (zs := nums s) hm1 (by rw [HNN.out]; exact hmn) (k := k) (by rw [HNN.out]; exact hk))
  have HSB := Lib.hid (fun (k : Nat) (hk : k + m ≤ n) (w : World) => sub_str s k (k + m) (by omega) (by rw [HSZ.out]; omega) (k : Int) ((k : Int) + (m : Int)) rfl (by omega) w)
  have HCS := Lib.hid (fun (k : Nat) (hk : k + m ≤ n) (w : World) => rlsum_any (s.extract k (k + m)) w (by rw [extract_size _ _ _ (by rw [HSZ.out]; omega)]; omega))
  have HPN := Lib.hid (fun k => part_nums s k m)
  generalize rlA (nums s) (m : Int) = L at *
  rw [hll] at C2
  have HLL := Lib.hid hll
  have f1 : IntKind.i64.wrap ((n : Int) - (m : Int)) = (n : Int) - (m : Int) := IntWalk.i64_in _ (by omega)
  have f2 : IntKind.i64.wrap ((n : Int) - (m : Int) + 1) = (n : Int) - (m : Int) + 1 := IntWalk.i64_in _ (by omega)
  obtain ⟨N, hN⟩ : ∃ N, N = n - m + 1 := ⟨_, rfl⟩
  rw [← hN] at C2
  have t4 : (N : Int) = (n : Int) - (m : Int) + 1 := by omega
  have HLN := Lib.hid (hll.trans hN.symm)
  have HNM : Hid (N + m = n + 1) := Lib.hid (by omega)
  clear hs hmany a3 a4 hll hN
  rw [← t4] at f2
  have f2' : IntKind.i64.wrap ((n : Int) - (m : Int) + 1) = (N : Int) := by rw [← t4]; exact f2
  have HT4 := Lib.hid t4
  clear t4 f2
  go_enter Try.func5, Try.ntmps5
  go_wp2_with fail
  refine (rlAwake w).mono ?_
  rintro e w1 ⟨rfl, hb⟩
  have B1 := Lib.hid (B0.out.trans (hb.mono B0.out.size))
  clear hb
  go_wp2_with fail
  refine (C2.out _).mono ?_
  rintro e w2 ⟨A, c, rfl, r1, hb⟩
  have B2 := Lib.hid (B1.out.trans (hb.mono B1.out.size))
  have R1 := Lib.hid r1
  have hcap := r1.1
  have hmax := r1.2.1
  rw [HLN.out] at hcap
  simp only [maxLen] at hmax
  clear hb r1
  go_wp2
  go_loopw [7] (fun i wr => ∃ k : Nat, k ≤ N ∧ i = .int .i64 k ∧ Below w2.heap.size w2 wr) (fun i _ => N - (intOf i).toNat)
  case atStart => exact ⟨0, Nat.zero_le _, rfl, Below.refl _ _⟩
  case round =>
    obtain ⟨k, hk, rfl, hb⟩ := hrel
    have HBB := Lib.hid hb
    by_cases hlt : k < N
    · have t5 : (k : Int) < (N : Int) := by omega
      have hkm : k + m ≤ n := by have := HNM.out; omega
      obtain ⟨b1, off1, hA1, hb1, hx1⟩ := row32_cell R1.out (i := k) (by rw [HLN.out]; exact hlt)
      have IX := Lib.hid (fun w9 => ix_32 b1 off1 N c k hlt k rfl w9)
      rw [← hA1] at IX
      have c1 := (hb.cell (p := ⟨b1, off1 + k, none⟩) hb1).trans hx1
      have hb1w := Nat.lt_of_lt_of_le hb1 hb.size
      have L1 := Lib.hid (HSB.out k hkm)
      have C1 := HCS.out k hkm
      rw [HPN.out, ← HAT.out k hkm] at C1
      have C1 := Lib.hid C1
      have W1 : Hid (IntKind.i64.wrap ((k : Int) + (m : Int)) = (k : Int) + (m : Int)) := Lib.hid (IntWalk.i64_in _ (by omega))
      generalize L.getD k 0 = z at *
      generalize s.extract k (k + m) = p at *
      generalize off1 + k = o1 at *
      clear hx1 hA1 hb
      go_wp2_with fail
      refine wp_region_G _ (by kernel_rfl) ?_
      refine wpG_take (i := 0) (oi := ⟨some 45, _, _, _, _, _⟩) (v := ?_) rfl (by kernel_rfl) (by kernel_rfl) (by kernel_rfl) (Or.inl ⟨by rfl, unib_val ?_⟩) ?_; rotate_left; (focus (intro w9 hSw; go_simp; try with_reducible rfl)); simp only [Act.put, List.setIfInBounds_toArray, List.set_cons_zero, List.set_cons_succ]
      refine wpG_take (i := 1) (oi := ⟨some 46, _, _, _, _, _⟩) (v := ?_) rfl (by kernel_rfl) (by kernel_rfl) (by kernel_rfl) (Or.inl ⟨by rfl, unib_val ?_⟩) ?_; rotate_left; (focus (intro w9 hSw; go_simp; try with_reducible rfl)); simp only [Act.put, List.setIfInBounds_toArray, List.set_cons_zero, List.set_cons_succ]
      refine wpG_take (i := 2) (oi := ⟨some 47, _, _, _, _, _⟩) (v := ?_) rfl (by kernel_rfl) (by kernel_rfl) (by kernel_rfl) (Or.inl ⟨by rfl, unib_val ?_⟩) ?_; rotate_left; (focus (intro w9 hSw; have q0 := IX.out w9; go_simp; try with_reducible rfl)); simp only [Act.put, List.setIfInBounds_toArray, List.set_cons_zero, List.set_cons_succ]
      refine wpG_take (i := 3) (oi := ⟨some 48, _, _, _, _, _⟩) (v := ?_) rfl (by kernel_rfl) (by kernel_rfl) (by kernel_rfl) (Or.inl ⟨by rfl, unib_val ?_⟩) ?_; rotate_left; (focus (intro w9 hSw; have q0 := (hSw.cell (p := ⟨b1, o1, none⟩) hb1w).trans c1; go_simp; try with_reducible rfl)); simp only [Act.put, List.setIfInBounds_toArray, List.set_cons_zero, List.set_cons_succ]
      refine wpG_take (i := 4) (oi := ⟨some 49, _, _, _, _, _⟩) (v := ?_) rfl (by kernel_rfl) (by kernel_rfl) (by kernel_rfl) (Or.inl ⟨by rfl, unib_val ?_⟩) ?_; rotate_left; (focus (intro w9 hSw; go_simp; try with_reducible rfl)); simp only [Act.put, List.setIfInBounds_toArray, List.set_cons_zero, List.set_cons_succ]
      refine wpG_take (i := 5) (oi := ⟨some 50, _, _, _, _, _⟩) (v := ?_) rfl (by kernel_rfl) (by kernel_rfl) (by kernel_rfl) (Or.inl ⟨by rfl, unib_val ?_⟩) ?_; rotate_left; (focus (intro w9 hSw; go_simp; try with_reducible rfl)); simp only [Act.put, List.setIfInBounds_toArray, List.set_cons_zero, List.set_cons_succ]
      refine wpG_take (i := 6) (oi := ⟨some 51, _, _, _, _, _⟩) (v := ?_) rfl (by kernel_rfl) (by kernel_rfl) (by kernel_rfl) (Or.inl ⟨by rfl, unib_val ?_⟩) ?_; rotate_left; (focus (intro w9 hSw; go_simp; try with_reducible rfl)); simp only [Act.put, List.setIfInBounds_toArray, List.set_cons_zero, List.set_cons_succ]
      refine wpG_take (i := 7) (oi := ⟨some 52, _, _, _, _, _⟩) (v := ?_) rfl (by kernel_rfl) (by kernel_rfl) (by kernel_rfl) (Or.inl ⟨by rfl, unib_val ?_⟩) ?_; rotate_left; (focus (intro w9 hSw; go_simp; try with_reducible rfl)); simp only [Act.put, List.setIfInBounds_toArray, List.set_cons_zero, List.set_cons_succ]
      refine wpG_take (i := 8) (oi := ⟨some 53, _, _, _, _, _⟩) (v := ?_) rfl (by kernel_rfl) (by kernel_rfl) (by kernel_rfl) (Or.inl ⟨by rfl, unib_val ?_⟩) ?_; rotate_left; (focus (intro w9 hSw; have q0 := W1.out; go_simp; try with_reducible rfl)); simp only [Act.put, List.setIfInBounds_toArray, List.set_cons_zero, List.set_cons_succ]
      refine wpG_take (i := 9) (oi := ⟨some 54, _, _, _, _, _⟩) (v := ?_) rfl (by kernel_rfl) (by kernel_rfl) (by kernel_rfl) (Or.inl ⟨by rfl, unib_val ?_⟩) ?_; rotate_left; (focus (intro w9 hSw; have q0 := L1.out w9; go_simp; try with_reducible rfl)); simp only [Act.put, List.setIfInBounds_toArray, List.set_cons_zero, List.set_cons_succ]
      refine wpG_take (i := 10) (oi := ⟨some 55, _, _, _, _, _⟩) rfl (by kernel_rfl) (by kernel_rfl) (by kernel_rfl) (Or.inl ⟨by rfl, unib_call ?_ C1.out⟩) ?_; (focus (intro w9 hSw; go_simp; try with_reducible rfl)); simp only [Act.put, List.setIfInBounds_toArray, List.set_cons_zero, List.set_cons_succ]
      refine wpG_take (i := 11) (oi := ⟨some 56, _, _, _, _, _⟩) (v := ?_) rfl (by kernel_rfl) (by kernel_rfl) (by kernel_rfl) (Or.inl ⟨by rfl, unib_val ?_⟩) ?_; rotate_left; (focus (intro w9 hSw; go_simp; try with_reducible rfl)); simp only [Act.put, List.setIfInBounds_toArray, List.set_cons_zero, List.set_cons_succ]
      refine wpG_done (by kernel_rfl) ?_ _
      intro w9 hSw _
      have B9 := Lib.hid (HBB.out.trans (hSw.mono HBB.out.size))
      clear hSw c1
      go_wp2
      go_roundw
      case rel => exact ⟨k + 1, by omega, by go_num, B9.out⟩
      case measure => simp [intOf]; omega
    · obtain rfl : k = N := by omega
      have t5 : ¬ (k : Int) < (k : Int) := by omega
      clear hb
      go_wp2
      go_ret
      exact ⟨rfl, B2.out.trans (HBB.out.mono B2.out.size)⟩
end Go.Proofs.Ytmhdidnahikmbaa

