import Derived.Test.YtmhdidnahikmbaaRlProg
import Derived.Test.YtmhdidnahikmbaaGUni
import Derived.Test.YtmhdidnahikmbaaRlAwake
/-
  The law RollJoin: for every two texts it answers true, and nothing that was there is written.
-/
namespace Go.Proofs.Ytmhdidnahikmbaa
open Go.RowKit WM
set_option linter.unusedVariables false
set_option maxRecDepth 100000
theorem nums_appR (s t : ByteArray) : nums (s ++ t) = nums s ++ nums t := by
  unfold nums
  rw [ByteArray.data_append]
  simp
set_option maxHeartbeats 8000000 in
theorem walk_rollJoin (s t : ByteArray) (w : World) (hs : s.size ≤ maxLen) (ht : t.size ≤ maxLen) :
    Calls Try.prog 6 #[.string s, .string t] w fun e w' => e = .returned (.bool true) ∧ Below w.heap.size w w' := by
  have B0 := Lib.hid (Below.refl w.heap.size w)
  by_cases t1 : (300 : Int) < (s.size : Int)
  · clear hs ht
    go_enter Try.func6, Try.ntmps6
    go_wp2_with fail
    refine (rlAwake w).mono ?_
    rintro e w1 ⟨rfl, hb⟩
    have B1 := Lib.hid (B0.out.trans (hb.mono B0.out.size))
    clear hb
    go_wp2
    go_ret
    exact ⟨rfl, B1.out⟩
  by_cases t2 : (300 : Int) < (t.size : Int)
  · clear hs ht
    go_enter Try.func6, Try.ntmps6
    go_wp2_with fail
    refine (rlAwake w).mono ?_
    rintro e w1 ⟨rfl, hb⟩
    have B1 := Lib.hid (B0.out.trans (hb.mono B0.out.size))
    clear hb
    go_wp2
    go_ret
    exact ⟨rfl, B1.out⟩
  have C1 := Lib.hid (fun w => rlsum_any s w (by omega))
  have C2 := Lib.hid (fun w => rlsum_any t w (by omega))
  have C3 := fun w => rlsum_any (s ++ t) w (by rw [ByteArray.size_append]; omega)
  rw [nums_appR, join_sum, nums_len] at C3
  have r1 := rlS_range (nums s)
  have r2 := rlS_range (nums t)
  generalize rlS (nums s) = X at *
  generalize rlS (nums t) = Y at *
  obtain ⟨n, hn⟩ : ∃ n, n = t.size := ⟨_, rfl⟩
  have hlen : t.size = n := hn.symm
  clear hn
  rw [hlen] at C3
  obtain ⟨xa, hxa⟩ : ∃ x, x = X % 65536 := ⟨_, rfl⟩
  obtain ⟨ya, hya⟩ : ∃ x, x = Y % 65536 := ⟨_, rfl⟩
  obtain ⟨xb, hxb⟩ : ∃ x, x = X / 65536 := ⟨_, rfl⟩
  obtain ⟨yb, hyb⟩ : ∃ x, x = Y / 65536 := ⟨_, rfl⟩
  rw [← hxa, ← hya, ← hxb, ← hyb] at C3
  have hp : 0 ≤ (n : Int) * xa ∧ (n : Int) * xa ≤ 19660500 := by
    refine ⟨Int.mul_nonneg (by omega) (by omega), ?_⟩
    have := Int.mul_le_mul (show (n : Int) ≤ 300 by omega) (show xa ≤ 65535 by omega) (by omega) (by omega)
    omega
  obtain ⟨p, hpe⟩ : ∃ p, p = (n : Int) * xa := ⟨_, rfl⟩
  rw [← hpe] at hp C3
  obtain ⟨a, ha⟩ : ∃ a, a = (xa + ya) % 65536 := ⟨_, rfl⟩
  obtain ⟨b, hb'⟩ : ∃ b, b = (xb + yb + p) % 65536 := ⟨_, rfl⟩
  rw [← ha, ← hb'] at C3
  have C3 := Lib.hid C3
  have f1 : Int.tmod X 65536 = xa := by rw [Int.tmod_eq_emod_of_nonneg (by omega), hxa]
  have f2 : Int.tmod Y 65536 = ya := by rw [Int.tmod_eq_emod_of_nonneg (by omega), hya]
  have f3 : Int.tdiv X 65536 = xb := by rw [Int.tdiv_eq_ediv_of_nonneg (by omega), hxb]
  have f4 : Int.tdiv Y 65536 = yb := by rw [Int.tdiv_eq_ediv_of_nonneg (by omega), hyb]
  have f5 : IntKind.u32.wrap (xa + ya) = xa + ya := IntWalk.u32_in _ (by omega)
  have f6 : Int.tmod (xa + ya) 65536 = a := by rw [Int.tmod_eq_emod_of_nonneg (by omega), ha]
  have f7 : IntKind.u32.wrap (xb + yb) = xb + yb := IntWalk.u32_in _ (by omega)
  have f8 : IntKind.u32.wrap (n : Int) = (n : Int) := IntWalk.u32_in _ (by omega)
  have f9 : IntKind.u32.wrap ((n : Int) * xa) = p := by rw [← hpe]; exact IntWalk.u32_in _ (by omega)
  have g1 : IntKind.u32.wrap (xb + yb + p) = xb + yb + p := IntWalk.u32_in _ (by omega)
  have g2 : Int.tmod (xb + yb + p) 65536 = b := by rw [Int.tmod_eq_emod_of_nonneg (by omega), hb']
  have g3 : IntKind.u32.wrap (65536 * b) = 65536 * b := IntWalk.u32_in _ (by omega)
  have g4 : IntKind.u32.wrap (65536 * b + a) = 65536 * b + a := IntWalk.u32_in _ (by omega)
  have e1 : IntKind.u32.wrap xa = xa := IntWalk.u32_in _ (by omega)
  have e2 : IntKind.u32.wrap ya = ya := IntWalk.u32_in _ (by omega)
  have e3 : IntKind.u32.wrap xb = xb := IntWalk.u32_in _ (by omega)
  have e4 : IntKind.u32.wrap yb = yb := IntWalk.u32_in _ (by omega)
  have e5 : IntKind.u32.wrap a = a := IntWalk.u32_in _ (by omega)
  have e6 : IntKind.u32.wrap b = b := IntWalk.u32_in _ (by omega)
  clear hs ht hxa hya hxb hyb hpe ha hb' hp r1 r2
  go_enter Try.func6, Try.ntmps6
  go_wp2_with fail
  refine (rlAwake w).mono ?_
  rintro e w1 ⟨rfl, hb⟩
  have B1 := Lib.hid (B0.out.trans (hb.mono B0.out.size))
  clear hb
  go_wp2_with fail
  refine (C1.out _).mono ?_
  rintro e w2 ⟨rfl, hb⟩
  have B2 := Lib.hid (B1.out.trans (hb.mono B1.out.size))
  clear hb
  go_wp2_with fail
  refine (C2.out _).mono ?_
  rintro e w3 ⟨rfl, hb⟩
  have B3 := Lib.hid (B2.out.trans (hb.mono B2.out.size))
  clear hb
  go_wp2_with fail
  refine (C3.out _).mono ?_
  rintro e w4 ⟨rfl, hb⟩
  have B4 := Lib.hid (B3.out.trans (hb.mono B3.out.size))
  clear hb
  go_wp2
  go_ret
  exact ⟨rfl, B4.out⟩
end Go.Proofs.Ytmhdidnahikmbaa

