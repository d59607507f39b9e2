import Derived.Test.YtmhdidnahikmbaaRlProg
import Derived.Test.YtmhdidnahikmbaaGUni
import Derived.Test.YtmhdidnahikmbaaRlAwake
/-
  The law RollBack: for every two bytes it answers true, and nothing that was there is written.
-/
namespace Go.Proofs.Ytmhdidnahikmbaa
open Go.RowKit WM
set_option linter.unusedVariables false
set_option maxRecDepth 100000
theorem byt_oneR (w : World) (c : Int) : Byt (w.alloc (.cells #[.int .u8 c] 5)) (w.alloc (.cells #[.int .u8 c] 5)).heap.size (some ⟨w.heap.size, 0, none⟩) [c] := fun _ => ⟨w.heap.size, 0, rfl, by rw [World.size_alloc]; omega, fun i hi => by
  obtain rfl : i = 0 := by simpa using hi
  have hh : (w.alloc (.cells #[.int .u8 c] 5)).heap[w.heap.size]? = some (.cells #[.int .u8 c] 5) := heap_alloc_new w _
  rw [cell_of_row _ _ _ _ _ _ hh]; rfl⟩
set_option maxHeartbeats 4000000 in
theorem walk_rollBack (a b : Int) (w : World) (ha : (Lit.int .u8 a).wf = true) (hb : (Lit.int .u8 b).wf = true) :
    Calls Try.prog 7 #[.int .u8 a, .int .u8 b] w fun e w' => e = .returned (.bool true) ∧ Below w.heap.size w w' := by
  have B0 := Lib.hid (Below.refl w.heap.size w)
  obtain ⟨a1, a2⟩ := wf_rng8 ha
  obtain ⟨a3, a4⟩ := wf_rng8 hb
  have C1 := fun w => rlsum_any (strOfNums [a]) w (by rw [strOfNums_size]; simp)
  rw [nums_str (fun z hz => by simp at hz; omega)] at C1
  have C2 := fun w => rlsum_any (strOfNums [b]) w (by rw [strOfNums_size]; simp)
  rw [nums_str (fun z hz => by simp at hz; omega)] at C2
  have r1 := rlS_range [a]
  have r2 := rlS_range [b]
  have C3 := fun w => rlnext_any (rlS [a]) 1 a b w r1.1 r1.2 (by decide) (by decide) a1 a2 a3 a4
  have C4 := fun w => rlnext_any (rlS [b]) 1 b a w r2.1 r2.2 (by decide) (by decide) a3 a4 a1 a2
  rw [back_one] at C3 C4
  have C5 := fun w => rlsum_any ⟨#[]⟩ w (by decide)
  rw [show rlS (nums ⟨#[]⟩) = 0 from by decide] at C5
  have hX := one_sum a1 a2
  generalize rlS [a] = X at *
  generalize rlS [b] = Y at *
  have C1 := Lib.hid C1
  have C2 := Lib.hid C2
  have C3 := Lib.hid C3
  have C4 := Lib.hid C4
  have C5 := Lib.hid C5
  have f1 : IntKind.u32.wrap a = a := IntWalk.u32_in _ (by omega)
  have f2 : IntKind.u32.wrap (65537 * a) = X := by rw [← hX]; exact IntWalk.u32_in _ (by omega)
  have e1 : IntKind.u8.wrap a = a := IntWalk.u8_in _ (by omega)
  have e2 : IntKind.u8.wrap b = b := IntWalk.u8_in _ (by omega)
  have e3 : IntKind.u32.wrap X = X := IntWalk.u32_in _ (by omega)
  have e4 : IntKind.u32.wrap Y = Y := IntWalk.u32_in _ (by omega)
  obtain ⟨F, cv, hF⟩ := cvt_ex
  have HF1 := Lib.hid (fun (w : World) => hF _ _ _ _ (byt_oneR w a) 1 1 rfl)
  have HF2 := Lib.hid (fun (w : World) => hF _ _ _ _ (byt_oneR w b) 1 1 rfl)
  have K1 := HF1.out
  have K2 := HF2.out
  clear hF ha hb a1 a2 a3 a4 r1 r2 hX
  go_enter Try.func7, Try.ntmps7
  go_wp2_with fail
  refine (rlAwake w).mono ?_
  rintro e w1 ⟨rfl, hb⟩
  have B1 := Lib.hid (B0.out.trans (hb.mono B0.out.size))
  clear hb
  have B1' := Lib.hid (B1.out.alloc B1.out.size (.cells #[.int .u8 a] 5))
  go_wp2_with fail
  refine (C1.out _).mono ?_
  rintro e w2 ⟨rfl, hb⟩
  have B2 := Lib.hid (B1'.out.trans (hb.mono B1'.out.size))
  clear hb
  have B2' := Lib.hid (B2.out.alloc B2.out.size (.cells #[.int .u8 b] 5))
  go_wp2_with fail
  refine (C2.out _).mono ?_
  rintro e w3 ⟨rfl, hb⟩
  have B3 := Lib.hid (B2'.out.trans (hb.mono B2'.out.size))
  clear hb
  go_wp2_with fail
  refine (C3.out _).mono ?_
  rintro e w4 ⟨rfl, hb⟩
  have B4 := Lib.hid (B3.out.trans (hb.mono B3.out.size))
  clear hb
  go_wp2_with fail
  refine (C4.out _).mono ?_
  rintro e w5 ⟨rfl, hb⟩
  have B5 := Lib.hid (B4.out.trans (hb.mono B4.out.size))
  clear hb
  go_wp2_with fail
  refine (C5.out _).mono ?_
  rintro e w6 ⟨rfl, hb⟩
  have B6 := Lib.hid (B5.out.trans (hb.mono B5.out.size))
  clear hb
  go_wp2
  go_ret
  exact ⟨rfl, B6.out⟩
end Go.Proofs.Ytmhdidnahikmbaa

