import Derived.Test.YtmhdidnahikmbaaRlProg
import Derived.Test.YtmhdidnahikmbaaGUni
import Derived.Test.YtmhdidnahikmbaaRlAwake
/-
  The law RollTells: for every text, check, number and two bytes it answers true, and nothing that was there is written.
-/
namespace Go.Proofs.Ytmhdidnahikmbaa
open Go.RowKit WM
set_option linter.unusedVariables false
set_option maxRecDepth 100000
set_option maxHeartbeats 4000000 in
theorem walk_rollTells (s : ByteArray) (sum many o i : Int) (w : World) (hs : s.size ≤ maxLen) (hsum : (Lit.int .u32 sum).wf = true) (hmany : (Lit.int .i64 many).wf = true) (ho : (Lit.int .u8 o).wf = true) (hi : (Lit.int .u8 i).wf = true) :
    Calls Try.prog 3 #[.string s, .int .u32 sum, .int .i64 many, .int .u8 o, .int .u8 i] w fun e w' => e = .returned (.bool true) ∧ Below w.heap.size w w' := by
  have B0 := Lib.hid (Below.refl w.heap.size w)
  obtain ⟨a1, a2⟩ := wf_rng32 hsum
  obtain ⟨a3, a4⟩ := wf_rng64 hmany
  obtain ⟨a5, a6⟩ := wf_rng8 ho
  obtain ⟨a7, a8⟩ := wf_rng8 hi
  by_cases t1 : (600 : Int) < (s.size : Int)
  · clear hs hsum hmany ho hi a1 a2 a3 a4 a5 a6 a7 a8
    go_enter Try.func3, Try.ntmps3
    go_wp2_with fail
    refine (rlAwake w).mono ?_
    rintro e w1 ⟨rfl, hb⟩
    have B1 := Lib.hid (B0.out.trans (hb.mono B0.out.size))
    clear hb
    go_wp2
    go_ret
    exact ⟨rfl, B1.out⟩
  · have C1 := Lib.hid (fun w => rlall_any s many w (by omega) a3 a4)
    have C2 := Lib.hid (fun w => rrall_any s many w (by omega) a3 a4)
    have C4 := Lib.hid (fun w => rlsum_any s w (by omega))
    have C5 := Lib.hid (fun w => rrsum_any s w (by omega))
    have C6 := Lib.hid (fun w => rlnext_any sum many o i w a1 a2 a3 a4 a5 a6 a7 a8)
    have C7 := Lib.hid (fun w => rnext9_any sum many o i w a1 a2 a3 a4 a5 a6 a7 a8)
    have HL : Hid ((rlA (nums s) many).length ≤ 1000000) := Lib.hid (by
      unfold rlA
      have := nums_len s
      split
      · simp
      · rw [List.length_map, List.length_range]; omega)
    unfold RAllPost at C1 C2
    generalize rlA (nums s) many = L at *
    generalize rlS (nums s) = S at *
    generalize rlN sum many o i = N at *
    clear hs hsum hmany ho hi a1 a2 a3 a4 a5 a6 a7 a8
    go_enter Try.func3, Try.ntmps3
    go_wp2_with fail
    refine (rlAwake w).mono ?_
    rintro e w1 ⟨rfl, hb⟩
    have B1 := Lib.hid (B0.out.trans (hb.mono B0.out.size))
    clear hb
    go_wp2_with fail
    refine (C1.out _).mono ?_
    rintro e w2 ⟨A1, c1, rfl, r1, hb⟩
    have B2 := Lib.hid (B1.out.trans (hb.mono B1.out.size))
    have R1 := Lib.hid r1
    clear hb r1
    go_wp2_with fail
    refine (C2.out _).mono ?_
    rintro e w3 ⟨A2, c2, rfl, r2, hb⟩
    have B3 := Lib.hid (B2.out.trans (hb.mono B2.out.size))
    have C3 := rrsame9_any A1 A2 c1 c2 L L w3 (Kind.row_below R1.out hb (Nat.le_refl _)) r2 HL.out
    rw [decide_eq_true rfl] at C3
    have C3 := Lib.hid C3
    clear hb r2
    go_wp2_with fail
    refine (C3.out).mono ?_
    rintro e w4 ⟨rfl, hb⟩
    have B4 := Lib.hid (B3.out.trans (hb.mono B3.out.size))
    clear hb
    go_wp2_with fail
    refine (C4.out _).mono ?_
    rintro e w5 ⟨rfl, hb⟩
    have B5 := Lib.hid (B4.out.trans (hb.mono B4.out.size))
    clear hb
    go_wp2_with fail
    refine (C5.out _).mono ?_
    rintro e w6 ⟨rfl, hb⟩
    have B6 := Lib.hid (B5.out.trans (hb.mono B5.out.size))
    clear hb
    go_wp2_with fail
    refine (C6.out _).mono ?_
    rintro e w7 ⟨rfl, hb⟩
    have B7 := Lib.hid (B6.out.trans (hb.mono B6.out.size))
    clear hb
    go_wp2_with fail
    refine (C7.out _).mono ?_
    rintro e w8 ⟨rfl, hb⟩
    have B8 := Lib.hid (B7.out.trans (hb.mono B7.out.size))
    clear hb
    go_wp2
    go_ret
    exact ⟨rfl, B8.out⟩
end Go.Proofs.Ytmhdidnahikmbaa

