import Derived.Test.YtnencoainacpoaaDoorDlAwake
import Derived.Test.YtnencoainacpoaaDoorDlProg
import Derived.Test.YtnencoainacpoaaDoorGDlM
/-
  The law DeltaNone: for every text and number it answers true, and nothing that was there is written. Nothing that was there is written.
-/
namespace Go.Proofs.YtnencoainacpoaaDoor
open Go.RowKit WM
set_option linter.unusedVariables false
set_option maxRecDepth 100000
theorem build_c2 (q : Int) (w : World) : (Instr.build 44 #[(0, .bool true), (2, .int .i64 q)]).run Tryd.prog w = .ok (KPc.v ⟨true, 0, q, ⟨#[]⟩⟩) w := run_build w _ _ _ (by kernel_rfl)
theorem build_c3 (f q : Int) (w : World) : (Instr.build 44 #[(0, .bool true), (1, .int .i64 f), (2, .int .i64 q)]).run Tryd.prog w = .ok (KPc.v ⟨true, f, q, ⟨#[]⟩⟩) w := run_build w _ _ _ (by kernel_rfl)
theorem cp_ok {f q : Int} (h0 : 0 ≤ f) (h1 : f ≤ 1000000) (h2 : 0 ≤ q) (h3 : q ≤ 1000000) : Pc.Ok ⟨true, f, q, ⟨#[]⟩⟩ := ⟨by simp [Lit.wf, IntKind.min, IntKind.max, IntKind.bits, IntKind.signed]; omega, by simp [Lit.wf, IntKind.min, IntKind.max, IntKind.bits, IntKind.signed]; omega, Nat.zero_le _⟩
set_option maxHeartbeats 4000000 in
theorem walk_deltaNone (s : ByteArray) (more : Int) (w : World) (hlaid : Laid w) (hs : s.size ≤ maxLen) :
    Calls Tryd.prog 10 #[.string s, .int .i64 more] w fun e w' => e = .returned (.bool true) ∧ Below w.heap.size w w' := by
  have B0 := Lib.hid (Below.refl w.heap.size w)
  have HL := Lib.hid hlaid
  have HS := Lib.hid hs
  clear hlaid hs
  by_cases t1 : (200 : Int) < (s.size : Int)
  · go_enter Tryd.func10, Tryd.ntmps10
    go_wp2_with fail
    refine (dlAwake w HL.out).mono ?_
    rintro e w1 ⟨rfl, hb⟩
    have B1 := Lib.hid (B0.out.trans (hb.mono B0.out.size))
    clear hb
    go_wp2
    go_ret
    exact ⟨rfl, B1.out⟩
  by_cases t2 : more < 1
  · go_enter Tryd.func10, Tryd.ntmps10
    go_wp2_with fail
    refine (dlAwake w HL.out).mono ?_
    rintro e w1 ⟨rfl, hb⟩
    have B1 := Lib.hid (B0.out.trans (hb.mono B0.out.size))
    clear hb
    go_wp2
    go_ret
    exact ⟨rfl, B1.out⟩
  by_cases t3 : 100 < more
  · go_enter Tryd.func10, Tryd.ntmps10
    go_wp2_with fail
    refine (dlAwake w HL.out).mono ?_
    rintro e w1 ⟨rfl, hb⟩
    have B1 := Lib.hid (B0.out.trans (hb.mono B0.out.size))
    clear hb
    go_wp2
    go_ret
    exact ⟨rfl, B1.out⟩
  have C1 := Lib.hid (fun (X : World) (hX : Below w.heap.size w X) => apply11_any s none 0 [] X (Kind.row_nil X none 0 (by decide) (fun _ => rfl)) (by simp) HS.out)
  rw [papply_nil, show ([] : List Pc).length = 0 from rfl] at C1
  obtain ⟨x1, hx1⟩ : ∃ x1 : Pc, x1 = ⟨true, 0, s.size, ⟨#[]⟩⟩ := ⟨_, rfl⟩
  obtain ⟨x2, hx2⟩ : ∃ x2 : Pc, x2 = ⟨true, more, s.size, ⟨#[]⟩⟩ := ⟨_, rfl⟩
  have X1O : Hid x1.Ok := Lib.hid (by rw [hx1]; exact cp_ok (by omega) (by omega) (by omega) (by omega))
  have X2O : Hid x2.Ok := Lib.hid (by rw [hx2]; exact cp_ok (by omega) (by omega) (by omega) (by omega))
  have C2 := Lib.hid (fun X : World => apply11_any s (some ⟨X.heap.size, 0, none⟩) 1 [x1] (X.alloc (.cells (KPc.cs x1).toArray 44)) (Kind.row_one (K := KPc) X1O.out) (by simp) HS.out)
  have C3 := Lib.hid (fun X : World => apply11_any s (some ⟨X.heap.size, 0, none⟩) 1 [x2] (X.alloc (.cells (KPc.cs x2).toArray 44)) (Kind.row_one (K := KPc) X2O.out) (by simp) HS.out)
  rw [show papply s [x2] = none by rw [hx2]; exact papply_far (by omega)] at C3
  rw [show [x2].length = 1 from rfl] at C3
  rw [show [x1].length = 1 from rfl] at C2
  unfold apV at C1 C3
  dsimp only at C1 C3
  have e1 : (KPc.cs x1).toArray = #[.bool true, .int .i64 0, .int .i64 s.size, .string ⟨#[]⟩] := by rw [hx1]; rfl
  have e2 : (KPc.cs x2).toArray = #[.bool true, .int .i64 more, .int .i64 s.size, .string ⟨#[]⟩] := by rw [hx2]; rfl
  rw [e1] at C2
  rw [e2] at C3
  clear e1 e2
  rcases Nat.eq_zero_or_pos s.size with hz | hz
  · rw [show papply s [x1] = none by rw [hx1]; exact papply_zero hz] at C2
    unfold apV at C2
    dsimp only at C2
    have t4 : ¬ (0 : Int) < (s.size : Int) := by omega
    have HZ : Hid (s = ByteArray.empty) := Lib.hid ((lit_empty s).2 hz)
    clear hx1 hx2 hz
    go_enter Tryd.func10, Tryd.ntmps10
    go_wp2_with fail
    refine (dlAwake w HL.out).mono ?_
    rintro e w1 ⟨rfl, hb⟩
    have B1 := Lib.hid (B0.out.trans (hb.mono B0.out.size))
    clear hb
    go_wp2_with fail
    refine (C1.out _ B1.out).mono ?_
    rintro e w2 ⟨rfl, hb⟩
    have B2 := Lib.hid (B1.out.trans (hb.mono B1.out.size))
    clear hb
    go_wp2_with fail
    refine (C2.out w2).mono ?_
    rintro e w3 ⟨rfl, hb⟩
    have B3 := Lib.hid ((B2.out.alloc B2.out.size _).trans (hb.mono (B2.out.alloc B2.out.size _).size))
    clear hb
    go_wp2_with fail
    refine (C3.out w3).mono ?_
    rintro e w4 ⟨rfl, hb⟩
    have B4 := Lib.hid ((B3.out.alloc B3.out.size _).trans (hb.mono (B3.out.alloc B3.out.size _).size))
    clear hb
    go_wp2
    all_goals (first | (rename_i hh; exact absurd HZ.out hh) | skip)
    go_ret
    exact ⟨rfl, B4.out⟩
  · rw [show papply s [x1] = some s by rw [hx1]; exact papply_all hz (by omega)] at C2
    unfold apV at C2
    dsimp only at C2
    have t4 : (0 : Int) < (s.size : Int) := by omega
    have h4 : (s.toList == s.toList) = true := (str_beq _ _).2 rfl
    clear hx1 hx2 hz
    go_enter Tryd.func10, Tryd.ntmps10
    go_wp2_with fail
    refine (dlAwake w HL.out).mono ?_
    rintro e w1 ⟨rfl, hb⟩
    have B1 := Lib.hid (B0.out.trans (hb.mono B0.out.size))
    clear hb
    go_wp2_with fail
    refine (C1.out _ B1.out).mono ?_
    rintro e w2 ⟨rfl, hb⟩
    have B2 := Lib.hid (B1.out.trans (hb.mono B1.out.size))
    clear hb
    go_wp2_with fail
    refine (C2.out w2).mono ?_
    rintro e w3 ⟨rfl, hb⟩
    have B3 := Lib.hid ((B2.out.alloc B2.out.size _).trans (hb.mono (B2.out.alloc B2.out.size _).size))
    clear hb
    go_wp2_with fail
    refine (C3.out w3).mono ?_
    rintro e w4 ⟨rfl, hb⟩
    have B4 := Lib.hid ((B3.out.alloc B3.out.size _).trans (hb.mono (B3.out.alloc B3.out.size _).size))
    clear hb
    go_wp2
    go_ret
    exact ⟨rfl, B4.out⟩
end Go.Proofs.YtnencoainacpoaaDoor

