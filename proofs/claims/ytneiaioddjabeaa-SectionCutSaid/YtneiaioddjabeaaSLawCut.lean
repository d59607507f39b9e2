/-
  The law SectionCut: for every kind, all bytes and every place it answers true, and nothing that was there is written.
-/
import Derived.Test.YtneiaioddjabeaaSecAwake
namespace Go.Proofs.Ytneiaioddjabeaa
open Go.RowKit WM
set_option linter.unusedVariables false
set_option maxHeartbeats 1000000 in
theorem walk_sectionCut (k : Int) (a1 : Option Addr) (len1 cap1 : Nat) (z1 : List Int) (t : Int) (w : World) (w0 : (Lit.int .i64 k).wf = true) (w1 : IsRow .u8 w a1 len1 cap1 z1) (w2 : (Lit.int .i64 t).wf = true) :
    Calls Try.prog 6 #[.int .i64 k, .slice a1 len1 cap1, .int .i64 t] w fun e w' => e = .returned (.bool true) ∧ Below w.heap.size w w' := by
  obtain ⟨m0, m1⟩ := bounds_i64 w0
  obtain ⟨t0, t1⟩ := bounds_i64 w2
  obtain ⟨hby, hlen, hbs, hlc, hcm⟩ := w1.byt
  have hnil := row_nil w1
  simp only [maxLen] at hcm
  clear w0 w1 w2
  generalize z1.take len1 = zs at hby hlen hbs
  have HY := Lib.hid hby
  have HL := Lib.hid hlen
  have HS := Lib.hid hbs
  have HN := Lib.hid hnil
  clear hby hlen hbs hnil
  by_cases hk : 0 ≤ k ∧ k ≤ 9
  · obtain ⟨h0, h9⟩ := hk
    by_cases hbig : 100000 < len1
    · go_enter Try.func6, Try.ntmps6
      go_wp2_with fail
      refine (awake_any _).mono ?_
      rintro e w1 ⟨rfl, hb1⟩
      go_wp2_with fail
      refine (pack_long k a1 len1 cap1 _ h0 h9 hbig (by simp only [maxLen]; omega)).mono ?_
      rintro e w2 ⟨rfl, rfl⟩
      go_wp2
      go_ret
      exact ⟨rfl, hb1⟩
    · have hp := fun (w' : World) (hw : Below w.heap.size w w') => pack_yes k a1 len1 cap1 zs w' h0 h9 (by omega) (HY.out.below hw) HL.out HS.out hw.size HN.out
      have HP := Lib.hid hp
      have HB := Lib.hid (pack_bytes h0 h9 HS.out)
      have HC := Lib.hid (fun (i : Nat) (hi : i < (packL k zs).length) => opn_cut (k := k) (b := zs) h9 (by rw [HL.out]; omega) hi)
      clear hp
      by_cases h300 : 300 < len1
      · go_enter Try.func6, Try.ntmps6
        go_wp2_with fail
        refine (awake_any _).mono ?_
        rintro e w1 ⟨rfl, hb1⟩
        go_wp2_with fail
        refine (HP.out _ hb1).mono ?_
        rintro e w2 ⟨A, n, c, rfl, hn, hnc, hcm2, hown, hb2⟩
        clear hn hown
        go_wp2
        go_ret
        exact ⟨rfl, hb1.trans (hb2.mono hb1.size)⟩
      · generalize packL k zs = P at HP HB HC
        go_enter Try.func6, Try.ntmps6
        go_wp2_with fail
        refine (awake_any _).mono ?_
        rintro e w1 ⟨rfl, hb1⟩
        go_wp2_with fail
        refine (HP.out _ hb1).mono ?_
        rintro e w2 ⟨A, n, c, rfl, hn, hnc, hcm2, hown, hb2⟩
        have bw := hb1.trans (hb2.mono hb1.size)
        have hy := Lib.hid (Byt.own (zs := P) hown)
        have HN2 := Lib.hid hn
        have HCM := Lib.hid hcm2
        clear hn hown hb2 HP HN HY
        simp only [maxLen] at hcm2
        by_cases ht0 : t < 0
        · go_wp2
          go_ret
          exact ⟨rfl, bw⟩
        · obtain ⟨T, rfl⟩ : ∃ T : Nat, t = T := ⟨t.toNat, by omega⟩
          by_cases htn : n ≤ T
          · go_wp2
            go_ret
            exact ⟨rfl, bw⟩
          · have ho := open_any A T c (P.take T) w2 (hy.out.take T) (Nat.le_refl _) (by rw [List.length_take, HN2.out]; omega) (all_take HB.out T) (by omega) HCM.out
            rw [HC.out T (by rw [HN2.out]; omega)] at ho
            have HO := Lib.hid ho
            have hsl := sl_h A n c T (by omega) (T : Int) rfl
            clear ho hy
            go_wp2_with fail
            refine HO.out.mono ?_
            rintro e w3 ⟨rfl, hb3⟩
            go_wp2
            go_ret
            exact ⟨rfl, bw.trans (hb3.mono bw.size)⟩
  · have hk' : k < 0 ∨ 9 < k := by omega
    go_enter Try.func6, Try.ntmps6
    go_wp2_with fail
    refine (awake_any _).mono ?_
    rintro e w1 ⟨rfl, hb1⟩
    go_wp2_with fail
    refine (pack_kind k a1 len1 cap1 _ hk' m0 m1).mono ?_
    rintro e w2 ⟨rfl, rfl⟩
    go_wp2
    go_ret
    exact ⟨rfl, hb1⟩
end Go.Proofs.Ytneiaioddjabeaa
