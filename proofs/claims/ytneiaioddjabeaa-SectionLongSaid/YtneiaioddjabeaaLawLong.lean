/-
  The law SectionLong: for every kind and all bytes it answers true, and nothing that was there is written.
-/
import Derived.Test.YtneiaioddjabeaaSecAwake
namespace Go.Proofs.Ytneiaioddjabeaa
open Go.RowKit WM
set_option linter.unusedVariables false
theorem enc_one {n : Int} (h0 : 0 ≤ n) (h1 : n < 128) : enc n = [n] := by
  rw [enc, show n / 128 = 0 by omega, encH_zero, show n % 128 = n by omega]; rfl
theorem enc_two {n : Int} (h0 : 128 ≤ n) (h1 : n < 16384) : (enc n).length = 2 := by
  rw [enc, encH, if_neg (by omega), show n / 128 / 128 = 0 by omega, encH_zero]; rfl
theorem pack_len6 {k : Int} {zs : List Int} (h : zs.length ≤ 127) : (packL k zs).length = zs.length + 6 := by
  rw [pack_len, enc_one (by omega) (by omega), List.length_singleton]; omega
theorem pack_len7 {k : Int} {zs : List Int} (h : 127 < zs.length) (h1 : zs.length ≤ 300) : (packL k zs).length = zs.length + 7 := by
  rw [pack_len, enc_two (by omega) (by omega)]; omega
set_option maxHeartbeats 1000000 in
theorem walk_sectionLong (k : Int) (a1 : Option Addr) (len1 cap1 : Nat) (z1 : List Int) (w : World) (w0 : (Lit.int .i64 k).wf = true) (w1 : IsRow .u8 w a1 len1 cap1 z1) :
    Calls Try.prog 9 #[.int .i64 k, .slice a1 len1 cap1] w fun e w' => e = .returned (.bool true) ∧ Below w.heap.size w w' := by
  obtain ⟨m0, m1⟩ := bounds_i64 w0
  obtain ⟨hby, hlen, hbs, hlc, hcm⟩ := w1.byt
  have hnil := row_nil w1
  simp only [maxLen] at hcm
  clear w0 w1
  generalize z1.take len1 = zs at hby hlen hbs
  have HY := Lib.hid hby
  have HL := Lib.hid hlen
  have HS := Lib.hid hbs
  have HN := Lib.hid hnil
  clear hby hlen hbs hnil
  by_cases hk : 0 ≤ k ∧ k ≤ 9
  · obtain ⟨h0, h9⟩ := hk
    by_cases hbig : 100000 < len1
    · go_enter Try.func9, Try.ntmps9
      go_wp2_with fail
      refine (awake_any _).mono ?_
      rintro e w1 ⟨rfl, hb1⟩
      go_wp2_with fail
      refine (pack_long k a1 len1 cap1 _ h0 h9 hbig (by simp only [maxLen]; omega)).mono ?_
      rintro e w2 ⟨rfl, rfl⟩
      go_wp2
      go_ret
      exact ⟨rfl, hb1⟩
    · have hp := fun (w' : World) (hw : Below w.heap.size w w') => pack_yes k a1 len1 cap1 zs w' h0 h9 (by omega) (HY.out.below hw) HL.out HS.out hw.size HN.out
      have HP := Lib.hid hp
      clear hp
      by_cases h300 : 300 < len1
      · go_enter Try.func9, Try.ntmps9
        go_wp2_with fail
        refine (awake_any _).mono ?_
        rintro e w1 ⟨rfl, hb1⟩
        go_wp2_with fail
        refine (HP.out _ hb1).mono ?_
        rintro e w2 ⟨A, n, c, rfl, hn, hnc, hcm2, hown, hb2⟩
        clear hn hown
        go_wp2
        go_ret
        exact ⟨rfl, hb1.trans (hb2.mono hb1.size)⟩
      · have e0 : (packL k zs).getD 0 0 = k := by simp [packL, packHead]
        by_cases h127 : 127 < len1
        · have hl7 := pack_len7 (k := k) (show 127 < zs.length by rw [HL.out]; exact h127) (by rw [HL.out]; omega)
          rw [HL.out] at hl7
          have HL7 := Lib.hid hl7
          have HE := Lib.hid e0
          clear hl7 e0
          go_enter Try.func9, Try.ntmps9
          go_wp2_with fail
          refine (awake_any _).mono ?_
          rintro e w1 ⟨rfl, hb1⟩
          go_wp2_with fail
          refine (HP.out _ hb1).mono ?_
          rintro e w2 ⟨A, n, c, rfl, hn, hnc, hcm2, hown, hb2⟩
          rw [HL7.out] at hn
          subst hn
          obtain ⟨b, off, rfl, hbb, hc⟩ := Byt.own (zs := packL k zs) hown (fun e => by have := HL7.out; rw [e] at this; simp at this)
          have c0 : w2.cell? ⟨b, off, none⟩ = some (.int .u8 k) := by have := hc 0 (by rw [HL7.out]; omega); rw [HE.out] at this; exact this
          have t1 : ((((len1 + 7 : Nat) : Int)) == (len1 : Int) + 7) = true := by simp
          clear hc hown
          simp only [maxLen] at hcm2
          go_wp2
          go_ret
          exact ⟨rfl, hb1.trans (hb2.mono hb1.size)⟩
        · have hl7 := pack_len6 (k := k) (show zs.length ≤ 127 by rw [HL.out]; omega)
          rw [HL.out] at hl7
          have HL7 := Lib.hid hl7
          have HE := Lib.hid e0
          clear hl7 e0
          go_enter Try.func9, Try.ntmps9
          go_wp2_with fail
          refine (awake_any _).mono ?_
          rintro e w1 ⟨rfl, hb1⟩
          go_wp2_with fail
          refine (HP.out _ hb1).mono ?_
          rintro e w2 ⟨A, n, c, rfl, hn, hnc, hcm2, hown, hb2⟩
          rw [HL7.out] at hn
          subst hn
          obtain ⟨b, off, rfl, hbb, hc⟩ := Byt.own (zs := packL k zs) hown (fun e => by have := HL7.out; rw [e] at this; simp at this)
          have c0 : w2.cell? ⟨b, off, none⟩ = some (.int .u8 k) := by have := hc 0 (by rw [HL7.out]; omega); rw [HE.out] at this; exact this
          have t1 : ((((len1 + 6 : Nat) : Int)) == (len1 : Int) + 6) = true := by simp
          clear hc hown
          simp only [maxLen] at hcm2
          go_wp2
          go_ret
          exact ⟨rfl, hb1.trans (hb2.mono hb1.size)⟩
  · have hk' : k < 0 ∨ 9 < k := by omega
    go_enter Try.func9, Try.ntmps9
    go_wp2_with fail
    refine (awake_any _).mono ?_
    rintro e w1 ⟨rfl, hb1⟩
    go_wp2_with fail
    refine (pack_kind k a1 len1 cap1 _ hk' m0 m1).mono ?_
    rintro e w2 ⟨rfl, rfl⟩
    by_cases h300 : 300 < len1
    · go_wp2
      go_ret
      exact ⟨rfl, hb1⟩
    · go_wp2
      go_ret
      exact ⟨rfl, hb1⟩
end Go.Proofs.Ytneiaioddjabeaa
