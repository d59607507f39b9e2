/-
  The law SectionBack: for every kind, all bytes and whatever stands behind it answers true, and nothing that was there is written.
-/
import Derived.Test.YtneiaioddjabeaaSecAwake
namespace Go.Proofs.Ytneiaioddjabeaa
open Go.RowKit WM
set_option linter.unusedVariables false
set_option maxHeartbeats 4000000 in
theorem walk_sectionBack (k : Int) (a1 : Option Addr) (len1 cap1 : Nat) (z1 : List Int) (a2 : Option Addr) (len2 cap2 : Nat) (z2 : List Int) (w : World) (w0 : (Lit.int .i64 k).wf = true) (w1 : IsRow .u8 w a1 len1 cap1 z1) (w2 : IsRow .u8 w a2 len2 cap2 z2) :
    Calls Try.prog 4 #[.int .i64 k, .slice a1 len1 cap1, .slice a2 len2 cap2] w fun e w' => e = .returned (.bool true) ∧ Below w.heap.size w w' := by
  obtain ⟨m0, m1⟩ := bounds_i64 w0
  obtain ⟨hby, hlen, hbs, hlc, hcm⟩ := w1.byt
  have hnil := row_nil w1
  obtain ⟨hby2, hlen2, hbs2, hlc2, hcm2⟩ := w2.byt
  have hnil2 := row_nil w2
  have HCM := Lib.hid hcm
  simp only [maxLen] at hcm hcm2
  clear w0 w1 w2
  generalize z1.take len1 = zs at hby hlen hbs
  generalize z2.take len2 = rs at hby2 hlen2 hbs2
  have HY := Lib.hid hby
  have HL := Lib.hid hlen
  have HS := Lib.hid hbs
  have HN := Lib.hid hnil
  have RY := Lib.hid hby2
  have RL := Lib.hid hlen2
  have RS := Lib.hid hbs2
  have RN := Lib.hid hnil2
  have HOP := Lib.hid (fun (w' : World) (hw : Below w.heap.size w w') => open_any a1 len1 cap1 zs w' (HY.out.below hw) hw.size HL.out HS.out hlc HCM.out)
  obtain ⟨F, cv, hF⟩ := cvt_ex
  have HF := Lib.hid hF
  have CV := Lib.hid cv
  obtain ⟨i0, hi, hz0, hz1, hz2⟩ := info_parts infoByte
  clear hby hlen hbs hnil hby2 hlen2 hbs2 hnil2 cv hF
  by_cases h400 : 400 < len1
  · go_enter Try.func4, Try.ntmps4
    go_wp2_with (go_at_call 10; refine (awake_any _).mono ?_; rintro e w1 ⟨rfl, hb1⟩)
    go_ret
    exact ⟨rfl, hb1⟩
  by_cases h401 : 400 < len2
  · go_enter Try.func4, Try.ntmps4
    go_wp2_with (go_at_call 10; refine (awake_any _).mono ?_; rintro e w1 ⟨rfl, hb1⟩)
    go_ret
    exact ⟨rfl, hb1⟩
  by_cases hk : 0 ≤ k ∧ k ≤ 9
  · obtain ⟨h0, h9⟩ := hk
    have HP := Lib.hid (fun (w' : World) (hw : Below w.heap.size w w') => pack_yes k a1 len1 cap1 zs w' h0 h9 (by omega) (HY.out.below hw) HL.out HS.out hw.size HN.out)
    have HPB := Lib.hid (pack_bytes h0 h9 HS.out)
    have HOK := Lib.hid (opn_pack k zs rs h9 (by rw [HL.out]; omega))
    have hel := enc_len (zs.length : Int)
    have hpl := pack_len k zs
    rw [HL.out] at hpl hel
    have HPL := Lib.hid hpl
    clear hpl
    generalize packL k zs = P at HP HPB HOK HPL
    generalize (enc len1).length = E at HPL hel
    go_enter Try.func4, Try.ntmps4
    go_wp2_with fail
    refine (awake_any _).mono ?_
    rintro e w1 ⟨rfl, hb1⟩
    go_wp2_with fail
    refine (HP.out _ hb1).mono ?_
    rintro e w2 ⟨A, n, c, rfl, hn, hnc, hcn, hown, hb2⟩
    have bw := hb1.trans (hb2.mono hb1.size)
    have hn9 : n ≤ 415 := by have := HPL.out; omega
    have hy2 := Byt.own (zs := P) hown
    have hnil2 := own_nil hown
    have HN2 := Lib.hid hn
    clear hn hown hb2 HP HN
    simp only [maxLen] at hcn
    go_wp2_with (first
      | (at_builtin; refine wpList_append_byt (o := ⟨some 51, _, _, _, _, _⟩) _ rfl _ _ 22 rfl w2.heap.size 5 i0 Try.underlying22 hi hz0 hz1 hz2 _ 0 [] rfl (World.ownsRow_nil _ _ _ _) w2.heap.size A n c P rfl hy2 HN2.out hnil2 (by omega) (Nat.le_refl _) ?_; intro v3 w3 ho3 hg3; rw [Nat.zero_add, List.nil_append] at ho3; have b3 := bw.grown hg3 bw.size (fun g hg => by cases hg); have b23 := (Below.refl w2.heap.size w2).grown hg3 (Nat.le_refl _) (fun g hg => by cases hg); clear hg3 hy2 hnil2)
      | (at_builtin; refine wpList_append_byt (o := ⟨some 53, _, _, _, _, _⟩) _ rfl _ _ 22 rfl w2.heap.size 5 i0 Try.underlying22 hi hz0 hz1 hz2 _ n P rfl ho3 w.heap.size a2 len2 cap2 rs rfl (RY.out.below b3) RL.out RN.out (by omega) b23.size ?_; intro v4 w4 ho4 hg4; have b4 := b3.grown hg4 b3.size (fun g hg => Nat.le_trans bw.size (own_base ho3 hg)); obtain ⟨A4, n4, c4, hv4, hn4, hnc4, hcm4, ho4', _⟩ := gives_own (w := w2) ho4 (b23.grown hg4 b23.size (fun g hg => own_base ho3 hg)); injection hv4 with hv4; subst hv4; have ho := open_any A4 n4 c4 (P ++ rs) w4 (Byt.own ho4') (Nat.le_refl _) hn4 (all_append HPB.out RS.out) hnc4 hcm4; rw [HOK.out] at ho; have HO4 := Lib.hid ho; clear ho ho4 ho4' hg4 ho3 hn4 b23; simp only [maxLen] at hcm4))
    refine HO4.out.mono ?_
    rintro e w5 ⟨A5, l5, c5, rfl, hl5, hlc5, hcm5, own5, hb5⟩
    have b5 := b4.trans (hb5.mono b4.size)
    obtain rfl : len1 = l5 := by rw [← hl5]; exact HL.out.symm
    have x1 := (Byt.own (zs := zs) own5).text (P := Try.prog) (cap := c5) HL.out 22 5 9 Try.underlying22 Try.underlying5 Try.underlying9
    have x2 := (HY.out.below b5).text (P := Try.prog) (cap := cap1) HL.out 22 5 9 Try.underlying22 Try.underlying5 Try.underlying9
    have hPn := HN2.out
    clear own5 hb5 hl5
    simp only [maxLen] at hcm5
    go_wp2_with fail
    refine (HOP.out _ b5).mono ?_
    intro e w5 h5
    cases hO : opn zs with
    | form =>
      rw [hO] at h5
      obtain ⟨rfl, hb5⟩ := h5
      go_wp2
      go_ret
      exact ⟨rfl, b5.trans (hb5.mono b5.size)⟩
    | check =>
      rw [hO] at h5
      obtain ⟨rfl, hb5⟩ := h5
      go_wp2
      go_ret
      exact ⟨rfl, b5.trans (hb5.mono b5.size)⟩
    | ok k9 b9 n9 =>
      rw [hO] at h5
      obtain ⟨A5, l5, c5, rfl, hl5, hlc5, hcm5, own5, hb5⟩ := h5
      obtain ⟨q1, q2, q3, q4, q5, q6⟩ := opn_ok HS.out hO
      rw [HL.out] at q4
      have HP5 := Lib.hid (pack_yes k9 A5 l5 c5 b9 w5 q1 q2 (by omega) (Byt.own own5) hl5 q6 (Nat.le_refl _) (own_nil own5))
      have b5 := b5.trans (hb5.mono b5.size)
      have HQ := Lib.hid q5
      clear own5 hb5 hl5 q5 q6 hO
      simp only [maxLen] at hcm5
      go_wp2_with fail
      refine HP5.out.mono ?_
      rintro e w6 ⟨A6, n6, c6, rfl, hn6, hnc6, hcm6, own6, hb6⟩
      rw [HQ.out] at hn6 own6
      have b6 := (b5.trans (hb6.mono b5.size)).drew
      have HY6 := Lib.hid (Byt.own (zs := zs.take n9) own6)
      have HN6 := Lib.hid hn6
      have HY7 := Lib.hid (HY.out.take n9)
      have HN7 := Lib.hid (show (zs.take n9).length = n9 by rw [List.length_take, HL.out]; omega)
      have HLE := Lib.hid (show decide ((n9 : Int) ≤ len1) = true by simp; omega)
      have HSL := Lib.hid (sl_h a1 len1 cap1 n9 (by omega) (n9 : Int) rfl)
      clear own6 hn6 HP5 hb6
      simp only [maxLen] at hcm6
      go_wp2_with fail
      have cv := CV.out
      refine wp_region_held_drew (S := fun w' => Below w6.drew.heap.size w6.drew w') (by kernel_rfl) (Below.refl _ _) (fun hS => ?_)
      refine wpAnyH_take (i := 0) (oi := ⟨some 105, _, _, _, _, _⟩) (v := ?_) rfl (by kernel_rfl) (by kernel_rfl) (by kernel_rfl) (fun _ _ _ h => h) (Or.inl ⟨by rfl, ?_⟩) hS ?_; rotate_left; (focus (intro w9 hSw; (try dsimp only at hSw); go_simp; try with_reducible rfl)); simp only [Act.put, List.setIfInBounds_toArray, List.set_cons_zero, List.set_cons_succ]
      refine wpAnyH_take (i := 1) (oi := ⟨some 106, _, _, _, _, _⟩) (v := ?_) rfl (by kernel_rfl) (by kernel_rfl) (by kernel_rfl) (fun _ _ _ h => h) (Or.inl ⟨by rfl, ?_⟩) hS ?_; rotate_left; (focus (intro w9 hSw; (try dsimp only at hSw); go_simp; try with_reducible rfl)); simp only [Act.put, List.setIfInBounds_toArray, List.set_cons_zero, List.set_cons_succ]
      refine wpAnyH_take (i := 2) (oi := ⟨some 107, _, _, _, _, _⟩) (v := ?_) rfl (by kernel_rfl) (by kernel_rfl) (by kernel_rfl) (fun _ _ _ h => h) (Or.inl ⟨by rfl, ?_⟩) hS ?_; rotate_left; (focus (intro w9 hSw; (try dsimp only at hSw); go_simp; try with_reducible rfl)); simp only [Act.put, List.setIfInBounds_toArray, List.set_cons_zero, List.set_cons_succ]
      refine wpAnyH_take (i := 3) (oi := ⟨some 108, _, _, _, _, _⟩) (v := ?_) rfl (by kernel_rfl) (by kernel_rfl) (by kernel_rfl) (fun _ _ _ h => h) (Or.inl ⟨by rfl, ?_⟩) hS ?_; rotate_left; (focus (intro w9 hSw; (try dsimp only at hSw); go_simp; try with_reducible rfl)); simp only [Act.put, List.setIfInBounds_toArray, List.set_cons_zero, List.set_cons_succ]
      refine wpAnyH_take (i := 4) (oi := ⟨some 109, _, _, _, _, _⟩) (v := ?_) rfl (by kernel_rfl) (by kernel_rfl) (by kernel_rfl) (fun _ _ _ h => h) (Or.inl ⟨by rfl, ?_⟩) hS ?_; rotate_left; (focus (intro w9 hSw; (try dsimp only at hSw); go_simp; try with_reducible rfl)); simp only [Act.put, List.setIfInBounds_toArray, List.set_cons_zero, List.set_cons_succ]
      refine wpAnyH_take (i := 5) (oi := ⟨some 110, _, _, _, _, _⟩) (v := ?_) rfl (by kernel_rfl) (by kernel_rfl) (by kernel_rfl) (fun _ _ _ h => h) (Or.inl ⟨by rfl, ?_⟩) hS ?_; rotate_left; (focus (intro w9 hSw; (try dsimp only at hSw); have s9 := HLE.out; go_simp; try with_reducible rfl)); simp only [Act.put, List.setIfInBounds_toArray, List.set_cons_zero, List.set_cons_succ]
      refine wpAnyH_take (i := 6) (oi := ⟨some 111, _, _, _, _, _⟩) (v := ?_) rfl (by kernel_rfl) (by kernel_rfl) (by kernel_rfl) (fun _ _ _ h => h) (Or.inl ⟨by rfl, ?_⟩) hS ?_; rotate_left; (focus (intro w9 hSw; (try dsimp only at hSw); go_simp; try with_reducible rfl)); simp only [Act.put, List.setIfInBounds_toArray, List.set_cons_zero, List.set_cons_succ]
      refine wpAnyH_take (i := 7) (oi := ⟨some 112, _, _, _, _, _⟩) (v := ?_) rfl (by kernel_rfl) (by kernel_rfl) (by kernel_rfl) (fun _ _ _ h => h) (Or.inl ⟨by rfl, ?_⟩) hS ?_; rotate_left; (focus (intro w9 hSw; (try dsimp only at hSw); go_simp; try with_reducible rfl)); simp only [Act.put, List.setIfInBounds_toArray, List.set_cons_zero, List.set_cons_succ]
      refine wpAnyH_take (i := 8) (oi := ⟨some 113, _, _, _, _, _⟩) (v := ?_) rfl (by kernel_rfl) (by kernel_rfl) (by kernel_rfl) (fun _ _ _ h => h) (Or.inl ⟨by rfl, ?_⟩) hS ?_; rotate_left; (focus (intro w9 hSw; (try dsimp only at hSw); go_simp; try with_reducible rfl)); simp only [Act.put, List.setIfInBounds_toArray, List.set_cons_zero, List.set_cons_succ]
      refine wpAnyH_take (i := 9) (oi := ⟨some 114, _, _, _, _, _⟩) (v := ?_) rfl (by kernel_rfl) (by kernel_rfl) (by kernel_rfl) (fun _ _ _ h => h) (Or.inl ⟨by rfl, ?_⟩) hS ?_; rotate_left; (focus (intro w9 hSw; (try dsimp only at hSw); have t9 := HF.out w9 _ _ _ (HY6.out.below ((Below.refl w6.heap.size w6).drew.trans hSw)) n6 c6 HN6.out; go_simp; try with_reducible rfl)); simp only [Act.put, List.setIfInBounds_toArray, List.set_cons_zero, List.set_cons_succ]
      refine wpAnyH_take (i := 10) (oi := ⟨some 115, _, _, _, _, _⟩) (v := ?_) rfl (by kernel_rfl) (by kernel_rfl) (by kernel_rfl) (fun _ _ _ h => h) (Or.inl ⟨by rfl, ?_⟩) hS ?_; rotate_left; (focus (intro w9 hSw; (try dsimp only at hSw); go_simp; try with_reducible rfl)); simp only [Act.put, List.setIfInBounds_toArray, List.set_cons_zero, List.set_cons_succ]
      refine wpAnyH_take (i := 11) (oi := ⟨some 116, _, _, _, _, _⟩) (v := ?_) rfl (by kernel_rfl) (by kernel_rfl) (by kernel_rfl) (fun _ _ _ h => h) (Or.inl ⟨by rfl, ?_⟩) hS ?_; rotate_left; (focus (intro w9 hSw; (try dsimp only at hSw); go_simp; try with_reducible rfl)); simp only [Act.put, List.setIfInBounds_toArray, List.set_cons_zero, List.set_cons_succ]
      refine wpAnyH_take (i := 12) (oi := ⟨some 117, _, _, _, _, _⟩) (v := ?_) rfl (by kernel_rfl) (by kernel_rfl) (by kernel_rfl) (fun _ _ _ h => h) (Or.inl ⟨by rfl, ?_⟩) hS ?_; rotate_left; (focus (intro w9 hSw; (try dsimp only at hSw); have s9 := HSL.out w9; go_simp; try with_reducible rfl)); simp only [Act.put, List.setIfInBounds_toArray, List.set_cons_zero, List.set_cons_succ]
      refine wpAnyH_take (i := 13) (oi := ⟨some 118, _, _, _, _, _⟩) (v := ?_) rfl (by kernel_rfl) (by kernel_rfl) (by kernel_rfl) (fun _ _ _ h => h) (Or.inl ⟨by rfl, ?_⟩) hS ?_; rotate_left; (focus (intro w9 hSw; (try dsimp only at hSw); have t9 := HF.out w9 _ _ _ ((HY7.out.below (b6.trans (hSw.mono b6.size)))) n9 cap1 HN7.out; go_simp; try with_reducible rfl)); simp only [Act.put, List.setIfInBounds_toArray, List.set_cons_zero, List.set_cons_succ]
      refine wpAnyH_take (i := 14) (oi := ⟨some 119, _, _, _, _, _⟩) (v := ?_) rfl (by kernel_rfl) (by kernel_rfl) (by kernel_rfl) (fun _ _ _ h => h) (Or.inl ⟨by rfl, ?_⟩) hS ?_; rotate_left; (focus (intro w9 hSw; (try dsimp only at hSw); go_simp; try with_reducible rfl)); simp only [Act.put, List.setIfInBounds_toArray, List.set_cons_zero, List.set_cons_succ]
      refine wpAnyH_take (i := 15) (oi := ⟨some 120, _, _, _, _, _⟩) (v := ?_) rfl (by kernel_rfl) (by kernel_rfl) (by kernel_rfl) (fun _ _ _ h => h) (Or.inl ⟨by rfl, ?_⟩) hS ?_; rotate_left; (focus (intro w9 hSw; (try dsimp only at hSw); go_simp; try with_reducible rfl)); simp only [Act.put, List.setIfInBounds_toArray, List.set_cons_zero, List.set_cons_succ]
      refine wpAnyH_take (i := 16) (oi := ⟨some 6, _, _, _, _, _⟩) (v := ?_) rfl (by kernel_rfl) (by kernel_rfl) (by kernel_rfl) (fun _ _ _ h => h) (Or.inl ⟨by rfl, ?_⟩) hS ?_; rotate_left; (focus (intro w9 hSw; (try dsimp only at hSw); go_simp; try with_reducible rfl)); simp only [Act.put, List.setIfInBounds_toArray, List.set_cons_zero, List.set_cons_succ]
      refine wpAnyH_done (by kernel_rfl) ?_ _
      clear cv hS
      go_wp2
      go_ret
      exact ⟨rfl, b6⟩
  · have hk' : k < 0 ∨ 9 < k := by omega
    have hkt : (decide (0 ≤ k) && decide (k ≤ 9)) = false := by simp; omega
    go_enter Try.func4, Try.ntmps4
    go_wp2_with fail
    refine (awake_any _).mono ?_
    rintro e w1 ⟨rfl, hb1⟩
    go_wp2_with fail
    refine (pack_kind k a1 len1 cap1 _ hk' m0 m1).mono ?_
    rintro e w2 ⟨rfl, rfl⟩
    rcases hk' with hk' | hk'
    · have hk0 : ¬ 0 ≤ k := by omega
      go_wp2_with fail
      refine (HOP.out _ hb1).mono ?_
      intro e w5 h5
      cases hO : opn zs with
      | form =>
        rw [hO] at h5
        obtain ⟨rfl, hb5⟩ := h5
        go_wp2
        go_ret
        exact ⟨rfl, hb1.trans (hb5.mono hb1.size)⟩
      | check =>
        rw [hO] at h5
        obtain ⟨rfl, hb5⟩ := h5
        go_wp2
        go_ret
        exact ⟨rfl, hb1.trans (hb5.mono hb1.size)⟩
      | ok k9 b9 n9 =>
        rw [hO] at h5
        obtain ⟨A5, l5, c5, rfl, hl5, hlc5, hcm5, own5, hb5⟩ := h5
        obtain ⟨q1, q2, q3, q4, q5, q6⟩ := opn_ok HS.out hO
        rw [HL.out] at q4
        have HP5 := Lib.hid (pack_yes k9 A5 l5 c5 b9 w5 q1 q2 (by omega) (Byt.own own5) hl5 q6 (Nat.le_refl _) (own_nil own5))
        have b5 := hb1.trans (hb5.mono hb1.size)
        have HQ := Lib.hid q5
        clear own5 hb5 hl5 q5 q6 hO
        simp only [maxLen] at hcm5
        go_wp2_with fail
        refine HP5.out.mono ?_
        rintro e w6 ⟨A6, n6, c6, rfl, hn6, hnc6, hcm6, own6, hb6⟩
        rw [HQ.out] at hn6 own6
        have b6 := (b5.trans (hb6.mono b5.size)).drew
        have HY6 := Lib.hid (Byt.own (zs := zs.take n9) own6)
        have HN6 := Lib.hid hn6
        have HY7 := Lib.hid (HY.out.take n9)
        have HN7 := Lib.hid (show (zs.take n9).length = n9 by rw [List.length_take, HL.out]; omega)
        have HLE := Lib.hid (show decide ((n9 : Int) ≤ len1) = true by simp; omega)
        have HSL := Lib.hid (sl_h a1 len1 cap1 n9 (by omega) (n9 : Int) rfl)
        clear own6 hn6 HP5 hb6
        simp only [maxLen] at hcm6
        go_wp2_with fail
        have cv := CV.out
        refine wp_region_held_drew (S := fun w' => Below w6.drew.heap.size w6.drew w') (by kernel_rfl) (Below.refl _ _) (fun hS => ?_)
        refine wpAnyH_take (i := 0) (oi := ⟨some 105, _, _, _, _, _⟩) (v := ?_) rfl (by kernel_rfl) (by kernel_rfl) (by kernel_rfl) (fun _ _ _ h => h) (Or.inl ⟨by rfl, ?_⟩) hS ?_; rotate_left; (focus (intro w9 hSw; (try dsimp only at hSw); go_simp; try with_reducible rfl)); simp only [Act.put, List.setIfInBounds_toArray, List.set_cons_zero, List.set_cons_succ]
        refine wpAnyH_take (i := 1) (oi := ⟨some 106, _, _, _, _, _⟩) (v := ?_) rfl (by kernel_rfl) (by kernel_rfl) (by kernel_rfl) (fun _ _ _ h => h) (Or.inl ⟨by rfl, ?_⟩) hS ?_; rotate_left; (focus (intro w9 hSw; (try dsimp only at hSw); go_simp; try with_reducible rfl)); simp only [Act.put, List.setIfInBounds_toArray, List.set_cons_zero, List.set_cons_succ]
        refine wpAnyH_take (i := 2) (oi := ⟨some 107, _, _, _, _, _⟩) (v := ?_) rfl (by kernel_rfl) (by kernel_rfl) (by kernel_rfl) (fun _ _ _ h => h) (Or.inl ⟨by rfl, ?_⟩) hS ?_; rotate_left; (focus (intro w9 hSw; (try dsimp only at hSw); go_simp; try with_reducible rfl)); simp only [Act.put, List.setIfInBounds_toArray, List.set_cons_zero, List.set_cons_succ]
        refine wpAnyH_take (i := 3) (oi := ⟨some 108, _, _, _, _, _⟩) (v := ?_) rfl (by kernel_rfl) (by kernel_rfl) (by kernel_rfl) (fun _ _ _ h => h) (Or.inl ⟨by rfl, ?_⟩) hS ?_; rotate_left; (focus (intro w9 hSw; (try dsimp only at hSw); go_simp; try with_reducible rfl)); simp only [Act.put, List.setIfInBounds_toArray, List.set_cons_zero, List.set_cons_succ]
        refine wpAnyH_take (i := 4) (oi := ⟨some 109, _, _, _, _, _⟩) (v := ?_) rfl (by kernel_rfl) (by kernel_rfl) (by kernel_rfl) (fun _ _ _ h => h) (Or.inl ⟨by rfl, ?_⟩) hS ?_; rotate_left; (focus (intro w9 hSw; (try dsimp only at hSw); go_simp; try with_reducible rfl)); simp only [Act.put, List.setIfInBounds_toArray, List.set_cons_zero, List.set_cons_succ]
        refine wpAnyH_take (i := 5) (oi := ⟨some 110, _, _, _, _, _⟩) (v := ?_) rfl (by kernel_rfl) (by kernel_rfl) (by kernel_rfl) (fun _ _ _ h => h) (Or.inl ⟨by rfl, ?_⟩) hS ?_; rotate_left; (focus (intro w9 hSw; (try dsimp only at hSw); have s9 := HLE.out; go_simp; try with_reducible rfl)); simp only [Act.put, List.setIfInBounds_toArray, List.set_cons_zero, List.set_cons_succ]
        refine wpAnyH_take (i := 6) (oi := ⟨some 111, _, _, _, _, _⟩) (v := ?_) rfl (by kernel_rfl) (by kernel_rfl) (by kernel_rfl) (fun _ _ _ h => h) (Or.inl ⟨by rfl, ?_⟩) hS ?_; rotate_left; (focus (intro w9 hSw; (try dsimp only at hSw); go_simp; try with_reducible rfl)); simp only [Act.put, List.setIfInBounds_toArray, List.set_cons_zero, List.set_cons_succ]
        refine wpAnyH_take (i := 7) (oi := ⟨some 112, _, _, _, _, _⟩) (v := ?_) rfl (by kernel_rfl) (by kernel_rfl) (by kernel_rfl) (fun _ _ _ h => h) (Or.inl ⟨by rfl, ?_⟩) hS ?_; rotate_left; (focus (intro w9 hSw; (try dsimp only at hSw); go_simp; try with_reducible rfl)); simp only [Act.put, List.setIfInBounds_toArray, List.set_cons_zero, List.set_cons_succ]
        refine wpAnyH_take (i := 8) (oi := ⟨some 113, _, _, _, _, _⟩) (v := ?_) rfl (by kernel_rfl) (by kernel_rfl) (by kernel_rfl) (fun _ _ _ h => h) (Or.inl ⟨by rfl, ?_⟩) hS ?_; rotate_left; (focus (intro w9 hSw; (try dsimp only at hSw); go_simp; try with_reducible rfl)); simp only [Act.put, List.setIfInBounds_toArray, List.set_cons_zero, List.set_cons_succ]
        refine wpAnyH_take (i := 9) (oi := ⟨some 114, _, _, _, _, _⟩) (v := ?_) rfl (by kernel_rfl) (by kernel_rfl) (by kernel_rfl) (fun _ _ _ h => h) (Or.inl ⟨by rfl, ?_⟩) hS ?_; rotate_left; (focus (intro w9 hSw; (try dsimp only at hSw); have t9 := HF.out w9 _ _ _ (HY6.out.below ((Below.refl w6.heap.size w6).drew.trans hSw)) n6 c6 HN6.out; go_simp; try with_reducible rfl)); simp only [Act.put, List.setIfInBounds_toArray, List.set_cons_zero, List.set_cons_succ]
        refine wpAnyH_take (i := 10) (oi := ⟨some 115, _, _, _, _, _⟩) (v := ?_) rfl (by kernel_rfl) (by kernel_rfl) (by kernel_rfl) (fun _ _ _ h => h) (Or.inl ⟨by rfl, ?_⟩) hS ?_; rotate_left; (focus (intro w9 hSw; (try dsimp only at hSw); go_simp; try with_reducible rfl)); simp only [Act.put, List.setIfInBounds_toArray, List.set_cons_zero, List.set_cons_succ]
        refine wpAnyH_take (i := 11) (oi := ⟨some 116, _, _, _, _, _⟩) (v := ?_) rfl (by kernel_rfl) (by kernel_rfl) (by kernel_rfl) (fun _ _ _ h => h) (Or.inl ⟨by rfl, ?_⟩) hS ?_; rotate_left; (focus (intro w9 hSw; (try dsimp only at hSw); go_simp; try with_reducible rfl)); simp only [Act.put, List.setIfInBounds_toArray, List.set_cons_zero, List.set_cons_succ]
        refine wpAnyH_take (i := 12) (oi := ⟨some 117, _, _, _, _, _⟩) (v := ?_) rfl (by kernel_rfl) (by kernel_rfl) (by kernel_rfl) (fun _ _ _ h => h) (Or.inl ⟨by rfl, ?_⟩) hS ?_; rotate_left; (focus (intro w9 hSw; (try dsimp only at hSw); have s9 := HSL.out w9; go_simp; try with_reducible rfl)); simp only [Act.put, List.setIfInBounds_toArray, List.set_cons_zero, List.set_cons_succ]
        refine wpAnyH_take (i := 13) (oi := ⟨some 118, _, _, _, _, _⟩) (v := ?_) rfl (by kernel_rfl) (by kernel_rfl) (by kernel_rfl) (fun _ _ _ h => h) (Or.inl ⟨by rfl, ?_⟩) hS ?_; rotate_left; (focus (intro w9 hSw; (try dsimp only at hSw); have t9 := HF.out w9 _ _ _ ((HY7.out.below (b6.trans (hSw.mono b6.size)))) n9 cap1 HN7.out; go_simp; try with_reducible rfl)); simp only [Act.put, List.setIfInBounds_toArray, List.set_cons_zero, List.set_cons_succ]
        refine wpAnyH_take (i := 14) (oi := ⟨some 119, _, _, _, _, _⟩) (v := ?_) rfl (by kernel_rfl) (by kernel_rfl) (by kernel_rfl) (fun _ _ _ h => h) (Or.inl ⟨by rfl, ?_⟩) hS ?_; rotate_left; (focus (intro w9 hSw; (try dsimp only at hSw); go_simp; try with_reducible rfl)); simp only [Act.put, List.setIfInBounds_toArray, List.set_cons_zero, List.set_cons_succ]
        refine wpAnyH_take (i := 15) (oi := ⟨some 120, _, _, _, _, _⟩) (v := ?_) rfl (by kernel_rfl) (by kernel_rfl) (by kernel_rfl) (fun _ _ _ h => h) (Or.inl ⟨by rfl, ?_⟩) hS ?_; rotate_left; (focus (intro w9 hSw; (try dsimp only at hSw); go_simp; try with_reducible rfl)); simp only [Act.put, List.setIfInBounds_toArray, List.set_cons_zero, List.set_cons_succ]
        refine wpAnyH_take (i := 16) (oi := ⟨some 6, _, _, _, _, _⟩) (v := ?_) rfl (by kernel_rfl) (by kernel_rfl) (by kernel_rfl) (fun _ _ _ h => h) (Or.inl ⟨by rfl, ?_⟩) hS ?_; rotate_left; (focus (intro w9 hSw; (try dsimp only at hSw); go_simp; try with_reducible rfl)); simp only [Act.put, List.setIfInBounds_toArray, List.set_cons_zero, List.set_cons_succ]
        refine wpAnyH_done (by kernel_rfl) ?_ _
        clear cv hS
        go_wp2
        go_ret
        exact ⟨rfl, b6⟩
    · have hk0 : 0 ≤ k := by omega
      go_wp2_with fail
      refine (HOP.out _ hb1).mono ?_
      intro e w5 h5
      cases hO : opn zs with
      | form =>
        rw [hO] at h5
        obtain ⟨rfl, hb5⟩ := h5
        go_wp2
        go_ret
        exact ⟨rfl, hb1.trans (hb5.mono hb1.size)⟩
      | check =>
        rw [hO] at h5
        obtain ⟨rfl, hb5⟩ := h5
        go_wp2
        go_ret
        exact ⟨rfl, hb1.trans (hb5.mono hb1.size)⟩
      | ok k9 b9 n9 =>
        rw [hO] at h5
        obtain ⟨A5, l5, c5, rfl, hl5, hlc5, hcm5, own5, hb5⟩ := h5
        obtain ⟨q1, q2, q3, q4, q5, q6⟩ := opn_ok HS.out hO
        rw [HL.out] at q4
        have HP5 := Lib.hid (pack_yes k9 A5 l5 c5 b9 w5 q1 q2 (by omega) (Byt.own own5) hl5 q6 (Nat.le_refl _) (own_nil own5))
        have b5 := hb1.trans (hb5.mono hb1.size)
        have HQ := Lib.hid q5
        clear own5 hb5 hl5 q5 q6 hO
        simp only [maxLen] at hcm5
        go_wp2_with fail
        refine HP5.out.mono ?_
        rintro e w6 ⟨A6, n6, c6, rfl, hn6, hnc6, hcm6, own6, hb6⟩
        rw [HQ.out] at hn6 own6
        have b6 := (b5.trans (hb6.mono b5.size)).drew
        have HY6 := Lib.hid (Byt.own (zs := zs.take n9) own6)
        have HN6 := Lib.hid hn6
        have HY7 := Lib.hid (HY.out.take n9)
        have HN7 := Lib.hid (show (zs.take n9).length = n9 by rw [List.length_take, HL.out]; omega)
        have HLE := Lib.hid (show decide ((n9 : Int) ≤ len1) = true by simp; omega)
        have HSL := Lib.hid (sl_h a1 len1 cap1 n9 (by omega) (n9 : Int) rfl)
        clear own6 hn6 HP5 hb6
        simp only [maxLen] at hcm6
        go_wp2_with fail
        have cv := CV.out
        refine wp_region_held_drew (S := fun w' => Below w6.drew.heap.size w6.drew w') (by kernel_rfl) (Below.refl _ _) (fun hS => ?_)
        refine wpAnyH_take (i := 0) (oi := ⟨some 105, _, _, _, _, _⟩) (v := ?_) rfl (by kernel_rfl) (by kernel_rfl) (by kernel_rfl) (fun _ _ _ h => h) (Or.inl ⟨by rfl, ?_⟩) hS ?_; rotate_left; (focus (intro w9 hSw; (try dsimp only at hSw); go_simp; try with_reducible rfl)); simp only [Act.put, List.setIfInBounds_toArray, List.set_cons_zero, List.set_cons_succ]
        refine wpAnyH_take (i := 1) (oi := ⟨some 106, _, _, _, _, _⟩) (v := ?_) rfl (by kernel_rfl) (by kernel_rfl) (by kernel_rfl) (fun _ _ _ h => h) (Or.inl ⟨by rfl, ?_⟩) hS ?_; rotate_left; (focus (intro w9 hSw; (try dsimp only at hSw); go_simp; try with_reducible rfl)); simp only [Act.put, List.setIfInBounds_toArray, List.set_cons_zero, List.set_cons_succ]
        refine wpAnyH_take (i := 2) (oi := ⟨some 107, _, _, _, _, _⟩) (v := ?_) rfl (by kernel_rfl) (by kernel_rfl) (by kernel_rfl) (fun _ _ _ h => h) (Or.inl ⟨by rfl, ?_⟩) hS ?_; rotate_left; (focus (intro w9 hSw; (try dsimp only at hSw); go_simp; try with_reducible rfl)); simp only [Act.put, List.setIfInBounds_toArray, List.set_cons_zero, List.set_cons_succ]
        refine wpAnyH_take (i := 3) (oi := ⟨some 108, _, _, _, _, _⟩) (v := ?_) rfl (by kernel_rfl) (by kernel_rfl) (by kernel_rfl) (fun _ _ _ h => h) (Or.inl ⟨by rfl, ?_⟩) hS ?_; rotate_left; (focus (intro w9 hSw; (try dsimp only at hSw); go_simp; try with_reducible rfl)); simp only [Act.put, List.setIfInBounds_toArray, List.set_cons_zero, List.set_cons_succ]
        refine wpAnyH_take (i := 4) (oi := ⟨some 109, _, _, _, _, _⟩) (v := ?_) rfl (by kernel_rfl) (by kernel_rfl) (by kernel_rfl) (fun _ _ _ h => h) (Or.inl ⟨by rfl, ?_⟩) hS ?_; rotate_left; (focus (intro w9 hSw; (try dsimp only at hSw); go_simp; try with_reducible rfl)); simp only [Act.put, List.setIfInBounds_toArray, List.set_cons_zero, List.set_cons_succ]
        refine wpAnyH_take (i := 5) (oi := ⟨some 110, _, _, _, _, _⟩) (v := ?_) rfl (by kernel_rfl) (by kernel_rfl) (by kernel_rfl) (fun _ _ _ h => h) (Or.inl ⟨by rfl, ?_⟩) hS ?_; rotate_left; (focus (intro w9 hSw; (try dsimp only at hSw); have s9 := HLE.out; go_simp; try with_reducible rfl)); simp only [Act.put, List.setIfInBounds_toArray, List.set_cons_zero, List.set_cons_succ]
        refine wpAnyH_take (i := 6) (oi := ⟨some 111, _, _, _, _, _⟩) (v := ?_) rfl (by kernel_rfl) (by kernel_rfl) (by kernel_rfl) (fun _ _ _ h => h) (Or.inl ⟨by rfl, ?_⟩) hS ?_; rotate_left; (focus (intro w9 hSw; (try dsimp only at hSw); go_simp; try with_reducible rfl)); simp only [Act.put, List.setIfInBounds_toArray, List.set_cons_zero, List.set_cons_succ]
        refine wpAnyH_take (i := 7) (oi := ⟨some 112, _, _, _, _, _⟩) (v := ?_) rfl (by kernel_rfl) (by kernel_rfl) (by kernel_rfl) (fun _ _ _ h => h) (Or.inl ⟨by rfl, ?_⟩) hS ?_; rotate_left; (focus (intro w9 hSw; (try dsimp only at hSw); go_simp; try with_reducible rfl)); simp only [Act.put, List.setIfInBounds_toArray, List.set_cons_zero, List.set_cons_succ]
        refine wpAnyH_take (i := 8) (oi := ⟨some 113, _, _, _, _, _⟩) (v := ?_) rfl (by kernel_rfl) (by kernel_rfl) (by kernel_rfl) (fun _ _ _ h => h) (Or.inl ⟨by rfl, ?_⟩) hS ?_; rotate_left; (focus (intro w9 hSw; (try dsimp only at hSw); go_simp; try with_reducible rfl)); simp only [Act.put, List.setIfInBounds_toArray, List.set_cons_zero, List.set_cons_succ]
        refine wpAnyH_take (i := 9) (oi := ⟨some 114, _, _, _, _, _⟩) (v := ?_) rfl (by kernel_rfl) (by kernel_rfl) (by kernel_rfl) (fun _ _ _ h => h) (Or.inl ⟨by rfl, ?_⟩) hS ?_; rotate_left; (focus (intro w9 hSw; (try dsimp only at hSw); have t9 := HF.out w9 _ _ _ (HY6.out.below ((Below.refl w6.heap.size w6).drew.trans hSw)) n6 c6 HN6.out; go_simp; try with_reducible rfl)); simp only [Act.put, List.setIfInBounds_toArray, List.set_cons_zero, List.set_cons_succ]
        refine wpAnyH_take (i := 10) (oi := ⟨some 115, _, _, _, _, _⟩) (v := ?_) rfl (by kernel_rfl) (by kernel_rfl) (by kernel_rfl) (fun _ _ _ h => h) (Or.inl ⟨by rfl, ?_⟩) hS ?_; rotate_left; (focus (intro w9 hSw; (try dsimp only at hSw); go_simp; try with_reducible rfl)); simp only [Act.put, List.setIfInBounds_toArray, List.set_cons_zero, List.set_cons_succ]
        refine wpAnyH_take (i := 11) (oi := ⟨some 116, _, _, _, _, _⟩) (v := ?_) rfl (by kernel_rfl) (by kernel_rfl) (by kernel_rfl) (fun _ _ _ h => h) (Or.inl ⟨by rfl, ?_⟩) hS ?_; rotate_left; (focus (intro w9 hSw; (try dsimp only at hSw); go_simp; try with_reducible rfl)); simp only [Act.put, List.setIfInBounds_toArray, List.set_cons_zero, List.set_cons_succ]
        refine wpAnyH_take (i := 12) (oi := ⟨some 117, _, _, _, _, _⟩) (v := ?_) rfl (by kernel_rfl) (by kernel_rfl) (by kernel_rfl) (fun _ _ _ h => h) (Or.inl ⟨by rfl, ?_⟩) hS ?_; rotate_left; (focus (intro w9 hSw; (try dsimp only at hSw); have s9 := HSL.out w9; go_simp; try with_reducible rfl)); simp only [Act.put, List.setIfInBounds_toArray, List.set_cons_zero, List.set_cons_succ]
        refine wpAnyH_take (i := 13) (oi := ⟨some 118, _, _, _, _, _⟩) (v := ?_) rfl (by kernel_rfl) (by kernel_rfl) (by kernel_rfl) (fun _ _ _ h => h) (Or.inl ⟨by rfl, ?_⟩) hS ?_; rotate_left; (focus (intro w9 hSw; (try dsimp only at hSw); have t9 := HF.out w9 _ _ _ ((HY7.out.below (b6.trans (hSw.mono b6.size)))) n9 cap1 HN7.out; go_simp; try with_reducible rfl)); simp only [Act.put, List.setIfInBounds_toArray, List.set_cons_zero, List.set_cons_succ]
        refine wpAnyH_take (i := 14) (oi := ⟨some 119, _, _, _, _, _⟩) (v := ?_) rfl (by kernel_rfl) (by kernel_rfl) (by kernel_rfl) (fun _ _ _ h => h) (Or.inl ⟨by rfl, ?_⟩) hS ?_; rotate_left; (focus (intro w9 hSw; (try dsimp only at hSw); go_simp; try with_reducible rfl)); simp only [Act.put, List.setIfInBounds_toArray, List.set_cons_zero, List.set_cons_succ]
        refine wpAnyH_take (i := 15) (oi := ⟨some 120, _, _, _, _, _⟩) (v := ?_) rfl (by kernel_rfl) (by kernel_rfl) (by kernel_rfl) (fun _ _ _ h => h) (Or.inl ⟨by rfl, ?_⟩) hS ?_; rotate_left; (focus (intro w9 hSw; (try dsimp only at hSw); go_simp; try with_reducible rfl)); simp only [Act.put, List.setIfInBounds_toArray, List.set_cons_zero, List.set_cons_succ]
        refine wpAnyH_take (i := 16) (oi := ⟨some 6, _, _, _, _, _⟩) (v := ?_) rfl (by kernel_rfl) (by kernel_rfl) (by kernel_rfl) (fun _ _ _ h => h) (Or.inl ⟨by rfl, ?_⟩) hS ?_; rotate_left; (focus (intro w9 hSw; (try dsimp only at hSw); go_simp; try with_reducible rfl)); simp only [Act.put, List.setIfInBounds_toArray, List.set_cons_zero, List.set_cons_succ]
        refine wpAnyH_done (by kernel_rfl) ?_ _
        clear cv hS
        go_wp2
        go_ret
        exact ⟨rfl, b6⟩
end Go.Proofs.Ytneiaioddjabeaa
