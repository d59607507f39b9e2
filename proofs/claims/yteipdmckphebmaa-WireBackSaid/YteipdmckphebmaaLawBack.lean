/-
  The law WireBack: for every number and all bytes it answers true, and nothing that was there is written.
-/
import Derived.Test.YteipdmckphebmaaAwake
import Derived.Deep.RegionHeld3
namespace Go.Proofs.Yteipdmckphebmaa
open Go.RowKit WM
set_option linter.unusedVariables false
set_option maxHeartbeats 1000000 in
theorem walk_wireBack (n : Int) (a1 : Option Addr) (len1 cap1 : Nat) (z1 : List Int) (w : World) (w0 : (Lit.int .u64 n).wf = true) (w1 : IsRow .u8 w a1 len1 cap1 z1) :
    Calls Try.prog 4 #[.int .u64 n, .slice a1 len1 cap1] w fun e w' => e = .returned (.bool true) ∧ Below w.heap.size w w' := by
  obtain ⟨h0, h1⟩ := bounds_u64 w0
  obtain ⟨hby, hlen, hbs, hlc, hcm⟩ := w1.byt
  have hnil1 := Lib.hid (row_nil w1)
  clear w0 w1
  generalize z1.take len1 = zs at hby hlen hbs
  by_cases h100 : len1 ≤ 100
  · obtain ⟨i0, hi, hz0, hz1, hz2⟩ := info_parts infoByte
    have HB := Lib.hid hby
    have HL := Lib.hid hlen
    have HS := Lib.hid hbs
    simp only [maxLen] at hcm
    clear hby hlen hbs
    go_enter Try.func4, Try.ntmps4
    go_wp2_with fail
    refine (awake_any _).mono ?_
    rintro e w1 ⟨rfl, hb1⟩
    go_wp2_with fail
    refine (put_gives n _ h0 h1).mono ?_
    rintro e w2 ⟨A, L, c, rfl, hn, hnc, hcm2, hown, hb2⟩
    have HN := Lib.hid hn
    have hLL := enc_len n
    rw [hn] at hLL
    have hbel := hb1.trans (hb2.mono hb1.size)
    have hby2 := Lib.hid (Byt.own (zs := enc n) hown)
    have hnil := Lib.hid (own_nil hown)
    clear hn hb1 hb2 hown hcm2
    go_wp2_with (first
      | (at_builtin; (with_reducible refine wpList_append_byt _ rfl (.const (.slice none 0 0)) (.tmp 25) 24 rfl w2.heap.size 5 i0 Try.underlying24 hi hz0 hz1 hz2 (.slice none 0 0) 0 [] rfl (World.ownsRow_nil _ _ _ _) w2.heap.size A L c (enc n) rfl hby2.out HN.out hnil.out (by omega) (Nat.le_refl _) ?_); intro v5 w5 ho5 hg5; simp only [Nat.zero_add, List.nil_append] at ho5; have hb5 := (Below.refl w2.heap.size w2).grown hg5 (Nat.le_refl _) (fun g hg => by cases hg))
      | (at_builtin; (with_reducible refine wpList_append_byt _ rfl (.tmp 26) (.tmp 27) 24 rfl w2.heap.size 5 i0 Try.underlying24 hi hz0 hz1 hz2 v5 L (enc n) rfl ho5 w.heap.size a1 len1 cap1 zs rfl ((HB.out.below hbel).below (hb5.mono hbel.size)) HL.out hnil1.out (by omega) hb5.size ?_); intro v6 w6 ho6 hg6; have hb6 := hb5.grown hg6 hb5.size (fun g hg => own_base ho5 hg); obtain ⟨A6, c6, rfl, _, _, H6⟩ := get_own_yes ho6 (all_append (enc_bytes n) HS.out) (y := n) (u := L) (by rw [dec_enc n _ h0 h1, HN.out]); clear ho6 hg6 ho5 hg5)
      | (go_at_call 13; ((with_reducible refine H6.out.mono ?_); rintro e w7 ⟨rfl, rfl⟩)))
    have hbw := hbel.trans (hb6.mono hbel.size)
    have hB6 := HB.out.below hbw
    have hg := get_any a1 len1 cap1 zs w6 hB6 HL.out HS.out (by omega)
    clear H6 hbel hb5 hb6
    obtain ⟨D, hd⟩ : ∃ D, dec zs = D := ⟨_, rfl⟩
    cases D with
    | none =>
      rw [hd] at hg
      simp only [getV] at hg
      have HG := Lib.hid hg
      clear hg hd
      refine HG.out.mono ?_
      rintro e w7 ⟨rfl, rfl⟩
      go_wp2
      go_ret
      exact ⟨rfl, hbw⟩
    | some yu =>
      obtain ⟨y, u⟩ := yu
      obtain ⟨u1, u2, u3, u4, u5⟩ := dec_some HS.out hd
      rw [HL.out] at u2
      rw [hd] at hg
      simp only [getV] at hg
      have HG := Lib.hid hg
      have HE := Lib.hid u3
      clear hg hd u3
      refine HG.out.mono ?_
      rintro e w7 ⟨rfl, rfl⟩
      obtain ⟨F, cv, hF⟩ := cvt_ex
      have key : ∀ w' : World, Below w6.heap.size w6 w' → F (.slice a1 u cap1) w' = .ok (.string (strOfNums (zs.take u))) w' := fun w' hb =>
        hF _ _ _ _ ((hB6.below (hb.mono hbw.size)).take u) _ cap1 (by rw [List.length_take, HL.out]; omega)
      have HF := Lib.hid hF
      clear hF
      have KEY := Lib.hid key
      clear key
      generalize zs.take u = T at KEY HE
      have d1 : decide ((1 : Int) ≤ (u : Int)) = true := by simp; omega
      have d2 : decide (u ≤ len1) = true := by simp; omega
      have d3 : (u : Int) ≤ (cap1 : Int) := by omega
      go_wp2_with fail
      have k6 := KEY.out w6.drew ((Below.refl _ _).drew)
      refine wp_region_held_drew (S := fun w' => F (.slice a1 u cap1) w' = .ok (.string (strOfNums T)) w') (by kernel_rfl) k6 (fun hS => ?_)
      refine wpAnyH_take (i := 0) (oi := ⟨some 68, _, _, _, _, _⟩) (v := ?_) rfl (by kernel_rfl) (by kernel_rfl) (by kernel_rfl) (fun _ _ _ h => h) (Or.inl ⟨by rfl, ?_⟩) hS ?_; rotate_left; (focus (intro w9 hSw; (try dsimp only at hSw); go_simp; try with_reducible rfl)); simp only [Act.put, List.setIfInBounds_toArray, List.set_cons_zero, List.set_cons_succ]
      refine wpAnyH_take (i := 1) (oi := ⟨some 69, _, _, _, _, _⟩) (v := ?_) rfl (by kernel_rfl) (by kernel_rfl) (by kernel_rfl) (fun _ _ _ h => h) (Or.inl ⟨by rfl, ?_⟩) hS ?_; rotate_left; (focus (intro w9 hSw; (try dsimp only at hSw); go_simp; try with_reducible rfl)); simp only [Act.put, List.setIfInBounds_toArray, List.set_cons_zero, List.set_cons_succ]
      refine wpAnyH_take (i := 2) (oi := ⟨some 70, _, _, _, _, _⟩) (v := ?_) rfl (by kernel_rfl) (by kernel_rfl) (by kernel_rfl) (fun _ _ _ h => h) (Or.inl ⟨by rfl, ?_⟩) hS ?_; rotate_left; (focus (intro w9 hSw; (try dsimp only at hSw); go_simp; try with_reducible rfl)); simp only [Act.put, List.setIfInBounds_toArray, List.set_cons_zero, List.set_cons_succ]
      refine wpAnyH_take (i := 3) (oi := ⟨some 71, _, _, _, _, _⟩) (v := ?_) rfl (by kernel_rfl) (by kernel_rfl) (by kernel_rfl) (fun _ _ _ h => h) (Or.inl ⟨by rfl, ?_⟩) hS ?_; rotate_left; (focus (intro w9 hSw; (try dsimp only at hSw); go_simp; try with_reducible rfl)); simp only [Act.put, List.setIfInBounds_toArray, List.set_cons_zero, List.set_cons_succ]
      refine wpAnyH_take (i := 4) (oi := ⟨some 72, _, _, _, _, _⟩) (v := ?_) rfl (by kernel_rfl) (by kernel_rfl) (by kernel_rfl) (fun _ _ _ h => h) (Or.inl ⟨by rfl, ?_⟩) hS ?_; rotate_left; (focus (intro w9 hSw; (try dsimp only at hSw); go_simp; try with_reducible rfl)); simp only [Act.put, List.setIfInBounds_toArray, List.set_cons_zero, List.set_cons_succ]
      refine wpAnyH_take (i := 5) (oi := ⟨some 73, _, _, _, _, _⟩) (v := ?_) rfl (by kernel_rfl) (by kernel_rfl) (by kernel_rfl) (fun _ _ _ h => h) (Or.inl ⟨by rfl, ?_⟩) hS ?_; rotate_left; (focus (intro w9 hSw; (try dsimp only at hSw); go_simp; try with_reducible rfl)); simp only [Act.put, List.setIfInBounds_toArray, List.set_cons_zero, List.set_cons_succ]
      refine wpAnyH_take (i := 6) (oi := ⟨some 74, _, _, _, _, _⟩) (v := ?_) rfl (by kernel_rfl) (by kernel_rfl) (by kernel_rfl) (fun _ _ _ h => h) (Or.inl ⟨by rfl, ?_⟩) hS ?_; rotate_left; (focus (intro w9 hSw; (try dsimp only at hSw); go_simp; try with_reducible rfl)); simp only [Act.put, List.setIfInBounds_toArray, List.set_cons_zero, List.set_cons_succ]
      refine wpAnyH_take (i := 7) (oi := ⟨some 75, _, _, _, _, _⟩) (v := ?_) rfl (by kernel_rfl) (by kernel_rfl) (by kernel_rfl) (fun _ _ _ h => h) (Or.inl ⟨by rfl, ?_⟩) hS ?_; rotate_left; (focus (intro w9 hSw; (try dsimp only at hSw); go_simp; try with_reducible rfl)); simp only [Act.put, List.setIfInBounds_toArray, List.set_cons_zero, List.set_cons_succ]
      refine wpAnyH_take (i := 8) (oi := ⟨some 76, _, _, _, _, _⟩) (v := ?_) rfl (by kernel_rfl) (by kernel_rfl) (by kernel_rfl) (fun _ _ _ h => h) (Or.inl ⟨by rfl, ?_⟩) hS ?_; rotate_left; (focus (intro w9 hSw; (try dsimp only at hSw); go_simp; try with_reducible rfl)); simp only [Act.put, List.setIfInBounds_toArray, List.set_cons_zero, List.set_cons_succ]
      refine wpAnyH_take (i := 9) (oi := ⟨some 77, _, _, _, _, _⟩) (v := ?_) rfl (by kernel_rfl) (by kernel_rfl) (by kernel_rfl) (fun _ _ _ h => h) (Or.inl ⟨by rfl, ?_⟩) hS ?_; rotate_left; (focus (intro w9 hSw; (try dsimp only at hSw); go_simp; try with_reducible rfl)); simp only [Act.put, List.setIfInBounds_toArray, List.set_cons_zero, List.set_cons_succ]
      refine wpAnyH_take (i := 12) (oi := ⟨some 80, _, _, _, _, _⟩) (v := ?_) rfl (by kernel_rfl) (by kernel_rfl) (by kernel_rfl) (fun _ _ _ h => h) (Or.inl ⟨by rfl, ?_⟩) hS ?_; rotate_left; (focus (intro w9 hSw; (try dsimp only at hSw); go_simp; try with_reducible rfl)); simp only [Act.put, List.setIfInBounds_toArray, List.set_cons_zero, List.set_cons_succ]
      refine wpAnyH_take (i := 13) (oi := ⟨some 81, _, _, _, _, _⟩) (v := ?_) rfl (by kernel_rfl) (by kernel_rfl) (by kernel_rfl) (fun _ _ _ h => h) (Or.inl ⟨by rfl, ?_⟩) hS ?_; rotate_left; (focus (intro w9 hSw; (try dsimp only at hSw); go_simp; try with_reducible rfl)); simp only [Act.put, List.setIfInBounds_toArray, List.set_cons_zero, List.set_cons_succ]
      refine wpAnyH_take (i := 14) (oi := ⟨some 82, _, _, _, _, _⟩) (v := ?_) rfl (by kernel_rfl) (by kernel_rfl) (by kernel_rfl) (fun _ _ _ h => h) (Or.inl ⟨by rfl, ?_⟩) hS ?_; rotate_left; (focus (intro w9 hSw; (try dsimp only at hSw); go_simp; try with_reducible rfl)); simp only [Act.put, List.setIfInBounds_toArray, List.set_cons_zero, List.set_cons_succ]
      refine wpAnyH_take (i := 15) (oi := ⟨some 83, _, _, _, _, _⟩) (v := ?_) rfl (by kernel_rfl) (by kernel_rfl) (by kernel_rfl) (fun _ _ _ h => h) (Or.inl ⟨by rfl, ?_⟩) hS ?_; rotate_left; (focus (intro w9 hSw; (try dsimp only at hSw); go_simp; try with_reducible rfl)); simp only [Act.put, List.setIfInBounds_toArray, List.set_cons_zero, List.set_cons_succ]
      refine wpAnyH_ready (rs := [10]) (by kernel_rfl) (by simp) (AllReadyH.cons (o := ⟨some 78, _, _, _, _, _⟩) rfl (fun K hK => ?_) AllReadyH.nil)
      go_simp
      refine (put_gives y _ u4 u5).mono ?_
      rintro e w8 ⟨A8, n8, c8, rfl, hn8, hnc8, hcm8, hown8, hb8⟩
      have hbk := ((Below.refl w6.heap.size w6).drew).trans (hb8.mono (Nat.le_refl _))
      have t8 := HF.out _ _ _ _ (Byt.own hown8) _ c8 hn8
      rw [HE.out] at t8
      have k8 := KEY.out w8 hbk
      clear hn8 hnc8 hcm8 hown8 hb8 hS
      refine hK.out _ _ k8 (fun _ => ?_)
      clear hK K
      refine wpAnyH_sub (S' := fun w' => F (.slice a1 u cap1) w' = .ok (.string (strOfNums T)) w' ∧ F (.slice A8 n8 c8) w' = .ok (.string (strOfNums T)) w') (fun _ h => h.1) ?_
      have hS : F (.slice a1 u cap1) w8 = .ok (.string (strOfNums T)) w8 ∧ F (.slice A8 n8 c8) w8 = .ok (.string (strOfNums T)) w8 := ⟨k8, t8⟩
      refine wpAnyH_take (i := 11) (oi := ⟨some 79, _, _, _, _, _⟩) (v := ?_) rfl (by kernel_rfl) (by kernel_rfl) (by kernel_rfl) (fun _ _ _ h => h) (Or.inl ⟨by rfl, ?_⟩) hS ?_; rotate_left; (focus (intro w9 hSw; (try dsimp only at hSw); go_simp; try with_reducible rfl)); simp only [Act.put, List.setIfInBounds_toArray, List.set_cons_zero, List.set_cons_succ]
      refine wpAnyH_take (i := 16) (oi := ⟨some 84, _, _, _, _, _⟩) (v := ?_) rfl (by kernel_rfl) (by kernel_rfl) (by kernel_rfl) (fun _ _ _ h => h) (Or.inl ⟨by rfl, ?_⟩) hS ?_; rotate_left; (focus (intro w9 hSw; (try dsimp only at hSw); go_simp; try with_reducible rfl)); simp only [Act.put, List.setIfInBounds_toArray, List.set_cons_zero, List.set_cons_succ]
      refine wpAnyH_take (i := 17) (oi := ⟨some 85, _, _, _, _, _⟩) (v := ?_) rfl (by kernel_rfl) (by kernel_rfl) (by kernel_rfl) (fun _ _ _ h => h) (Or.inl ⟨by rfl, ?_⟩) hS ?_; rotate_left; (focus (intro w9 hSw; (try dsimp only at hSw); go_simp; try with_reducible rfl)); simp only [Act.put, List.setIfInBounds_toArray, List.set_cons_zero, List.set_cons_succ]
      refine wpAnyH_take (i := 18) (oi := ⟨some 4, _, _, _, _, _⟩) (v := ?_) rfl (by kernel_rfl) (by kernel_rfl) (by kernel_rfl) (fun _ _ _ h => h) (Or.inl ⟨by rfl, ?_⟩) hS ?_; rotate_left; (focus (intro w9 hSw; (try dsimp only at hSw); go_simp; try with_reducible rfl)); simp only [Act.put, List.setIfInBounds_toArray, List.set_cons_zero, List.set_cons_succ]
      refine wpAnyH_done (by kernel_rfl) ?_ _
      all_goals go_wp2
      all_goals go_ret
      all_goals exact ⟨rfl, hbw.trans (hbk.mono hbw.size)⟩
  · have h100' : 100 < len1 := by omega
    go_enter Try.func4, Try.ntmps4
    go_wp2_with (go_at_call 12; refine (awake_any _).mono ?_; rintro e w1 ⟨rfl, hb1⟩)
    go_ret
    exact ⟨rfl, hb1⟩
end Go.Proofs.Yteipdmckphebmaa
