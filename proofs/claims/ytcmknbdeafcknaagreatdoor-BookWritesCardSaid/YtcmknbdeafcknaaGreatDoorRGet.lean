import Derived.Test.YtcmknbdeafcknaaGreatDoorRPut
import Derived.Test.YtcmknbdeafcknaaGreatDoorGBase
/-
  What the document's own Get answers.
-/
namespace Go.Proofs.YtcmknbdeafcknaaGreatDoor
open Go.RowKit WM
set_option linter.unusedVariables false

/-! ### Get -/
/-- What the groups tell. -/
def val (zs : List Int) : Int := zs.foldl (fun a b => a * 128 + b % 128) 0
theorem val_snoc (zs : List Int) (z : Int) : val (zs ++ [z]) = val zs * 128 + z % 128 := by simp [val]
theorem val_encH : ∀ (f : Nat) (m : Int), 0 ≤ m → m < 128 ^ f → val (encH f m) = m
  | 0, m, h0, h => by simp at h; simp [encH, val]; omega
  | f + 1, m, h0, h => by
    rw [encH]
    split
    · simp [val]; omega
    · rw [val_snoc, val_encH f (m / 128) (by omega) (by rw [Int.pow_succ] at h; omega)]
      omega
theorem val_enc {n : Int} (h0 : 0 ≤ n) (h1 : n ≤ 18446744073709551615) : val (enc n) = n := by
  rw [enc, val_snoc, val_encH 9 _ (by omega) (by omega)]
  omega
theorem val_take {zs : List Int} {k : Nat} (hk : k < zs.length) : val (zs.take (k + 1)) = val (zs.take k) * 128 + zs.getD k 0 % 128 := by
  rw [List.take_succ_eq_append_getElem hk, val_snoc]
  simp [List.getD, List.getElem?_eq_getElem hk]
theorem enc_mid' {n : Int} {i : Nat} (h : i + 1 < (enc n).length) : 128 ≤ (enc n).getD i 0 := by
  unfold enc at h ⊢
  simp at h
  simp only [List.getD, List.getElem?_append_left h, List.getElem?_eq_getElem h, Option.getD_some]
  exact (encH_bytes 9 _ _ (List.getElem_mem h)).1
theorem enc_last' {n : Int} {i : Nat} (h : i + 1 = (enc n).length) : (enc n).getD i 0 = n % 128 := by
  unfold enc at h ⊢
  simp at h
  subst h
  simp [List.getD]
/-- Where a number ends. -/
theorem dec_end {zs : List Int} {m : Int} {j : Nat} (hb : AllBytes zs) (h : dec zs = some (m, j)) : 1 ≤ j ∧ j ≤ 10 ∧ j ≤ zs.length ∧ zs.getD (j - 1) 0 < 128 ∧ enc m = zs.take j ∧ 0 ≤ m ∧ m ≤ 18446744073709551615 := by
  obtain ⟨j1, j2, j3, j4, j5⟩ := dec_some hb h
  have hl : (enc m).length = j := by rw [j3, List.length_take]; omega
  have he := enc_len m
  have hlast := enc_last' (n := m) (i := j - 1) (by omega)
  refine ⟨j1, by omega, j2, ?_, j3, j4, j5⟩
  have : (enc m).getD (j - 1) 0 = zs.getD (j - 1) 0 := by rw [j3]; simp [List.getD, show j - 1 < j by omega]
  omega
theorem rdec_none {zs : List Int} {k : Nat} (hb : AllBytes zs) (hall : ∀ i, i < k → 128 ≤ zs.getD i 0) (hk : zs.length ≤ k ∨ 10 ≤ k) : dec zs = none := by
  match h : dec zs with
  | none => rfl
  | some (m, j) =>
    obtain ⟨j1, j2, j3, j4, _⟩ := dec_end hb h
    have := hall (j - 1) (by omega)
    omega
theorem rdec_yes {zs : List Int} {k : Nat} {n : Int} (h0 : 0 ≤ n) (h1 : n ≤ 18446744073709551615) (hk : k < zs.length) (he : enc n = zs.take (k + 1)) : dec zs = some (n, k + 1) := by
  have := dec_enc n (zs.drop (k + 1)) h0 h1
  rw [he, List.take_append_drop, List.length_take, Nat.min_eq_left (by omega)] at this
  exact this
theorem rdec_no {zs : List Int} {k : Nat} (hb : AllBytes zs) (hall : ∀ i, i < k → 128 ≤ zs.getD i 0) (hk : k < zs.length) (hz : zs.getD k 0 < 128) (hne : enc (val (zs.take (k + 1)) % 18446744073709551616) ≠ zs.take (k + 1)) : dec zs = none := by
  match h : dec zs with
  | none => rfl
  | some (m, j) =>
    exfalso
    obtain ⟨j1, j2, j3, j4, j5, j6, j7⟩ := dec_end hb h
    have hjk : j = k + 1 := by
      rcases Nat.lt_trichotomy (j - 1) k with h1 | h1 | h1
      · have := hall (j - 1) h1; omega
      · omega
      · have hl : (enc m).length = j := by rw [j5, List.length_take]; omega
        have := enc_mid' (n := m) (i := k) (by omega)
        have h2 : (enc m).getD k 0 = zs.getD k 0 := by rw [j5]; simp [List.getD, show k < j by omega]
        omega
    subst hjk
    apply hne
    rw [← j5, val_enc j6 j7, Int.emod_eq_of_lt j6 (by omega)]
def RGet (zs : List Int) (k : Nat) (acc : Int) : Prop := acc = val (zs.take k) % 18446744073709551616 ∧ ∀ i, i < k → 128 ≤ zs.getD i 0
theorem rget_next {zs : List Int} {k : Nat} {acc : Int} (h : RGet zs k acc) (hk : k < zs.length) (hz : 128 ≤ zs.getD k 0) : RGet zs (k + 1) ((128 * acc % 18446744073709551616 + zs.getD k 0 % 128) % 18446744073709551616) := by
  obtain ⟨h1, h2⟩ := h
  refine ⟨by rw [val_take hk]; omega, fun i hi => ?_⟩
  rcases Nat.lt_or_ge i k with h3 | h3
  · exact h2 i h3
  · obtain rfl : i = k := by omega
    exact hz
theorem rget_val {zs : List Int} {k : Nat} {acc : Int} (h : RGet zs k acc) (hk : k < zs.length) : (128 * acc % 18446744073709551616 + zs.getD k 0 % 128) % 18446744073709551616 = val (zs.take (k + 1)) % 18446744073709551616 := by
  rw [val_take hk, h.1]; omega
/-- u64's product and sum, as Go has them. -/
theorem wrap_two (acc z : Int) : IntKind.u64.wrap (IntKind.u64.wrap (128 * acc) + z % 128) = (128 * acc % 18446744073709551616 + z % 128) % 18446744073709551616 := by rw [IntKind.wrap_u64, IntKind.wrap_u64]
set_option maxHeartbeats 2000000 in
theorem rget_any {B : Nat} (A : Option Addr) (len cap : Nat) (zs : List Int) (w : World) (h : Byt w B A zs) (hl : zs.length = len) (hb : AllBytes zs) (hlc : len ≤ cap) (hm : cap ≤ maxLen) (hB : B ≤ w.heap.size) :
    Calls Tryz.prog 66 #[.slice A len cap] w fun e w' => e = .returned (getV (dec zs)) ∧ Below w.heap.size w w' := by
  simp only [maxLen] at hm
  have hr : ∀ j, 0 ≤ zs.getD j 0 ∧ zs.getD j 0 ≤ 255 := fun j => by
    rcases Nat.lt_or_ge j zs.length with h1 | h1
    · have := hb _ (List.getElem_mem h1)
      simpa [List.getD, List.getElem?_eq_getElem h1] using this
    · simp [List.getD, List.getElem?_eq_none h1]
  have HL := Lib.hid hl
  have HR := Lib.hid hr
  have HB := Lib.hid h
  have HA := Lib.hid hb
  clear hl hr hb h
  go_enter Tryz.func66, Tryz.ntmps66
  go_wp2
  go_loop [5, 6] (fun n i => ∃ (k : Nat) (acc : Int), k ≤ 10 ∧ k ≤ len ∧ i = .int .i64 k ∧ n = .int .u64 acc ∧ 0 ≤ acc ∧ acc ≤ 18446744073709551615 ∧ RGet zs k acc) (fun _ i => 10 - (intOf i).toNat)
  case atStart => exact ⟨0, 0, by omega, by omega, rfl, rfl, by omega, by omega, by simp [val], fun i hi => by omega⟩
  case round =>
    obtain ⟨k, acc, hk, hkl, rfl, rfl, ha0, ha1, hg⟩ := hrel
    by_cases hk9 : k < 10
    · by_cases hlt : k < len
      · have hlt' : k < zs.length := by rw [HL.out]; exact hlt
        obtain ⟨b, off, rfl, hbB, hcell⟩ := HB.out (fun e => by rw [e] at hlt'; simp at hlt')
        have hc := hcell k hlt'
        have hz := HR.out k
        by_cases h128 : zs.getD k 0 < 128
        · have hv := rget_val hg hlt'
          obtain ⟨F, cv, hF⟩ := cvt_ex
          have CV := Lib.hid cv
          have HF := Lib.hid hF
          have hno := Lib.hid (rdec_no HA.out hg.2 hlt' h128)
          have hyes := Lib.hid (fun (n : Int) a b => rdec_yes (zs := zs) (k := k) (n := n) a b hlt')
          have HV := Lib.hid hv
          generalize zs.getD k 0 = z at hc hz h128 HV
          clear hcell hg hlt' hv hF cv
          have HT := Lib.hid (HF.out)
          go_wp2_with fail
          have hN := wrap_two acc z
          generalize IntKind.u64.wrap (IntKind.u64.wrap (128 * acc) + z % 128) = N at hN ⊢
          have n0 : 0 ≤ N := by omega
          have n1 : N ≤ 18446744073709551615 := by omega
          have HNV := Lib.hid (hN.trans HV.out)
          clear hN HV
          refine (rput_any N _ n0 n1).mono ?_
          rintro e w8 ⟨A8, n8, c8, rfl, hn8, hnc8, hcm8, hown8, hb8⟩
          have k1 := HF.out w8.drew _ _ _ ((Byt.own hown8).below ((Below.refl _ _).drew)) n8 c8 hn8
          have k2 := HF.out w8.drew _ _ _ (((HB.out.below (hb8.mono hB)).below ((Below.refl _ _).drew)).take (k + 1)) (k + 1) cap (by rw [List.length_take, HL.out]; omega)
          have hcmp := str_eq (enc_bytes N) (fun z hz => HA.out z (List.mem_of_mem_take hz) : AllBytes (zs.take (k + 1)))
          have hbw := hb8.trans ((Below.refl _ w8).drew)
          by_cases heq : enc N = zs.take (k + 1)
          · have hd := Lib.hid (hyes.out N n0 n1 heq)
            rw [decide_eq_true heq] at hcmp
            generalize strOfNums (enc N) = Sa at k1 hcmp
            generalize strOfNums (zs.take (k + 1)) = Sb at k2 hcmp
            clear hn8 hnc8 hcm8 hown8 hb8 heq
            go_wp2_with fail
            have x1 : IntKind.i64.wrap ((k : Int) + 1) = (k : Int) + 1 := IntWalk.i64_in _ (by omega)
            have x2 : 0 ≤ (k : Int) + 1 := by omega
            have x3 : ((k : Int) + 1).toNat = k + 1 := by omega
            have x4 : (k : Int) + 1 ≤ (cap : Int) := by omega
            have cv := CV.out
            refine wp_region_held_drew (S := fun w' => F (.slice A8 n8 c8) w' = .ok (.string Sa) w' ∧ F (.slice (some ⟨b, off, none⟩) (k + 1) cap) w' = .ok (.string Sb) w') (by kernel_rfl) ⟨k1, k2⟩ (fun hS => ?_)
            refine wpAnyH_take (i := 0) (oi := ⟨some 34, _, _, _, _, _⟩) (v := ?_) rfl (by kernel_rfl) (by kernel_rfl) (by kernel_rfl) (fun _ _ _ h => h) (Or.inl ⟨by rfl, ?_⟩) hS ?_; rotate_left; (focus (intro w9 hSw; (try dsimp only at hSw); go_simp; try with_reducible rfl)); simp only [Act.put, List.setIfInBounds_toArray, List.set_cons_zero, List.set_cons_succ]
            refine wpAnyH_take (i := 1) (oi := ⟨some 35, _, _, _, _, _⟩) (v := ?_) rfl (by kernel_rfl) (by kernel_rfl) (by kernel_rfl) (fun _ _ _ h => h) (Or.inl ⟨by rfl, ?_⟩) hS ?_; rotate_left; (focus (intro w9 hSw; (try dsimp only at hSw); go_simp; try with_reducible rfl)); simp only [Act.put, List.setIfInBounds_toArray, List.set_cons_zero, List.set_cons_succ]
            refine wpAnyH_take (i := 2) (oi := ⟨some 36, _, _, _, _, _⟩) (v := ?_) rfl (by kernel_rfl) (by kernel_rfl) (by kernel_rfl) (fun _ _ _ h => h) (Or.inl ⟨by rfl, ?_⟩) hS ?_; rotate_left; (focus (intro w9 hSw; (try dsimp only at hSw); go_simp; try with_reducible rfl)); simp only [Act.put, List.setIfInBounds_toArray, List.set_cons_zero, List.set_cons_succ]
            refine wpAnyH_take (i := 3) (oi := ⟨some 37, _, _, _, _, _⟩) (v := ?_) rfl (by kernel_rfl) (by kernel_rfl) (by kernel_rfl) (fun _ _ _ h => h) (Or.inl ⟨by rfl, ?_⟩) hS ?_; rotate_left; (focus (intro w9 hSw; (try dsimp only at hSw); go_simp; try with_reducible rfl)); simp only [Act.put, List.setIfInBounds_toArray, List.set_cons_zero, List.set_cons_succ]
            refine wpAnyH_take (i := 4) (oi := ⟨some 38, _, _, _, _, _⟩) (v := ?_) rfl (by kernel_rfl) (by kernel_rfl) (by kernel_rfl) (fun _ _ _ h => h) (Or.inl ⟨by rfl, ?_⟩) hS ?_; rotate_left; (focus (intro w9 hSw; (try dsimp only at hSw); go_simp; try with_reducible rfl)); simp only [Act.put, List.setIfInBounds_toArray, List.set_cons_zero, List.set_cons_succ]
            refine wpAnyH_take (i := 5) (oi := ⟨some 39, _, _, _, _, _⟩) (v := ?_) rfl (by kernel_rfl) (by kernel_rfl) (by kernel_rfl) (fun _ _ _ h => h) (Or.inl ⟨by rfl, ?_⟩) hS ?_; rotate_left; (focus (intro w9 hSw; (try dsimp only at hSw); go_simp; try with_reducible rfl)); simp only [Act.put, List.setIfInBounds_toArray, List.set_cons_zero, List.set_cons_succ]
            refine wpAnyH_take (i := 6) (oi := ⟨some 40, _, _, _, _, _⟩) (v := ?_) rfl (by kernel_rfl) (by kernel_rfl) (by kernel_rfl) (fun _ _ _ h => h) (Or.inl ⟨by rfl, ?_⟩) hS ?_; rotate_left; (focus (intro w9 hSw; (try dsimp only at hSw); go_simp; try with_reducible rfl)); simp only [Act.put, List.setIfInBounds_toArray, List.set_cons_zero, List.set_cons_succ]
            refine wpAnyH_take (i := 7) (oi := ⟨some 41, _, _, _, _, _⟩) (v := ?_) rfl (by kernel_rfl) (by kernel_rfl) (by kernel_rfl) (fun _ _ _ h => h) (Or.inl ⟨by rfl, ?_⟩) hS ?_; rotate_left; (focus (intro w9 hSw; (try dsimp only at hSw); go_simp; try with_reducible rfl)); simp only [Act.put, List.setIfInBounds_toArray, List.set_cons_zero, List.set_cons_succ]
            refine wpAnyH_done (by kernel_rfl) ?_ _
            clear x1 x2 x3 cv hS
            go_wp2
            go_ret3
            refine ⟨?_, hbw⟩
            rw [hd.out]
            exact ret3 rfl (by go_num) rfl
          · have hd := Lib.hid (hno.out (by rw [← HNV.out]; exact heq))
            rw [decide_eq_false heq] at hcmp
            generalize strOfNums (enc N) = Sa at k1 hcmp
            generalize strOfNums (zs.take (k + 1)) = Sb at k2 hcmp
            clear hn8 hnc8 hcm8 hown8 hb8 heq
            go_wp2_with fail
            have x1 : IntKind.i64.wrap ((k : Int) + 1) = (k : Int) + 1 := IntWalk.i64_in _ (by omega)
            have x2 : 0 ≤ (k : Int) + 1 := by omega
            have x3 : ((k : Int) + 1).toNat = k + 1 := by omega
            have x4 : (k : Int) + 1 ≤ (cap : Int) := by omega
            have cv := CV.out
            refine wp_region_held_drew (S := fun w' => F (.slice A8 n8 c8) w' = .ok (.string Sa) w' ∧ F (.slice (some ⟨b, off, none⟩) (k + 1) cap) w' = .ok (.string Sb) w') (by kernel_rfl) ⟨k1, k2⟩ (fun hS => ?_)
            refine wpAnyH_take (i := 0) (oi := ⟨some 34, _, _, _, _, _⟩) (v := ?_) rfl (by kernel_rfl) (by kernel_rfl) (by kernel_rfl) (fun _ _ _ h => h) (Or.inl ⟨by rfl, ?_⟩) hS ?_; rotate_left; (focus (intro w9 hSw; (try dsimp only at hSw); go_simp; try with_reducible rfl)); simp only [Act.put, List.setIfInBounds_toArray, List.set_cons_zero, List.set_cons_succ]
            refine wpAnyH_take (i := 1) (oi := ⟨some 35, _, _, _, _, _⟩) (v := ?_) rfl (by kernel_rfl) (by kernel_rfl) (by kernel_rfl) (fun _ _ _ h => h) (Or.inl ⟨by rfl, ?_⟩) hS ?_; rotate_left; (focus (intro w9 hSw; (try dsimp only at hSw); go_simp; try with_reducible rfl)); simp only [Act.put, List.setIfInBounds_toArray, List.set_cons_zero, List.set_cons_succ]
            refine wpAnyH_take (i := 2) (oi := ⟨some 36, _, _, _, _, _⟩) (v := ?_) rfl (by kernel_rfl) (by kernel_rfl) (by kernel_rfl) (fun _ _ _ h => h) (Or.inl ⟨by rfl, ?_⟩) hS ?_; rotate_left; (focus (intro w9 hSw; (try dsimp only at hSw); go_simp; try with_reducible rfl)); simp only [Act.put, List.setIfInBounds_toArray, List.set_cons_zero, List.set_cons_succ]
            refine wpAnyH_take (i := 3) (oi := ⟨some 37, _, _, _, _, _⟩) (v := ?_) rfl (by kernel_rfl) (by kernel_rfl) (by kernel_rfl) (fun _ _ _ h => h) (Or.inl ⟨by rfl, ?_⟩) hS ?_; rotate_left; (focus (intro w9 hSw; (try dsimp only at hSw); go_simp; try with_reducible rfl)); simp only [Act.put, List.setIfInBounds_toArray, List.set_cons_zero, List.set_cons_succ]
            refine wpAnyH_take (i := 4) (oi := ⟨some 38, _, _, _, _, _⟩) (v := ?_) rfl (by kernel_rfl) (by kernel_rfl) (by kernel_rfl) (fun _ _ _ h => h) (Or.inl ⟨by rfl, ?_⟩) hS ?_; rotate_left; (focus (intro w9 hSw; (try dsimp only at hSw); go_simp; try with_reducible rfl)); simp only [Act.put, List.setIfInBounds_toArray, List.set_cons_zero, List.set_cons_succ]
            refine wpAnyH_take (i := 5) (oi := ⟨some 39, _, _, _, _, _⟩) (v := ?_) rfl (by kernel_rfl) (by kernel_rfl) (by kernel_rfl) (fun _ _ _ h => h) (Or.inl ⟨by rfl, ?_⟩) hS ?_; rotate_left; (focus (intro w9 hSw; (try dsimp only at hSw); go_simp; try with_reducible rfl)); simp only [Act.put, List.setIfInBounds_toArray, List.set_cons_zero, List.set_cons_succ]
            refine wpAnyH_take (i := 6) (oi := ⟨some 40, _, _, _, _, _⟩) (v := ?_) rfl (by kernel_rfl) (by kernel_rfl) (by kernel_rfl) (fun _ _ _ h => h) (Or.inl ⟨by rfl, ?_⟩) hS ?_; rotate_left; (focus (intro w9 hSw; (try dsimp only at hSw); go_simp; try with_reducible rfl)); simp only [Act.put, List.setIfInBounds_toArray, List.set_cons_zero, List.set_cons_succ]
            refine wpAnyH_take (i := 7) (oi := ⟨some 41, _, _, _, _, _⟩) (v := ?_) rfl (by kernel_rfl) (by kernel_rfl) (by kernel_rfl) (fun _ _ _ h => h) (Or.inl ⟨by rfl, ?_⟩) hS ?_; rotate_left; (focus (intro w9 hSw; (try dsimp only at hSw); go_simp; try with_reducible rfl)); simp only [Act.put, List.setIfInBounds_toArray, List.set_cons_zero, List.set_cons_succ]
            refine wpAnyH_done (by kernel_rfl) ?_ _
            clear x1 x2 x3 cv hS
            go_wp2
            go_ret3
            refine ⟨?_, hbw⟩
            rw [hd.out]
            rfl
        · have hn := Lib.hid (rget_next hg hlt' (by omega))
          have h128' : 128 ≤ zs.getD k 0 := by omega
          generalize zs.getD k 0 = z at hc hz h128' hn
          clear hcell hg hlt' h128
          go_wp2
          go_round
          case rel =>
            refine ⟨k + 1, _, by omega, by omega, by go_num, congrArg _ (wrap_two acc z), ?_, ?_, hn.out⟩
            · omega
            · omega
          case measure => simp [intOf]; omega
      · have hd := Lib.hid (rdec_none HA.out hg.2 (.inl (by rw [HL.out]; omega)))
        obtain rfl : k = len := by omega
        clear hg
        go_wp2
        go_ret3
        exact ⟨by rw [hd.out]; rfl, Below.refl _ _⟩
    · have hd := Lib.hid (rdec_none HA.out hg.2 (.inr (by omega)))
      obtain rfl : k = 10 := by omega
      clear hg
      go_wp2
      all_goals go_ret3
      all_goals exact ⟨by rw [hd.out]; rfl, Below.refl _ _⟩

end Go.Proofs.YtcmknbdeafcknaaGreatDoor

