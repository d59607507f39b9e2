import Derived.Test.YtnencoainacpoaaDoorGBase
import Derived.Test.YtnencoainacpoaaDoorGClG
section
/-
  What the document's own Put answers.
-/
namespace Go.Proofs.YtnencoainacpoaaDoor
open Go.RowKit WM
set_option linter.unusedVariables false

/-! ### Put -/
def RPut (n : Int) (w : World) (q : Int) (v : Value) (wr : World) : Prop :=
  ∃ L : List Int, 0 ≤ q ∧ q ≤ n ∧ enc n = encH 9 (q / 128) ++ L ∧ wr.ownsRow w.heap.size 5 1 v L.length (L.map (Value.int .u8)) ∧ Below w.heap.size w wr
theorem encH_step {q : Int} (h0 : 128 ≤ q) (h1 : q ≤ 18446744073709551615) : encH 9 (q / 128) = encH 9 (q / 128 / 128) ++ [q / 128 % 128 + 128] := by
  rw [encH, if_neg (by omega), encH_more 8 9 (q / 128 / 128) (by omega) (by omega) (by omega)]
set_option maxHeartbeats 1000000 in
theorem rput_any (n : Int) (w : World) (h0 : 0 ≤ n) (h1 : n ≤ 18446744073709551615) :
    Calls Tryd.prog 38 #[.int .u64 n] w (Gives w (enc n)) := by
  obtain ⟨i0, hi, hz0, hz1, hz2⟩ := info_parts infoByte
  go_enter Tryd.func38, Tryd.ntmps38
  go_wp2
  go_loopw [0, 3] (fun m v wr => ∃ q : Int, m = .int .u64 q ∧ RPut n w q v wr) (fun m _ _ => (intOf m).toNat)
  case atStart =>
    refine ⟨n, rfl, [n % 128], h0, Int.le_refl _, rfl, ?_, (Below.refl _ _).alloc (Nat.le_refl _) _⟩
    exact own_new w w.heap.size (Nat.le_refl _) 5 [n % 128] (by simp [maxLen])
  case round =>
    obtain ⟨q, rfl, L, q0, q1, he, ho, hb⟩ := hrel
    by_cases hq : 128 ≤ q
    · have hs := encH_step hq (by omega)
      rw [hs] at he
      have hLn : L.length ≤ 10 := by have := (enc_len n).2; rw [he] at this; simp at this; omega
      obtain ⟨A, m, c, hv, hm, hmc, hcM, ho', _⟩ := gives_own (w := w) ho hb
      injection hv with hv
      subst hv
      have HE := Lib.hid he
      have HM := Lib.hid hm
      have hnil := own_nil ho'
      have hby := Byt.own ho'
      have hm10 : m ≤ 10 := by omega
      have hsz := hb.size
      clear he hs hm ho hcM ho'
      go_wp2_with (at_builtin; refine wpList_append_byt _ rfl _ _ 31 rfl w.heap.size 5 i0 Tryd.underlying31 hi hz0 hz1 hz2 _ 1 [q / 128 % 128 + 128] rfl (own_new wr w.heap.size hsz 5 [q / 128 % 128 + 128] (by simp [maxLen])) wr.heap.size A m c L rfl (hby.move (fun p hp => World.cell?_alloc_lt wr _ p hp)) HM.out hnil (by omega) (by simp; omega) ?_; intro v5 w5 ho5 hg5)
      go_roundw
      case rel =>
        refine ⟨q / 128, rfl, (q / 128 % 128 + 128) :: L, by omega, by omega, by rw [HE.out, List.append_assoc, List.singleton_append], ?_, (hb.alloc hsz _).grown hg5 (by simp; omega) (fun g hg => own_base (own_new wr w.heap.size hsz 5 [q / 128 % 128 + 128] (by simp [maxLen])) hg)⟩
        have hl : ((q / 128 % 128 + 128) :: L).length = 1 + m := by rw [List.length_cons, HM.out]; omega
        rw [hl]
        exact ho5
      case measure => simp [intOf]; omega
    · have hq' : q < 128 := by omega
      rw [show q / 128 = 0 by omega, encH_zero, List.nil_append] at he
      subst he
      have HO := Lib.hid (gives_own ho hb)
      clear ho
      go_wp2
      go_ret
      exact HO.out

end Go.Proofs.YtnencoainacpoaaDoor

end
section
/-
  What the document's own Get answers.
-/
namespace Go.Proofs.YtnencoainacpoaaDoor
open Go.RowKit WM
set_option linter.unusedVariables false

/-! ### Get -/
/-- What the groups tell. -/
def val (zs : List Int) : Int := zs.foldl (fun a b => a * 128 + b % 128) 0
theorem val_snoc (zs : List Int) (z : Int) : val (zs ++ [z]) = val zs * 128 + z % 128 := by simp [val]
theorem val_encH : ∀ (f : Nat) (m : Int), 0 ≤ m → m < 128 ^ f → val (encH f m) = m
  | 0, m, h0, h => by simp at h; simp [encH, val]; omega
  | f + 1, m, h0, h => by
    rw [encH]
    split
    · simp [val]; omega
    · rw [val_snoc, val_encH f (m / 128) (by omega) (by rw [Int.pow_succ] at h; omega)]
      omega
theorem val_enc {n : Int} (h0 : 0 ≤ n) (h1 : n ≤ 18446744073709551615) : val (enc n) = n := by
  rw [enc, val_snoc, val_encH 9 _ (by omega) (by omega)]
  omega
theorem val_take {zs : List Int} {k : Nat} (hk : k < zs.length) : val (zs.take (k + 1)) = val (zs.take k) * 128 + zs.getD k 0 % 128 := by
  rw [List.take_succ_eq_append_getElem hk, val_snoc]
  simp [List.getD, List.getElem?_eq_getElem hk]
theorem enc_mid' {n : Int} {i : Nat} (h : i + 1 < (enc n).length) : 128 ≤ (enc n).getD i 0 := by
  unfold enc at h ⊢
  simp at h
  simp only [List.getD, List.getElem?_append_left h, List.getElem?_eq_getElem h, Option.getD_some]
  exact (encH_bytes 9 _ _ (List.getElem_mem h)).1
theorem enc_last' {n : Int} {i : Nat} (h : i + 1 = (enc n).length) : (enc n).getD i 0 = n % 128 := by
  unfold enc at h ⊢
  simp at h
  subst h
  simp [List.getD]
/-- Where a number ends. -/
theorem dec_end {zs : List Int} {m : Int} {j : Nat} (hb : AllBytes zs) (h : dec zs = some (m, j)) : 1 ≤ j ∧ j ≤ 10 ∧ j ≤ zs.length ∧ zs.getD (j - 1) 0 < 128 ∧ enc m = zs.take j ∧ 0 ≤ m ∧ m ≤ 18446744073709551615 := by
  obtain ⟨j1, j2, j3, j4, j5⟩ := dec_some hb h
  have hl : (enc m).length = j := by rw [j3, List.length_take]; omega
  have he := enc_len m
  have hlast := enc_last' (n := m) (i := j - 1) (by omega)
  refine ⟨j1, by omega, j2, ?_, j3, j4, j5⟩
  have : (enc m).getD (j - 1) 0 = zs.getD (j - 1) 0 := by rw [j3]; simp [List.getD, show j - 1 < j by omega]
  omega
theorem rdec_none {zs : List Int} {k : Nat} (hb : AllBytes zs) (hall : ∀ i, i < k → 128 ≤ zs.getD i 0) (hk : zs.length ≤ k ∨ 10 ≤ k) : dec zs = none := by
  match h : dec zs with
  | none => rfl
  | some (m, j) =>
    obtain ⟨j1, j2, j3, j4, _⟩ := dec_end hb h
    have := hall (j - 1) (by omega)
    omega
theorem rdec_yes {zs : List Int} {k : Nat} {n : Int} (h0 : 0 ≤ n) (h1 : n ≤ 18446744073709551615) (hk : k < zs.length) (he : enc n = zs.take (k + 1)) : dec zs = some (n, k + 1) := by
  have := dec_enc n (zs.drop (k + 1)) h0 h1
  rw [he, List.take_append_drop, List.length_take, Nat.min_eq_left (by omega)] at this
  exact this
theorem rdec_no {zs : List Int} {k : Nat} (hb : AllBytes zs) (hall : ∀ i, i < k → 128 ≤ zs.getD i 0) (hk : k < zs.length) (hz : zs.getD k 0 < 128) (hne : enc (val (zs.take (k + 1)) % 18446744073709551616) ≠ zs.take (k + 1)) : dec zs = none := by
  match h : dec zs with
  | none => rfl
  | some (m, j) =>
    exfalso
    obtain ⟨j1, j2, j3, j4, j5, j6, j7⟩ := dec_end hb h
    have hjk : j = k + 1 := by
      rcases Nat.lt_trichotomy (j - 1) k with h1 | h1 | h1
      · have := hall (j - 1) h1; omega
      · omega
      · have hl : (enc m).length = j := by rw [j5, List.length_take]; omega
        have := enc_mid' (n := m) (i := k) (by omega)
        have h2 : (enc m).getD k 0 = zs.getD k 0 := by rw [j5]; simp [List.getD, show k < j by omega]
        omega
    subst hjk
    apply hne
    rw [← j5, val_enc j6 j7, Int.emod_eq_of_lt j6 (by omega)]
def RGet (zs : List Int) (k : Nat) (acc : Int) : Prop := acc = val (zs.take k) % 18446744073709551616 ∧ ∀ i, i < k → 128 ≤ zs.getD i 0
theorem rget_next {zs : List Int} {k : Nat} {acc : Int} (h : RGet zs k acc) (hk : k < zs.length) (hz : 128 ≤ zs.getD k 0) : RGet zs (k + 1) ((128 * acc % 18446744073709551616 + zs.getD k 0 % 128) % 18446744073709551616) := by
  obtain ⟨h1, h2⟩ := h
  refine ⟨by rw [val_take hk]; omega, fun i hi => ?_⟩
  rcases Nat.lt_or_ge i k with h3 | h3
  · exact h2 i h3
  · obtain rfl : i = k := by omega
    exact hz
theorem rget_val {zs : List Int} {k : Nat} {acc : Int} (h : RGet zs k acc) (hk : k < zs.length) : (128 * acc % 18446744073709551616 + zs.getD k 0 % 128) % 18446744073709551616 = val (zs.take (k + 1)) % 18446744073709551616 := by
  rw [val_take hk, h.1]; omega
/-- u64's product and sum, as Go has them. -/
theorem wrap_two (acc z : Int) : IntKind.u64.wrap (IntKind.u64.wrap (128 * acc) + z % 128) = (128 * acc % 18446744073709551616 + z % 128) % 18446744073709551616 := by rw [IntKind.wrap_u64, IntKind.wrap_u64]
set_option maxHeartbeats 2000000 in
theorem rget_any {B : Nat} (A : Option Addr) (len cap : Nat) (zs : List Int) (w : World) (h : Byt w B A zs) (hl : zs.length = len) (hb : AllBytes zs) (hlc : len ≤ cap) (hm : cap ≤ maxLen) (hB : B ≤ w.heap.size) :
    Calls Tryd.prog 42 #[.slice A len cap] w fun e w' => e = .returned (getV (dec zs)) ∧ Below w.heap.size w w' := by
  simp only [maxLen] at hm
  have hr : ∀ j, 0 ≤ zs.getD j 0 ∧ zs.getD j 0 ≤ 255 := fun j => by
    rcases Nat.lt_or_ge j zs.length with h1 | h1
    · have := hb _ (List.getElem_mem h1)
      simpa [List.getD, List.getElem?_eq_getElem h1] using this
    · simp [List.getD, List.getElem?_eq_none h1]
  have HL := Lib.hid hl
  have HR := Lib.hid hr
  have HB := Lib.hid h
  have HA := Lib.hid hb
  clear hl hr hb h
  go_enter Tryd.func42, Tryd.ntmps42
  go_wp2
  go_loop [5, 6] (fun n i => ∃ (k : Nat) (acc : Int), k ≤ 10 ∧ k ≤ len ∧ i = .int .i64 k ∧ n = .int .u64 acc ∧ 0 ≤ acc ∧ acc ≤ 18446744073709551615 ∧ RGet zs k acc) (fun _ i => 10 - (intOf i).toNat)
  case atStart => exact ⟨0, 0, by omega, by omega, rfl, rfl, by omega, by omega, by simp [val], fun i hi => by omega⟩
  case round =>
    obtain ⟨k, acc, hk, hkl, rfl, rfl, ha0, ha1, hg⟩ := hrel
    by_cases hk9 : k < 10
    · by_cases hlt : k < len
      · have hlt' : k < zs.length := by rw [HL.out]; exact hlt
        obtain ⟨b, off, rfl, hbB, hcell⟩ := HB.out (fun e => by rw [e] at hlt'; simp at hlt')
        have hc := hcell k hlt'
        have hz := HR.out k
        by_cases h128 : zs.getD k 0 < 128
        · have hv := rget_val hg hlt'
          obtain ⟨F, cv, hF⟩ := cvt_ex
          have CV := Lib.hid cv
          have HF := Lib.hid hF
          have hno := Lib.hid (rdec_no HA.out hg.2 hlt' h128)
          have hyes := Lib.hid (fun (n : Int) a b => rdec_yes (zs := zs) (k := k) (n := n) a b hlt')
          have HV := Lib.hid hv
          generalize zs.getD k 0 = z at hc hz h128 HV
          clear hcell hg hlt' hv hF cv
          have HT := Lib.hid (HF.out)
          go_wp2_with fail
          have hN := wrap_two acc z
          generalize IntKind.u64.wrap (IntKind.u64.wrap (128 * acc) + z % 128) = N at hN ⊢
          have n0 : 0 ≤ N := by omega
          have n1 : N ≤ 18446744073709551615 := by omega
          have HNV := Lib.hid (hN.trans HV.out)
          clear hN HV
          refine (rput_any N _ n0 n1).mono ?_
          rintro e w8 ⟨A8, n8, c8, rfl, hn8, hnc8, hcm8, hown8, hb8⟩
          have k1 := HF.out w8.drew _ _ _ ((Byt.own hown8).below ((Below.refl _ _).drew)) n8 c8 hn8
          have k2 := HF.out w8.drew _ _ _ (((HB.out.below (hb8.mono hB)).below ((Below.refl _ _).drew)).take (k + 1)) (k + 1) cap (by rw [List.length_take, HL.out]; omega)
          have hcmp := str_eq (enc_bytes N) (fun z hz => HA.out z (List.mem_of_mem_take hz) : AllBytes (zs.take (k + 1)))
          have hbw := hb8.trans ((Below.refl _ w8).drew)
          by_cases heq : enc N = zs.take (k + 1)
          · have hd := Lib.hid (hyes.out N n0 n1 heq)
            rw [decide_eq_true heq] at hcmp
            generalize strOfNums (enc N) = Sa at k1 hcmp
            generalize strOfNums (zs.take (k + 1)) = Sb at k2 hcmp
            clear hn8 hnc8 hcm8 hown8 hb8 heq
            go_wp2_with fail
            have x1 : IntKind.i64.wrap ((k : Int) + 1) = (k : Int) + 1 := IntWalk.i64_in _ (by omega)
            have x2 : 0 ≤ (k : Int) + 1 := by omega
            have x3 : ((k : Int) + 1).toNat = k + 1 := by omega
            have x4 : (k : Int) + 1 ≤ (cap : Int) := by omega
            have cv := CV.out
            refine wp_region_held_drew (S := fun w' => F (.slice A8 n8 c8) w' = .ok (.string Sa) w' ∧ F (.slice (some ⟨b, off, none⟩) (k + 1) cap) w' = .ok (.string Sb) w') (by kernel_rfl) ⟨k1, k2⟩ (fun hS => ?_)
            refine wpAnyH_take (i := 0) (oi := ⟨some 34, _, _, _, _, _⟩) (v := ?_) rfl (by kernel_rfl) (by kernel_rfl) (by kernel_rfl) (fun _ _ _ h => h) (Or.inl ⟨by rfl, ?_⟩) hS ?_; rotate_left; (focus (intro w9 hSw; (try dsimp only at hSw); go_simp; try with_reducible rfl)); simp only [Act.put, List.setIfInBounds_toArray, List.set_cons_zero, List.set_cons_succ]
            refine wpAnyH_take (i := 1) (oi := ⟨some 35, _, _, _, _, _⟩) (v := ?_) rfl (by kernel_rfl) (by kernel_rfl) (by kernel_rfl) (fun _ _ _ h => h) (Or.inl ⟨by rfl, ?_⟩) hS ?_; rotate_left; (focus (intro w9 hSw; (try dsimp only at hSw); go_simp; try with_reducible rfl)); simp only [Act.put, List.setIfInBounds_toArray, List.set_cons_zero, List.set_cons_succ]
            refine wpAnyH_take (i := 2) (oi := ⟨some 36, _, _, _, _, _⟩) (v := ?_) rfl (by kernel_rfl) (by kernel_rfl) (by kernel_rfl) (fun _ _ _ h => h) (Or.inl ⟨by rfl, ?_⟩) hS ?_; rotate_left; (focus (intro w9 hSw; (try dsimp only at hSw); go_simp; try with_reducible rfl)); simp only [Act.put, List.setIfInBounds_toArray, List.set_cons_zero, List.set_cons_succ]
            refine wpAnyH_take (i := 3) (oi := ⟨some 37, _, _, _, _, _⟩) (v := ?_) rfl (by kernel_rfl) (by kernel_rfl) (by kernel_rfl) (fun _ _ _ h => h) (Or.inl ⟨by rfl, ?_⟩) hS ?_; rotate_left; (focus (intro w9 hSw; (try dsimp only at hSw); go_simp; try with_reducible rfl)); simp only [Act.put, List.setIfInBounds_toArray, List.set_cons_zero, List.set_cons_succ]
            refine wpAnyH_take (i := 4) (oi := ⟨some 38, _, _, _, _, _⟩) (v := ?_) rfl (by kernel_rfl) (by kernel_rfl) (by kernel_rfl) (fun _ _ _ h => h) (Or.inl ⟨by rfl, ?_⟩) hS ?_; rotate_left; (focus (intro w9 hSw; (try dsimp only at hSw); go_simp; try with_reducible rfl)); simp only [Act.put, List.setIfInBounds_toArray, List.set_cons_zero, List.set_cons_succ]
            refine wpAnyH_take (i := 5) (oi := ⟨some 39, _, _, _, _, _⟩) (v := ?_) rfl (by kernel_rfl) (by kernel_rfl) (by kernel_rfl) (fun _ _ _ h => h) (Or.inl ⟨by rfl, ?_⟩) hS ?_; rotate_left; (focus (intro w9 hSw; (try dsimp only at hSw); go_simp; try with_reducible rfl)); simp only [Act.put, List.setIfInBounds_toArray, List.set_cons_zero, List.set_cons_succ]
            refine wpAnyH_take (i := 6) (oi := ⟨some 40, _, _, _, _, _⟩) (v := ?_) rfl (by kernel_rfl) (by kernel_rfl) (by kernel_rfl) (fun _ _ _ h => h) (Or.inl ⟨by rfl, ?_⟩) hS ?_; rotate_left; (focus (intro w9 hSw; (try dsimp only at hSw); go_simp; try with_reducible rfl)); simp only [Act.put, List.setIfInBounds_toArray, List.set_cons_zero, List.set_cons_succ]
            refine wpAnyH_take (i := 7) (oi := ⟨some 41, _, _, _, _, _⟩) (v := ?_) rfl (by kernel_rfl) (by kernel_rfl) (by kernel_rfl) (fun _ _ _ h => h) (Or.inl ⟨by rfl, ?_⟩) hS ?_; rotate_left; (focus (intro w9 hSw; (try dsimp only at hSw); go_simp; try with_reducible rfl)); simp only [Act.put, List.setIfInBounds_toArray, List.set_cons_zero, List.set_cons_succ]
            refine wpAnyH_done (by kernel_rfl) ?_ _
            clear x1 x2 x3 cv hS
            go_wp2
            go_ret3
            refine ⟨?_, hbw⟩
            rw [hd.out]
            exact ret3 rfl (by go_num) rfl
          · have hd := Lib.hid (hno.out (by rw [← HNV.out]; exact heq))
            rw [decide_eq_false heq] at hcmp
            generalize strOfNums (enc N) = Sa at k1 hcmp
            generalize strOfNums (zs.take (k + 1)) = Sb at k2 hcmp
            clear hn8 hnc8 hcm8 hown8 hb8 heq
            go_wp2_with fail
            have x1 : IntKind.i64.wrap ((k : Int) + 1) = (k : Int) + 1 := IntWalk.i64_in _ (by omega)
            have x2 : 0 ≤ (k : Int) + 1 := by omega
            have x3 : ((k : Int) + 1).toNat = k + 1 := by omega
            have x4 : (k : Int) + 1 ≤ (cap : Int) := by omega
            have cv := CV.out
            refine wp_region_held_drew (S := fun w' => F (.slice A8 n8 c8) w' = .ok (.string Sa) w' ∧ F (.slice (some ⟨b, off, none⟩) (k + 1) cap) w' = .ok (.string Sb) w') (by kernel_rfl) ⟨k1, k2⟩ (fun hS => ?_)
            refine wpAnyH_take (i := 0) (oi := ⟨some 34, _, _, _, _, _⟩) (v := ?_) rfl (by kernel_rfl) (by kernel_rfl) (by kernel_rfl) (fun _ _ _ h => h) (Or.inl ⟨by rfl, ?_⟩) hS ?_; rotate_left; (focus (intro w9 hSw; (try dsimp only at hSw); go_simp; try with_reducible rfl)); simp only [Act.put, List.setIfInBounds_toArray, List.set_cons_zero, List.set_cons_succ]
            refine wpAnyH_take (i := 1) (oi := ⟨some 35, _, _, _, _, _⟩) (v := ?_) rfl (by kernel_rfl) (by kernel_rfl) (by kernel_rfl) (fun _ _ _ h => h) (Or.inl ⟨by rfl, ?_⟩) hS ?_; rotate_left; (focus (intro w9 hSw; (try dsimp only at hSw); go_simp; try with_reducible rfl)); simp only [Act.put, List.setIfInBounds_toArray, List.set_cons_zero, List.set_cons_succ]
            refine wpAnyH_take (i := 2) (oi := ⟨some 36, _, _, _, _, _⟩) (v := ?_) rfl (by kernel_rfl) (by kernel_rfl) (by kernel_rfl) (fun _ _ _ h => h) (Or.inl ⟨by rfl, ?_⟩) hS ?_; rotate_left; (focus (intro w9 hSw; (try dsimp only at hSw); go_simp; try with_reducible rfl)); simp only [Act.put, List.setIfInBounds_toArray, List.set_cons_zero, List.set_cons_succ]
            refine wpAnyH_take (i := 3) (oi := ⟨some 37, _, _, _, _, _⟩) (v := ?_) rfl (by kernel_rfl) (by kernel_rfl) (by kernel_rfl) (fun _ _ _ h => h) (Or.inl ⟨by rfl, ?_⟩) hS ?_; rotate_left; (focus (intro w9 hSw; (try dsimp only at hSw); go_simp; try with_reducible rfl)); simp only [Act.put, List.setIfInBounds_toArray, List.set_cons_zero, List.set_cons_succ]
            refine wpAnyH_take (i := 4) (oi := ⟨some 38, _, _, _, _, _⟩) (v := ?_) rfl (by kernel_rfl) (by kernel_rfl) (by kernel_rfl) (fun _ _ _ h => h) (Or.inl ⟨by rfl, ?_⟩) hS ?_; rotate_left; (focus (intro w9 hSw; (try dsimp only at hSw); go_simp; try with_reducible rfl)); simp only [Act.put, List.setIfInBounds_toArray, List.set_cons_zero, List.set_cons_succ]
            refine wpAnyH_take (i := 5) (oi := ⟨some 39, _, _, _, _, _⟩) (v := ?_) rfl (by kernel_rfl) (by kernel_rfl) (by kernel_rfl) (fun _ _ _ h => h) (Or.inl ⟨by rfl, ?_⟩) hS ?_; rotate_left; (focus (intro w9 hSw; (try dsimp only at hSw); go_simp; try with_reducible rfl)); simp only [Act.put, List.setIfInBounds_toArray, List.set_cons_zero, List.set_cons_succ]
            refine wpAnyH_take (i := 6) (oi := ⟨some 40, _, _, _, _, _⟩) (v := ?_) rfl (by kernel_rfl) (by kernel_rfl) (by kernel_rfl) (fun _ _ _ h => h) (Or.inl ⟨by rfl, ?_⟩) hS ?_; rotate_left; (focus (intro w9 hSw; (try dsimp only at hSw); go_simp; try with_reducible rfl)); simp only [Act.put, List.setIfInBounds_toArray, List.set_cons_zero, List.set_cons_succ]
            refine wpAnyH_take (i := 7) (oi := ⟨some 41, _, _, _, _, _⟩) (v := ?_) rfl (by kernel_rfl) (by kernel_rfl) (by kernel_rfl) (fun _ _ _ h => h) (Or.inl ⟨by rfl, ?_⟩) hS ?_; rotate_left; (focus (intro w9 hSw; (try dsimp only at hSw); go_simp; try with_reducible rfl)); simp only [Act.put, List.setIfInBounds_toArray, List.set_cons_zero, List.set_cons_succ]
            refine wpAnyH_done (by kernel_rfl) ?_ _
            clear x1 x2 x3 cv hS
            go_wp2
            go_ret3
            refine ⟨?_, hbw⟩
            rw [hd.out]
            rfl
        · have hn := Lib.hid (rget_next hg hlt' (by omega))
          have h128' : 128 ≤ zs.getD k 0 := by omega
          generalize zs.getD k 0 = z at hc hz h128' hn
          clear hcell hg hlt' h128
          go_wp2
          go_round
          case rel =>
            refine ⟨k + 1, _, by omega, by omega, by go_num, congrArg _ (wrap_two acc z), ?_, ?_, hn.out⟩
            · omega
            · omega
          case measure => simp [intOf]; omega
      · have hd := Lib.hid (rdec_none HA.out hg.2 (.inl (by rw [HL.out]; omega)))
        obtain rfl : k = len := by omega
        clear hg
        go_wp2
        go_ret3
        exact ⟨by rw [hd.out]; rfl, Below.refl _ _⟩
    · have hd := Lib.hid (rdec_none HA.out hg.2 (.inr (by omega)))
      obtain rfl : k = 10 := by omega
      clear hg
      go_wp2
      all_goals go_ret3
      all_goals exact ⟨by rw [hd.out]; rfl, Below.refl _ _⟩

end Go.Proofs.YtnencoainacpoaaDoor

end
section
/-
  What the document's own Text answers.
-/
namespace Go.Proofs.YtnencoainacpoaaDoor
open Go.RowKit WM
set_option linter.unusedVariables false

set_option maxHeartbeats 400000 in
theorem rtext_gives (s : ByteArray) (w : World) (hs : s.size ≤ 140737488355000) : Calls Tryd.prog 39 #[.string s] w (Gives w (txt s)) := by
  obtain ⟨i0, hi, hz0, hz1, hz2⟩ := info_parts infoByte
  have hel := enc_len s.size
  go_enter Tryd.func39, Tryd.ntmps39
  go_wp2_with (first
    | (go_at_call 38; refine (rput_any _ _ (by omega) (by omega)).mono ?_; rintro e w1 ⟨A, n, c, rfl, hn, hnc, hcm, hown, hbel⟩; have HN := Lib.hid hn; clear hn)
    | (at_builtin; refine Lib.wpList_append_own_string _ rfl _ _ 31 9 rfl w.heap.size 5 i0 Tryd.underlying31 Tryd.underlying9 hi hz0 hz1 hz2 (.slice A n c) n _ rfl hown s rfl ?h1 ?h2 hbel.size ?_; rotate_right; intro v2 w2 ho2 hg2 _))
  case h1 => have := HN.out; unfold maxLen; omega
  case h2 => have := HN.out; omega
  go_ret
  refine gives_own (n := n + s.size) ?_ (hbel.grown hg2 hbel.size (fun g hg => own_base hown hg))
  rw [txt, List.map_append, nums_cells]
  exact ho2
end Go.Proofs.YtnencoainacpoaaDoor

end
section
/-
  What the document's own Read answers.
-/
namespace Go.Proofs.YtnencoainacpoaaDoor
open Go.RowKit WM
set_option linter.unusedVariables false

/-! ### Read -/
theorem rread_none {B : Nat} (A : Option Addr) (len cap : Nat) (zs : List Int) (most : Int) (w : World) (h : Byt w B A zs) (hl : zs.length = len) (hb : AllBytes zs) (hlc : len ≤ cap) (hm : cap ≤ maxLen) (hB : B ≤ w.heap.size) (m0 : -9223372036854775808 ≤ most) (m1 : most ≤ 9223372036854775807) (hd : rd zs most = none) :
    Calls Tryd.prog 43 #[.slice A len cap, .int .i64 most] w fun e w' => e = .returned (.tuple #[.string ⟨#[]⟩, .int .i64 0, .bool false]) ∧ Below w.heap.size w w' := by
  have hg := rget_any A len cap zs w h hl hb hlc hm hB
  simp only [maxLen] at hm
  unfold rd at hd
  obtain ⟨D, hD⟩ : ∃ D, dec zs = D := ⟨_, rfl⟩
  rw [hD] at hg hd
  cases D with
  | none =>
    simp only [getV] at hg
    have HG := Lib.hid hg
    clear hg hd hl hb h hD
    go_enter Tryd.func43, Tryd.ntmps43
    go_wp2_with (go_at_call 42; refine HG.out.mono ?_; rintro e w1 ⟨rfl, hb1⟩)
    go_ret3
    exact ⟨rfl, hb1⟩
  | some nk =>
    obtain ⟨n, k⟩ := nk
    obtain ⟨k1, k2, _, k4, k5⟩ := dec_some hb hD
    rw [hl] at k2
    simp only [getV] at hg
    have HG := Lib.hid hg
    have hcase : most < 0 ∨ (0 ≤ most ∧ most < n) ∨ (0 ≤ most ∧ n ≤ most ∧ (len : Int) - k < n) := by
      by_cases h1 : (zs.length : Int) - k < n
      · omega
      · simp only [if_neg h1] at hd
        by_cases h2 : most < n
        · omega
        · simp only [if_neg h2] at hd; cases hd
    clear hg hd hl hb h hD
    rcases hcase with c | ⟨c, c'⟩ | ⟨c, c', c''⟩
    · go_enter Tryd.func43, Tryd.ntmps43
      go_wp2_with (go_at_call 42; refine HG.out.mono ?_; rintro e w1 ⟨rfl, hb1⟩)
      go_ret3
      exact ⟨rfl, hb1⟩
    · go_enter Tryd.func43, Tryd.ntmps43
      go_wp2_with (go_at_call 42; refine HG.out.mono ?_; rintro e w1 ⟨rfl, hb1⟩)
      go_ret3
      exact ⟨rfl, hb1⟩
    · go_enter Tryd.func43, Tryd.ntmps43
      go_wp2_with (go_at_call 42; refine HG.out.mono ?_; rintro e w1 ⟨rfl, hb1⟩)
      go_ret3
      exact ⟨rfl, hb1⟩
theorem rread_yes {B : Nat} (A : Option Addr) (len cap : Nat) (zs : List Int) (most : Int) (w : World) (n : Nat) (k : Nat) (h : Byt w B A zs) (hl : zs.length = len) (hb : AllBytes zs) (hlc : len ≤ cap) (hm : cap ≤ maxLen) (hB : B ≤ w.heap.size) (m1 : most ≤ 9223372036854775807) (hd : dec zs = some ((n : Int), k)) (hn : k + n ≤ len) (hmo : (n : Int) ≤ most) :
    Calls Tryd.prog 43 #[.slice A len cap, .int .i64 most] w fun e w' => e = .returned (.tuple #[.string (strOfNums ((zs.drop k).take n)), .int .i64 (k + n : Nat), .bool true]) ∧ Below w.heap.size w w' := by
  have hg := rget_any A len cap zs w h hl hb hlc hm hB
  rw [hd] at hg
  simp only [getV] at hg
  have HG := Lib.hid hg
  have hk := dec_some hb hd
  obtain ⟨k1, k2, _, k4, k5⟩ := hk
  rw [hl] at k2
  obtain ⟨F, cv, hF⟩ := cvt_ex
  have ht : ∀ w' : World, Below w.heap.size w w' → F (.slice (if cap = k then A else A.map (·.add k)) n (cap - k)) w' = .ok (.string (strOfNums ((zs.drop k).take n))) w' := fun w' hbw =>
    hF _ _ _ _ ((((h.below (hbw.mono hB)).drop (k := k) (cap := cap) (by omega))).take n) n (cap - k) (by rw [List.length_take, List.length_drop]; omega)
  generalize (zs.drop k).take n = S at ht ⊢
  clear hg hd hb h hl hF
  simp only [maxLen] at hm
  by_cases hck : cap = k
  · simp only [if_pos hck] at ht
    have HT := Lib.hid ht
    subst hck
    clear ht
    simp only [Nat.sub_self] at HT
    go_enter Tryd.func43, Tryd.ntmps43
    go_wp2_with (go_at_call 42; refine HG.out.mono ?_; rintro e w1 ⟨rfl, hb1⟩; have t1 := HT.out w1 hb1)
    go_ret3
    exact ⟨ret3 rfl (by go_num) rfl, hb1⟩
  · simp only [if_neg hck] at ht
    have HT := Lib.hid ht
    clear ht
    go_enter Tryd.func43, Tryd.ntmps43
    go_wp2_with (go_at_call 42; refine HG.out.mono ?_; rintro e w1 ⟨rfl, hb1⟩; have t1 := HT.out w1 hb1)
    go_ret3
    exact ⟨ret3 rfl (by go_num) rfl, hb1⟩
theorem rread_any {B : Nat} (A : Option Addr) (len cap : Nat) (zs : List Int) (most : Int) (w : World) (h : Byt w B A zs) (hl : zs.length = len) (hb : AllBytes zs) (hlc : len ≤ cap) (hm : cap ≤ maxLen) (hB : B ≤ w.heap.size) (m0 : -9223372036854775808 ≤ most) (m1 : most ≤ 9223372036854775807) :
    Calls Tryd.prog 43 #[.slice A len cap, .int .i64 most] w fun e w' => e = .returned (readV (rd zs most)) ∧ Below w.heap.size w w' := by
  obtain ⟨D, hD⟩ : ∃ D, rd zs most = D := ⟨_, rfl⟩
  cases D with
  | none => rw [hD]; exact rread_none A len cap zs most w h hl hb hlc hm hB m0 m1 hD
  | some tk =>
    rw [hD]
    unfold rd at hD
    obtain ⟨E, hE⟩ : ∃ E, dec zs = E := ⟨_, rfl⟩
    rw [hE] at hD
    cases E with
    | none => cases hD
    | some nk =>
      obtain ⟨n, k⟩ := nk
      obtain ⟨k1, k2, _, k4, k5⟩ := dec_some hb hE
      by_cases h1 : (zs.length : Int) - k < n
      · simp only [if_pos h1] at hD; cases hD
      · simp only [if_neg h1] at hD
        by_cases h2 : most < n
        · simp only [if_pos h2] at hD; cases hD
        · simp only [if_neg h2, Option.some.injEq] at hD
          subst hD
          obtain ⟨n, rfl⟩ : ∃ m : Nat, n = m := ⟨n.toNat, by omega⟩
          exact rread_yes A len cap zs most w n k h hl hb hlc hm hB m1 hE (by omega) (by omega)

end Go.Proofs.YtnencoainacpoaaDoor

end
