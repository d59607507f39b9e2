import Derived.Test.YtnencoainacpoaaDoorDlAwake
import Derived.Test.YtnencoainacpoaaDoorDlProg
import Derived.Test.YtnencoainacpoaaDoorGDlM
import Derived.Test.YtnencoainacpoaaDoorGUni
/-
  The law DeltaLeast: for every two texts it answers true, and nothing that was there is written. Nothing that was there is written.
-/
namespace Go.Proofs.YtnencoainacpoaaDoor
open Go.RowKit WM
set_option linter.unusedVariables false
set_option maxRecDepth 100000
theorem least_few {s : ByteArray} (h : s.size ≤ 1000) : (sgOf (nums s)).length ≤ 1000000 := by
  have := sgOf_le (nums s)
  rw [nums_len] at this
  omega
theorem pcAll_nn {l : List Pc} (h : ∀ p ∈ l, 0 ≤ p.ln) : 0 ≤ pcAll l := by
  induction l with
  | nil => simp [pcAll]
  | cons p l ih =>
    have h1 := ih (fun q hq => h q (List.mem_cons_of_mem _ hq))
    have h2 := h p (List.mem_cons_self ..)
    simp only [pcAll, pcSize]
    omega
theorem make_nn (sig : List Sg) (s : ByteArray) : ∀ p ∈ pmake sig s, 0 ≤ p.ln := by
  refine pmake_ind (P := fun a out => ∀ p ∈ out, 0 ≤ p.ln) (fun a out h8 hf h => ?_) (fun a out ha hf h => ?_) (fun p hp => by cases hp)
  · intro p hp
    rcases List.eq_nil_or_concat out with rfl | ⟨b, q, rfl⟩
    · rw [pcopy_nil] at hp
      rw [List.mem_singleton.1 hp]
      simp [pcNew]
    · rw [List.concat_eq_append] at hp h
      by_cases hc : q.cp = true ∧ q.fr + q.ln = 8 * pfind sig s a
      · rw [pcopy_on hc] at hp
        rcases List.mem_append.1 hp with hp | hp
        · exact h p (List.mem_append_left _ hp)
        · rw [List.mem_singleton.1 hp]
          have := h q (by simp)
          dsimp only
          omega
      · rw [pcopy_new hc] at hp
        rcases List.mem_append.1 hp with hp | hp
        · exact h p hp
        · rw [List.mem_singleton.1 hp]; simp [pcNew]
  · intro p hp
    rcases List.eq_nil_or_concat out with rfl | ⟨b, q, rfl⟩
    · rw [ptext_nil] at hp
      rw [List.mem_singleton.1 hp]
      simp [pcTxt]
    · rw [List.concat_eq_append] at hp h
      cases hcp : q.cp
      · rw [ptext_on hcp] at hp
        rcases List.mem_append.1 hp with hp | hp
        · exact h p (List.mem_append_left _ hp)
        · rw [List.mem_singleton.1 hp]
          exact h q (by simp)
      · rw [ptext_new hcp] at hp
        rcases List.mem_append.1 hp with hp | hp
        · exact h p hp
        · rw [List.mem_singleton.1 hp]; simp [pcTxt]
set_option maxHeartbeats 8000000 in
theorem least11_long1 (s t : ByteArray) (w : World) (hlaid : Laid w) (t1 : (190 : Int) < (s.size : Int)) :
    Calls Tryd.prog 9 #[.string s, .string t] w fun e w' => e = .returned (.bool true) ∧ Below w.heap.size w w' := by
  have B0 := Lib.hid (Below.refl w.heap.size w)
  have HL := Lib.hid hlaid
  clear hlaid
  go_enter Tryd.func9, Tryd.ntmps9
  go_wp2_with fail
  refine (dlAwake w HL.out).mono ?_
  rintro e w1 ⟨rfl, hb⟩
  have B1 := Lib.hid (B0.out.trans (hb.mono B0.out.size))
  clear hb
  go_wp2
  go_ret
  exact ⟨rfl, B1.out⟩
set_option maxHeartbeats 8000000 in
theorem least11_long2 (s t : ByteArray) (w : World) (hlaid : Laid w) (t1 : ¬ (190 : Int) < (s.size : Int)) (t2 : (10 : Int) < (t.size : Int)) :
    Calls Tryd.prog 9 #[.string s, .string t] w fun e w' => e = .returned (.bool true) ∧ Below w.heap.size w w' := by
  have B0 := Lib.hid (Below.refl w.heap.size w)
  have HL := Lib.hid hlaid
  clear hlaid
  go_enter Tryd.func9, Tryd.ntmps9
  go_wp2_with fail
  refine (dlAwake w HL.out).mono ?_
  rintro e w1 ⟨rfl, hb⟩
  have B1 := Lib.hid (B0.out.trans (hb.mono B0.out.size))
  clear hb
  go_wp2
  go_ret
  exact ⟨rfl, B1.out⟩
set_option maxHeartbeats 8000000 in
theorem least11_main (s t : ByteArray) (w : World) (hlaid : Laid w) (t1 : ¬ (190 : Int) < (s.size : Int)) (t2 : ¬ (10 : Int) < (t.size : Int)) :
    Calls Tryd.prog 9 #[.string s, .string t] w fun e w' => e = .returned (.bool true) ∧ Below w.heap.size w w' := by
  have B0 := Lib.hid (Below.refl w.heap.size w)
  have HL := Lib.hid hlaid
  have HLX := Lib.hid (fun (X : World) (hX : Below w.heap.size w X) => hlaid.below hX (Nat.le_refl _))
  have hcc : ¬ 9223372036854775807 < s.size + t.size := by omega
  have hst : (s ++ t).size = s.size + t.size := ByteArray.size_append
  have C1 := Lib.hid (fun (X : World) (hX : Below w.heap.size w X) => of10_any s X (HLX.out X hX) (by omega))
  have C2 := Lib.hid (fun A3 c3 (X : World) (hB : Below w.heap.size w X) (hX : KSig.row X A3 c3 (sgOf (nums s))) => make11_any A3 c3 (sgOf (nums s)) (s ++ t) X (HLX.out X hB) hX (least_few (by omega)) (by omega))
  unfold KPost at C1 C2
  have HT := Lib.hid (show pcAll (pmake (sgOf (nums s)) (s ++ t)) = (s.size : Int) + (t.size : Int) by rw [make_total, hst]; omega)
  have HNT := Lib.hid (make_noTT (sgOf (nums s)) (s ++ t))
  have HNN := Lib.hid (make_nn (sgOf (nums s)) (s ++ t))
  generalize sgOf (nums s) = SG at *
  generalize pmake SG (s ++ t) = L at *
  clear hst
  clear hlaid
  go_enter Tryd.func9, Tryd.ntmps9
  go_wp2_with fail
  refine (dlAwake w HL.out).mono ?_
  rintro e w1 ⟨rfl, hb⟩
  have B1 := Lib.hid (B0.out.trans (hb.mono B0.out.size))
  clear hb
  go_wp2_with fail
  refine (C1.out _ B1.out).mono ?_
  rintro e w2 ⟨A2, c2, rfl, hr2, hb⟩
  have B2 := Lib.hid (B1.out.trans (hb.mono B1.out.size))
  have R2 := Lib.hid hr2
  clear hb hr2
  go_wp2_with fail
  refine (C2.out A2 c2 _ B2.out R2.out).mono ?_
  rintro e w3 ⟨A4, c4, rfl, hr4, hb⟩
  have B3 := Lib.hid (B2.out.trans (hb.mono B2.out.size))
  have R4 := Lib.hid hr4
  clear hb hr4 R2
  have HLN : ∃ n, n = L.length := ⟨_, rfl⟩
  obtain ⟨n, hn⟩ := HLN
  have R5 := Lib.hid (fun h => pc_row R4.out h)
  have hmx := Nat.le_trans R4.out.1 R4.out.2.1
  rw [← hn] at R5 hmx ⊢
  simp only [maxLen] at hmx
  have HN := Lib.hid hn
  clear hn R4
  go_wp2
  go_loopw [7] (fun i wr => ∃ k : Nat, 1 ≤ k ∧ (k ≤ n ∨ k = 1) ∧ i = .int .i64 k ∧ Below w3.heap.size w3 wr) (fun i _ => n - (intOf i).toNat)
  case atStart => exact ⟨1, Nat.le_refl _, .inr rfl, rfl, Below.refl _ _⟩
  case round =>
    obtain ⟨k, hk1, hk2, rfl, hb⟩ := hrel
    have HBB := Lib.hid hb
    by_cases hlt : k < n
    · have t7 : (k : Int) < (n : Int) := by omega
      obtain ⟨b1, off1, hA1, hb1w, hx1, hi1⟩ := R5.out (by omega)
      have ix1 := hi1 k hlt k rfl
      have ix2 := hi1 (k - 1) (by omega) ((k : Int) - 1) (by omega)
      rw [← hA1] at ix1 ix2
      obtain ⟨c0, _, _, _⟩ := pc_cells (hx1 k hlt)
      obtain ⟨d0, _, _, _⟩ := pc_cells (hx1 (k - 1) (by omega))
      have c0 := (hb.cell (p := ⟨b1, off1 + k * 4, none⟩) hb1w).trans c0
      have d0 := (hb.cell (p := ⟨b1, off1 + (k - 1) * 4, none⟩) hb1w).trans d0
      have hnt := HNT.out (k - 1) (by rw [← HN.out]; omega)
      rw [show k - 1 + 1 = k by omega] at hnt
      generalize off1 + k * 4 = o1 at *
      generalize off1 + (k - 1) * 4 = o2 at *
      generalize (L.getD k pc0).cp = q1 at *
      generalize (L.getD (k - 1) pc0).cp = q2 at *
      clear hx1 hi1 hA1 hb
      have G1 := Lib.hid (show ∃ k' : Nat, 1 ≤ k' ∧ (k' ≤ n ∨ k' = 1) ∧ Value.int .i64 ((k : Int) + 1) = .int .i64 k' ∧ Below w3.heap.size w3 wr from ⟨k + 1, by omega, .inl (by omega), by go_num, HBB.out⟩)
      cases q1
      · have hq2 : q2 = true := by simpa using hnt
        subst hq2
        clear hnt
        go_wp2
        go_roundw
        case rel => exact ⟨k + 1, by omega, .inl (by omega), by go_num, HBB.out⟩
        case measure => simp [intOf]; omega
      · clear hnt
        go_wp2
        go_roundw
        case rel => exact ⟨k + 1, by omega, .inl (by omega), by go_num, HBB.out⟩
        case measure => simp [intOf]; omega
    · have t7 : ¬ (k : Int) < (n : Int) := by omega
      clear hb hk2 HNT
      go_wp2
      go_loopw [8, 9] (fun a i wr => ∃ (k : Nat) (v : Int), k ≤ n ∧ i = .int .i64 k ∧ a = .int .i64 v ∧ 0 ≤ v ∧ v + pcAll (L.drop k) = (s.size : Int) + (t.size : Int) ∧ Below w3.heap.size w3 wr) (fun _ i _ => n - (intOf i).toNat)
      case atStart => exact ⟨0, 0, Nat.zero_le _, rfl, rfl, by omega, by rw [List.drop_zero, HT.out]; omega, HBB.out⟩
      case round =>
        obtain ⟨k, v, hk, rfl, rfl, hv0, hv1, hb⟩ := hrel
        have HBC := Lib.hid hb
        by_cases hlt : k < n
        · have t8 : (k : Int) < (n : Int) := by omega
          obtain ⟨b1, off1, hA1, hb1w, hx1, hi1⟩ := R5.out (by omega)
          have ix1 := hi1 k hlt k rfl
          rw [← hA1] at ix1
          obtain ⟨_, _, c2, c3⟩ := pc_cells (hx1 k hlt)
          have C2 := Lib.hid ((hb.cell (p := ⟨b1, off1 + k * 4 + 2, none⟩) hb1w).trans c2)
          have C3 := Lib.hid ((hb.cell (p := ⟨b1, off1 + k * 4 + 3, none⟩) hb1w).trans c3)
          have hnn := HNN.out (L.getD k pc0) (by rw [List.getD_eq_getElem?_getD, List.getElem?_eq_getElem (by rw [← HN.out]; exact hlt)]; exact List.getElem_mem _)
          have hnd := pcAll_nn (l := L.drop (k + 1)) (fun p hp => HNN.out p (List.mem_of_mem_drop hp))
          rw [drop_cons9 pc0 (by rw [← HN.out]; exact hlt)] at hv1
          simp only [pcAll, pcSize] at hv1
          generalize L.getD k pc0 = x at *
          generalize off1 + k * 4 = o2 at *
          obtain ⟨cp, fr, ln, lit⟩ := x
          dsimp only at hnn hv1 C2 C3
          have HLT := Lib.hid (show b1 < wr.heap.size from Nat.lt_of_lt_of_le hb1w hb.size)
          have IX := Lib.hid ix1
          have f1 : IntKind.i64.wrap (v + ln) = v + ln := IntWalk.i64_in _ (by omega)
          have f2 : IntKind.i64.wrap (v + ln + (lit.size : Int)) = v + ln + (lit.size : Int) := IntWalk.i64_in _ (by omega)
          clear hx1 hi1 hA1 hb c2 c3 ix1
          go_wp2_with fail
          refine wp_region_G wr (by kernel_rfl) ?_
          refine wpG_take (i := 0) (oi := ⟨some 57, _, _, _, _, _⟩) (v := ?_) rfl (by kernel_rfl) (by kernel_rfl) (by kernel_rfl) (Or.inl ⟨by rfl, unib_val ?_⟩) ?_; rotate_left; (focus (intro w9 hSw; go_simp; try with_reducible rfl)); simp only [Act.put, List.setIfInBounds_toArray, List.set_cons_zero, List.set_cons_succ]
          refine wpG_take (i := 1) (oi := ⟨some 58, _, _, _, _, _⟩) (v := ?_) rfl (by kernel_rfl) (by kernel_rfl) (by kernel_rfl) (Or.inl ⟨by rfl, unib_val ?_⟩) ?_; rotate_left; (focus (intro w9 hSw; go_simp; try with_reducible rfl)); simp only [Act.put, List.setIfInBounds_toArray, List.set_cons_zero, List.set_cons_succ]
          refine wpG_take (i := 2) (oi := ⟨some 59, _, _, _, _, _⟩) (v := ?_) rfl (by kernel_rfl) (by kernel_rfl) (by kernel_rfl) (Or.inl ⟨by rfl, unib_val ?_⟩) ?_; rotate_left; (focus (intro w9 hSw; go_simp; try with_reducible rfl)); simp only [Act.put, List.setIfInBounds_toArray, List.set_cons_zero, List.set_cons_succ]
          refine wpG_take (i := 3) (oi := ⟨some 60, _, _, _, _, _⟩) (v := ?_) rfl (by kernel_rfl) (by kernel_rfl) (by kernel_rfl) (Or.inl ⟨by rfl, unib_val ?_⟩) ?_; rotate_left; (focus (intro w9 hSw; have q0 := IX.out w9; go_simp; try with_reducible rfl)); simp only [Act.put, List.setIfInBounds_toArray, List.set_cons_zero, List.set_cons_succ]
          refine wpG_take (i := 4) (oi := ⟨some 61, _, _, _, _, _⟩) (v := ?_) rfl (by kernel_rfl) (by kernel_rfl) (by kernel_rfl) (Or.inl ⟨by rfl, unib_val ?_⟩) ?_; rotate_left; (focus (intro w9 hSw; go_simp; try with_reducible rfl)); simp only [Act.put, List.setIfInBounds_toArray, List.set_cons_zero, List.set_cons_succ]
          refine wpG_take (i := 5) (oi := ⟨some 62, _, _, _, _, _⟩) (v := ?_) rfl (by kernel_rfl) (by kernel_rfl) (by kernel_rfl) (Or.inl ⟨by rfl, unib_val ?_⟩) ?_; rotate_left; (focus (intro w9 hSw; have q0 := (hSw.cell (p := ⟨b1, o2 + 2, none⟩) HLT.out).trans C2.out; go_simp; try with_reducible rfl)); simp only [Act.put, List.setIfInBounds_toArray, List.set_cons_zero, List.set_cons_succ]
          refine wpG_take (i := 6) (oi := ⟨some 63, _, _, _, _, _⟩) (v := ?_) rfl (by kernel_rfl) (by kernel_rfl) (by kernel_rfl) (Or.inl ⟨by rfl, unib_val ?_⟩) ?_; rotate_left; (focus (intro w9 hSw; go_simp; try with_reducible rfl)); simp only [Act.put, List.setIfInBounds_toArray, List.set_cons_zero, List.set_cons_succ]
          refine wpG_take (i := 7) (oi := ⟨some 64, _, _, _, _, _⟩) (v := ?_) rfl (by kernel_rfl) (by kernel_rfl) (by kernel_rfl) (Or.inl ⟨by rfl, unib_val ?_⟩) ?_; rotate_left; (focus (intro w9 hSw; go_simp; try with_reducible rfl)); simp only [Act.put, List.setIfInBounds_toArray, List.set_cons_zero, List.set_cons_succ]
          refine wpG_take (i := 8) (oi := ⟨some 65, _, _, _, _, _⟩) (v := ?_) rfl (by kernel_rfl) (by kernel_rfl) (by kernel_rfl) (Or.inl ⟨by rfl, unib_val ?_⟩) ?_; rotate_left; (focus (intro w9 hSw; go_simp; try with_reducible rfl)); simp only [Act.put, List.setIfInBounds_toArray, List.set_cons_zero, List.set_cons_succ]
          refine wpG_take (i := 9) (oi := ⟨some 66, _, _, _, _, _⟩) (v := ?_) rfl (by kernel_rfl) (by kernel_rfl) (by kernel_rfl) (Or.inl ⟨by rfl, unib_val ?_⟩) ?_; rotate_left; (focus (intro w9 hSw; have q0 := IX.out w9; go_simp; try with_reducible rfl)); simp only [Act.put, List.setIfInBounds_toArray, List.set_cons_zero, List.set_cons_succ]
          refine wpG_take (i := 10) (oi := ⟨some 67, _, _, _, _, _⟩) (v := ?_) rfl (by kernel_rfl) (by kernel_rfl) (by kernel_rfl) (Or.inl ⟨by rfl, unib_val ?_⟩) ?_; rotate_left; (focus (intro w9 hSw; go_simp; try with_reducible rfl)); simp only [Act.put, List.setIfInBounds_toArray, List.set_cons_zero, List.set_cons_succ]
          refine wpG_take (i := 11) (oi := ⟨some 68, _, _, _, _, _⟩) (v := ?_) rfl (by kernel_rfl) (by kernel_rfl) (by kernel_rfl) (Or.inl ⟨by rfl, unib_val ?_⟩) ?_; rotate_left; (focus (intro w9 hSw; have q0 := (hSw.cell (p := ⟨b1, o2 + 3, none⟩) HLT.out).trans C3.out; go_simp; try with_reducible rfl)); simp only [Act.put, List.setIfInBounds_toArray, List.set_cons_zero, List.set_cons_succ]
          refine wpG_take (i := 12) (oi := ⟨some 69, _, _, _, _, _⟩) (v := ?_) rfl (by kernel_rfl) (by kernel_rfl) (by kernel_rfl) (Or.inl ⟨by rfl, unib_val ?_⟩) ?_; rotate_left; (focus (intro w9 hSw; go_simp; try with_reducible rfl)); simp only [Act.put, List.setIfInBounds_toArray, List.set_cons_zero, List.set_cons_succ]
          refine wpG_take (i := 13) (oi := ⟨some 70, _, _, _, _, _⟩) (v := ?_) rfl (by kernel_rfl) (by kernel_rfl) (by kernel_rfl) (Or.inl ⟨by rfl, unib_val ?_⟩) ?_; rotate_left; (focus (intro w9 hSw; go_simp; try with_reducible rfl)); simp only [Act.put, List.setIfInBounds_toArray, List.set_cons_zero, List.set_cons_succ]
          refine wpG_take (i := 14) (oi := ⟨some 8, _, _, _, _, _⟩) (v := ?_) rfl (by kernel_rfl) (by kernel_rfl) (by kernel_rfl) (Or.inl ⟨by rfl, unib_val ?_⟩) ?_; rotate_left; (focus (intro w9 hSw; go_simp; try with_reducible rfl)); simp only [Act.put, List.setIfInBounds_toArray, List.set_cons_zero, List.set_cons_succ]
          refine wpG_done (by kernel_rfl) ?_ _
          intro w9 hSw hO
          go_wp2
          go_roundw
          case rel => exact ⟨k + 1, v + ln + (lit.size : Int), by omega, by go_num, by simp, by omega, by omega, HBC.out.trans (hSw.mono HBC.out.size)⟩
          case measure => simp [intOf]; omega
        · obtain rfl : k = n := by omega
          have t8 : ¬ (k : Int) < (k : Int) := by omega
          rw [List.drop_eq_nil_of_le (by rw [HN.out]; exact Nat.le_refl _)] at hv1
          have hv1 : v = (s.size : Int) + (t.size : Int) := by simpa [pcAll] using hv1
          subst hv1
          clear hb
          go_wp2
          go_ret
          exact ⟨rfl, B3.out.trans (HBC.out.mono B3.out.size)⟩
theorem walk_deltaLeast (s t : ByteArray) (w : World) (hlaid : Laid w) (hs : s.size ≤ maxLen) (ht : t.size ≤ maxLen) :
    Calls Tryd.prog 9 #[.string s, .string t] w fun e w' => e = .returned (.bool true) ∧ Below w.heap.size w w' := by
  by_cases t1 : (190 : Int) < (s.size : Int)
  · exact least11_long1 s t w hlaid t1
  by_cases t2 : (10 : Int) < (t.size : Int)
  · exact least11_long2 s t w hlaid t1 t2
  exact least11_main s t w hlaid t1 t2
end Go.Proofs.YtnencoainacpoaaDoor

