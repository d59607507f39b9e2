/-
  The law SectionParts: for all kinds and all slices of bytes it answers true, and nothing that was there is written.
-/
import Derived.Test.YtomlckefkamdgaaSecAwake
import Derived.Test.YtomlckefkamdgaaTexts
import Derived.Test.YtomlckefkamdgaaUniG
import Derived.Test.YtomlckefkamdgaaRows2
namespace Go.Proofs.Ytomlckefkamdgaa
open Go.RowKit WM
set_option linter.unusedVariables false
theorem sizeInt (w : World) : (sizeOf 3).run Try.prog w = .ok 1 w := by
  simp [sizeOf, go_sem]
  rfl
theorem elemInt : Try.prog.elem 22 = 3 := by kernel_rfl
theorem ix_int (b off len cap i : Nat) (h : i < len) (I : Int) (e : I = i) (w : World) : (Instr.indexAt 22 (.slice (some ⟨b, off, none⟩) len cap) (.int .i64 I)).run Try.prog w = .ok (.pointer (some ⟨b, off + i, none⟩)) w := by
  subst e
  rw [run_indexAt_slice w 22 _ len cap .i64 i (by rw [elemInt]; exact Try.underlying22), if_pos (by omega), elemInt, sizeInt]
  simp [Result.andThen, Addr.add_lit]
theorem sizeRow (w : World) : (sizeOf 25).run Try.prog w = .ok 1 w := by
  simp [sizeOf, go_sem]
  rfl
theorem elemRow : Try.prog.elem 23 = 25 := by kernel_rfl
theorem ix_rows (b off len cap i : Nat) (h : i < len) (I : Int) (e : I = i) (w : World) : (Instr.indexAt 23 (.slice (some ⟨b, off, none⟩) len cap) (.int .i64 I)).run Try.prog w = .ok (.pointer (some ⟨b, off + i, none⟩)) w := by
  subst e
  rw [run_indexAt_slice w 23 _ len cap .i64 i (by rw [elemRow]; exact Try.underlying23), if_pos (by omega), elemRow, sizeRow]
  simp [Result.andThen, Addr.add_lit]
theorem IsRows.cells {w : World} {a : Option Addr} {len cap : Nat} {R : Nat → Option Addr × Nat × Nat × List Int} (h : IsRows w a len cap R) : len ≤ cap ∧ cap ≤ maxLen ∧
    (0 < len → ∃ b off, a = some ⟨b, off, none⟩ ∧ b < w.heap.size ∧ ∀ i, i < len → w.cell? ⟨b, off + i, none⟩ = some (.slice (R i).1 (R i).2.1 (R i).2.2.1)) ∧ ∀ i, i < len → IsRow .u8 w (R i).1 (R i).2.1 (R i).2.2.1 (R i).2.2.2 := by
  rcases h with ⟨rfl, rfl, rfl⟩ | ⟨x, rfl, hl, hm, hall⟩
  · exact ⟨Nat.le_refl _, by decide, fun h => by omega, fun i h => by omega⟩
  · refine ⟨hl, hm, fun h0 => ?_, fun i hi => (hall i hi).2⟩
    obtain ⟨b, off, spot⟩ := x
    have hspot : spot = none := by simpa [Addr.add] using World.cell?_spot (hall 0 h0).1
    subst hspot
    have hlt : b < w.heap.size := by
      have := (hall 0 h0).1
      rcases Nat.lt_or_ge b w.heap.size with h2 | h2
      · exact h2
      · rw [Addr.add_lit, World.cell?] at this
        rw [Array.getElem?_eq_none h2] at this
        cases this
    refine ⟨b, off, rfl, hlt, fun i hi => ?_⟩
    have := (hall i hi).1
    rw [Addr.add_lit] at this
    exact this
/-- Sections one behind the other: n of them, from number k on. -/
def cat (K : Nat → Int) (Z : Nat → List Int) : Nat → Nat → List Int
  | _, 0 => []
  | k, n + 1 => packL (K k) (Z k) ++ cat K Z (k + 1) n
theorem cat_end (K : Nat → Int) (Z : Nat → List Int) : ∀ (n k : Nat), cat K Z k (n + 1) = cat K Z k n ++ packL (K (k + n)) (Z (k + n))
  | 0, k => by simp [cat]
  | n + 1, k => by rw [cat, cat_end K Z n (k + 1), cat, List.append_assoc, show k + 1 + n = k + (n + 1) by omega]
theorem cat_bytes {K : Nat → Int} {Z : Nat → List Int} : ∀ (n k : Nat), (∀ j, k ≤ j → j < k + n → 0 ≤ K j ∧ K j ≤ 9 ∧ AllBytes (Z j)) → AllBytes (cat K Z k n)
  | 0, k, _ => fun z hz => by simp [cat] at hz
  | n + 1, k, h => all_append (pack_bytes (h k (Nat.le_refl _) (by omega)).1 (h k (Nat.le_refl _) (by omega)).2.1 (h k (Nat.le_refl _) (by omega)).2.2) (cat_bytes n (k + 1) fun j h1 h2 => h j (by omega) (by omega))
set_option maxHeartbeats 8000000 in
theorem walk_sectionParts (a0 : Option Addr) (len0 cap0 : Nat) (z0 : List Int) (a1 : Option Addr) (len1 cap1 : Nat) (R : Nat → Option Addr × Nat × Nat × List Int) (w : World) (h0 : IsRow .i64 w a0 len0 cap0 z0) (h1 : IsRows w a1 len1 cap1 R) :
    Calls Try.prog 3 #[.slice a0 len0 cap0, .slice a1 len1 cap1] w fun e w' => e = .returned (.bool true) ∧ Below w.heap.size w w' := by
  obtain ⟨hlc0, hcm0, hl0, hwf0, hcells0⟩ := h0.cells
  obtain ⟨hlc1, hcm1, hcells1, hrows⟩ := h1.cells
  clear h0 h1
  by_cases h10 : 10 < len1
  · simp only [maxLen] at hcm0 hcm1
    clear hcells0 hcells1 hrows hwf0 hl0
    go_enter Try.func3, Try.ntmps3
    go_wp2_with fail
    refine (awake_any _).mono ?_
    rintro e w1 ⟨rfl, hb1⟩
    go_wp2
    go_ret
    exact ⟨rfl, hb1⟩
  by_cases hne : ¬ len0 = len1
  · have hne' : ((len0 : Int) != (len1 : Int)) = true := by simp; omega
    simp only [maxLen] at hcm0 hcm1
    clear hcells0 hcells1 hrows hwf0 hl0
    go_enter Try.func3, Try.ntmps3
    go_wp2_with fail
    refine (awake_any _).mono ?_
    rintro e w1 ⟨rfl, hb1⟩
    go_wp2
    go_ret
    exact ⟨rfl, hb1⟩
  have hne2 : len0 = len1 := by omega
  subst hne2
  clear hne
  obtain ⟨K, hK⟩ : ∃ K : Nat → Int, K = fun i => (z0.take len0).getD i 0 := ⟨_, rfl⟩
  obtain ⟨Zf, hZf⟩ : ∃ Zf : Nat → List Int, Zf = fun i => (R i).2.2.2.take (R i).2.1 := ⟨_, rfl⟩
  have HKW := Lib.hid (fun k (hk : k < len0) => show -9223372036854775808 ≤ K k ∧ K k ≤ 9223372036854775807 by
    have h1 := hwf0 ((z0.take len0).getD k 0) (by rw [List.getD_eq_getElem?_getD, List.getElem?_eq_getElem (by rw [hl0]; exact hk)]; exact List.getElem_mem _)
    rw [hK]
    exact bounds_i64 h1)
  have hc0 : 0 < len0 → ∃ b off, a0 = some ⟨b, off, none⟩ ∧ b < w.heap.size ∧ ∀ i, i < len0 → w.cell? ⟨b, off + i, none⟩ = some (.int .i64 (K i)) := by rw [hK]; exact hcells0
  have HR := Lib.hid (fun k (hk : k < len0) => show Byt w w.heap.size (R k).1 (Zf k) ∧ (Zf k).length = (R k).2.1 ∧ AllBytes (Zf k) ∧ (R k).2.1 ≤ (R k).2.2.1 ∧ (R k).2.2.1 ≤ maxLen ∧ ((R k).1 = none → (R k).2.2.1 = 0) by
    rw [hZf]
    obtain ⟨x1, x2, x3, x4, x5⟩ := (hrows k hk).byt
    exact ⟨x1, x2, x3, x4, x5, row_nil (hrows k hk)⟩)
  have HC0 := Lib.hid hc0
  have HC1 := Lib.hid hcells1
  clear hc0 hcells0 hcells1 hrows hwf0 hl0 hK hZf
  simp only [maxLen] at hcm0 hcm1
  generalize len0 = N at *
  obtain ⟨F, cv, hF⟩ := cvt_ex
  have HF := Lib.hid hF
  have CV := Lib.hid cv
  obtain ⟨i0, hi, hz0, hz1, hz2⟩ := info_parts infoByte
  clear cv hF
  go_enter Try.func3, Try.ntmps3
  go_wp2_with fail
  refine (awake_any _).mono ?_
  rintro e w1 ⟨rfl, hb1⟩
  go_wp2
  go_loopw [6, 7] (fun v i wr => ∃ (k : Nat) (L : List Int), k ≤ N ∧ i = .int .i64 (k : Int) ∧ L = cat K Zf 0 k ∧ L.length ≤ 200 * k ∧ (∀ j, j < k → 0 ≤ K j ∧ K j ≤ 9 ∧ (Zf j).length ≤ 100) ∧ wr.ownsRow w.heap.size 5 1 v L.length (L.map (Value.int .u8)) ∧ Below w.heap.size w wr) (fun _ i _ => N - (intOf i).toNat)
  case atStart => exact ⟨0, [], by omega, rfl, rfl, by simp, fun j hj => by omega, World.ownsRow_nil _ _ _ _, hb1⟩
  case round =>
    obtain ⟨k, L, hk, rfl, hL, hL200, hgood, hown, hbw⟩ := hrel
    have HL := Lib.hid hL
    have HGOOD := Lib.hid hgood
    have HOWN := Lib.hid hown
    have HBW := Lib.hid hbw
    clear hL hgood hown hbw hb1
    by_cases hlt : k < N
    · obtain ⟨b0, off0, rfl, hb0, hcell0⟩ := HC0.out (by omega)
      obtain ⟨b1, off1, rfl, hb1, hcell1⟩ := HC1.out (by omega)
      have HCK := Lib.hid (fun (w9 : World) (hS : Below wr.heap.size wr w9) => ((hS.cell (p := ⟨b0, off0 + k, none⟩) (Nat.lt_of_lt_of_le hb0 HBW.out.size)).trans ((HBW.out.cell (p := ⟨b0, off0 + k, none⟩) hb0).trans (hcell0 k hlt))))
      have HCR := Lib.hid (fun (w9 : World) (hS : Below wr.heap.size wr w9) => ((hS.cell (p := ⟨b1, off1 + k, none⟩) (Nat.lt_of_lt_of_le hb1 HBW.out.size)).trans ((HBW.out.cell (p := ⟨b1, off1 + k, none⟩) hb1).trans (hcell1 k hlt))))
      obtain ⟨kw0, kw1⟩ := HKW.out k hlt
      obtain ⟨y1, y2, y3, y4, y5, y6⟩ := HR.out k hlt
      have HCAT := Lib.hid (show cat K Zf 0 (k + 1) = cat K Zf 0 k ++ packL (K k) (Zf k) by have := cat_end K Zf k 0; rwa [Nat.zero_add] at this)
      have hx := Lib.hid (rfl : K k = K k)
      generalize hxk : K k = x at HCK kw0 kw1 HCAT
      generalize hzk : Zf k = Z at y1 y2 y3 HCAT
      have HXK := Lib.hid hxk
      have HZK := Lib.hid hzk
      clear hxk hzk hx
      obtain ⟨⟨Ak, nk, ck, xx⟩, hRk⟩ : ∃ r, R k = r := ⟨_, rfl⟩
      rw [hRk] at HCR y1 y2 y4 y5 y6
      simp only at HCR y1 y2 y4 y5 y6
      have Y1 := Lib.hid y1
      have Y2 := Lib.hid y2
      have Y3 := Lib.hid y3
      have Y5 := Lib.hid y5
      have Y6 := Lib.hid y6
      clear hcell0 hcell1 y1 y2 y3 y5 y6 hRk
      have hck : ck ≤ 9223372036854775807 := by have := Y5.out; simp only [maxLen] at this; omega
      by_cases hkk : x < 0 ∨ 9 < x
      · have HPN := Lib.hid (fun w => pack_kind x Ak nk ck w hkk kw0 kw1)
        clear hkk
        go_wp2_with fail
        refine wp_region_held_drew (S := fun w' => Below wr.heap.size wr w') (by kernel_rfl) (Below.refl _ _).drew (fun hS => ?_)
        refine wpAnyH_take (i := 0) (oi := ⟨some 38, _, _, _, _, _⟩) (v := ?_) rfl (by kernel_rfl) (by kernel_rfl) (by kernel_rfl) (fun _ _ _ h => h) (Or.inl ⟨by rfl, ?_⟩) hS ?_; rotate_left; (focus (intro w9 hSw; (try dsimp only at hSw); go_simp; try with_reducible rfl)); simp only [Act.put, List.setIfInBounds_toArray, List.set_cons_zero, List.set_cons_succ]
        refine wpAnyH_take (i := 1) (oi := ⟨some 39, _, _, _, _, _⟩) (v := ?_) rfl (by kernel_rfl) (by kernel_rfl) (by kernel_rfl) (fun _ _ _ h => h) (Or.inl ⟨by rfl, ?_⟩) hS ?_; rotate_left; (focus (intro w9 hSw; (try dsimp only at hSw); go_simp; try with_reducible rfl)); simp only [Act.put, List.setIfInBounds_toArray, List.set_cons_zero, List.set_cons_succ]
        refine wpAnyH_take (i := 2) (oi := ⟨some 40, _, _, _, _, _⟩) (v := ?_) rfl (by kernel_rfl) (by kernel_rfl) (by kernel_rfl) (fun _ _ _ h => h) (Or.inl ⟨by rfl, ?_⟩) hS ?_; rotate_left; (focus (intro w9 hSw; (try dsimp only at hSw); have q0 := ix_int b0 off0 N cap0 k hlt k rfl w9; go_simp; try with_reducible rfl)); simp only [Act.put, List.setIfInBounds_toArray, List.set_cons_zero, List.set_cons_succ]
        refine wpAnyH_take (i := 3) (oi := ⟨some 41, _, _, _, _, _⟩) (v := ?_) rfl (by kernel_rfl) (by kernel_rfl) (by kernel_rfl) (fun _ _ _ h => h) (Or.inl ⟨by rfl, ?_⟩) hS ?_; rotate_left; (focus (intro w9 hSw; (try dsimp only at hSw); have q0 := HCK.out w9 hSw; go_simp; try with_reducible rfl)); simp only [Act.put, List.setIfInBounds_toArray, List.set_cons_zero, List.set_cons_succ]
        refine wpAnyH_take (i := 4) (oi := ⟨some 42, _, _, _, _, _⟩) (v := ?_) rfl (by kernel_rfl) (by kernel_rfl) (by kernel_rfl) (fun _ _ _ h => h) (Or.inl ⟨by rfl, ?_⟩) hS ?_; rotate_left; (focus (intro w9 hSw; (try dsimp only at hSw); go_simp; try with_reducible rfl)); simp only [Act.put, List.setIfInBounds_toArray, List.set_cons_zero, List.set_cons_succ]
        refine wpAnyH_take (i := 5) (oi := ⟨some 43, _, _, _, _, _⟩) (v := ?_) rfl (by kernel_rfl) (by kernel_rfl) (by kernel_rfl) (fun _ _ _ h => h) (Or.inl ⟨by rfl, ?_⟩) hS ?_; rotate_left; (focus (intro w9 hSw; (try dsimp only at hSw); go_simp; try with_reducible rfl)); simp only [Act.put, List.setIfInBounds_toArray, List.set_cons_zero, List.set_cons_succ]
        refine wpAnyH_take (i := 6) (oi := ⟨some 44, _, _, _, _, _⟩) (v := ?_) rfl (by kernel_rfl) (by kernel_rfl) (by kernel_rfl) (fun _ _ _ h => h) (Or.inl ⟨by rfl, ?_⟩) hS ?_; rotate_left; (focus (intro w9 hSw; (try dsimp only at hSw); have q0 := ix_rows b1 off1 N cap1 k hlt k rfl w9; go_simp; try with_reducible rfl)); simp only [Act.put, List.setIfInBounds_toArray, List.set_cons_zero, List.set_cons_succ]
        refine wpAnyH_take (i := 7) (oi := ⟨some 45, _, _, _, _, _⟩) (v := ?_) rfl (by kernel_rfl) (by kernel_rfl) (by kernel_rfl) (fun _ _ _ h => h) (Or.inl ⟨by rfl, ?_⟩) hS ?_; rotate_left; (focus (intro w9 hSw; (try dsimp only at hSw); have q0 := HCR.out w9 hSw; go_simp; try with_reducible rfl)); simp only [Act.put, List.setIfInBounds_toArray, List.set_cons_zero, List.set_cons_succ]
        refine wpAnyH_ready (rs := [8]) (by kernel_rfl) (by simp) (AllReadyH.cons (o := ⟨some 46, _, _, _, _, _⟩) rfl (fun K hK => ?_) AllReadyH.nil)
        go_simp
        refine (HPN.out _).mono ?_
        rintro e w5 ⟨rfl, rfl⟩
        refine hK.out _ _ hS (fun hS => ?_)
        clear hK K
        refine wpAnyH_take (i := 9) (oi := ⟨some 37, _, _, _, _, _⟩) (v := ?_) rfl (by kernel_rfl) (by kernel_rfl) (by kernel_rfl) (fun _ _ _ h => h) (Or.inl ⟨by rfl, ?_⟩) hS ?_; rotate_left; (focus (intro w9 hSw; (try dsimp only at hSw); go_simp; try with_reducible rfl)); simp only [Act.put, List.setIfInBounds_toArray, List.set_cons_zero, List.set_cons_succ]
        refine wpAnyH_take (i := 10) (oi := ⟨some 47, _, _, _, _, _⟩) (v := ?_) rfl (by kernel_rfl) (by kernel_rfl) (by kernel_rfl) (fun _ _ _ h => h) (Or.inl ⟨by rfl, ?_⟩) hS ?_; rotate_left; (focus (intro w9 hSw; (try dsimp only at hSw); go_simp; try with_reducible rfl)); simp only [Act.put, List.setIfInBounds_toArray, List.set_cons_zero, List.set_cons_succ]
        refine wpAnyH_take (i := 11) (oi := ⟨some 48, _, _, _, _, _⟩) (v := ?_) rfl (by kernel_rfl) (by kernel_rfl) (by kernel_rfl) (fun _ _ _ h => h) (Or.inl ⟨by rfl, ?_⟩) hS ?_; rotate_left; (focus (intro w9 hSw; (try dsimp only at hSw); go_simp; try with_reducible rfl)); simp only [Act.put, List.setIfInBounds_toArray, List.set_cons_zero, List.set_cons_succ]
        refine wpAnyH_take (i := 12) (oi := ⟨some 8, _, _, _, _, _⟩) (v := ?_) rfl (by kernel_rfl) (by kernel_rfl) (by kernel_rfl) (fun _ _ _ h => h) (Or.inl ⟨by rfl, ?_⟩) hS ?_; rotate_left; (focus (intro w9 hSw; (try dsimp only at hSw); go_simp; try with_reducible rfl)); simp only [Act.put, List.setIfInBounds_toArray, List.set_cons_zero, List.set_cons_succ]
        refine wpAnyH_take (i := 13) (oi := ⟨some 9, _, _, _, _, _⟩) (v := ?_) rfl (by kernel_rfl) (by kernel_rfl) (by kernel_rfl) (fun _ _ _ h => h) (Or.inl ⟨by rfl, ?_⟩) hS ?_; rotate_left; (focus (intro w9 hSw; (try dsimp only at hSw); go_simp; try with_reducible rfl)); simp only [Act.put, List.setIfInBounds_toArray, List.set_cons_zero, List.set_cons_succ]
        refine wpAnyH_done (by kernel_rfl) ?_ _
        clear hS
        go_wp2
        go_ret
        exact ⟨rfl, HBW.out.drew⟩
      · have hx0 : 0 ≤ x := by omega
        have hx9 : x ≤ 9 := by omega
        by_cases hbig : 100000 < nk
        · have HPN := Lib.hid (fun w => pack_long x Ak nk ck w hx0 hx9 hbig (Nat.le_trans y4 Y5.out))
          go_wp2_with fail
          refine wp_region_held_drew (S := fun w' => Below wr.heap.size wr w') (by kernel_rfl) (Below.refl _ _).drew (fun hS => ?_)
          refine wpAnyH_take (i := 0) (oi := ⟨some 38, _, _, _, _, _⟩) (v := ?_) rfl (by kernel_rfl) (by kernel_rfl) (by kernel_rfl) (fun _ _ _ h => h) (Or.inl ⟨by rfl, ?_⟩) hS ?_; rotate_left; (focus (intro w9 hSw; (try dsimp only at hSw); go_simp; try with_reducible rfl)); simp only [Act.put, List.setIfInBounds_toArray, List.set_cons_zero, List.set_cons_succ]
          refine wpAnyH_take (i := 1) (oi := ⟨some 39, _, _, _, _, _⟩) (v := ?_) rfl (by kernel_rfl) (by kernel_rfl) (by kernel_rfl) (fun _ _ _ h => h) (Or.inl ⟨by rfl, ?_⟩) hS ?_; rotate_left; (focus (intro w9 hSw; (try dsimp only at hSw); go_simp; try with_reducible rfl)); simp only [Act.put, List.setIfInBounds_toArray, List.set_cons_zero, List.set_cons_succ]
          refine wpAnyH_take (i := 2) (oi := ⟨some 40, _, _, _, _, _⟩) (v := ?_) rfl (by kernel_rfl) (by kernel_rfl) (by kernel_rfl) (fun _ _ _ h => h) (Or.inl ⟨by rfl, ?_⟩) hS ?_; rotate_left; (focus (intro w9 hSw; (try dsimp only at hSw); have q0 := ix_int b0 off0 N cap0 k hlt k rfl w9; go_simp; try with_reducible rfl)); simp only [Act.put, List.setIfInBounds_toArray, List.set_cons_zero, List.set_cons_succ]
          refine wpAnyH_take (i := 3) (oi := ⟨some 41, _, _, _, _, _⟩) (v := ?_) rfl (by kernel_rfl) (by kernel_rfl) (by kernel_rfl) (fun _ _ _ h => h) (Or.inl ⟨by rfl, ?_⟩) hS ?_; rotate_left; (focus (intro w9 hSw; (try dsimp only at hSw); have q0 := HCK.out w9 hSw; go_simp; try with_reducible rfl)); simp only [Act.put, List.setIfInBounds_toArray, List.set_cons_zero, List.set_cons_succ]
          refine wpAnyH_take (i := 4) (oi := ⟨some 42, _, _, _, _, _⟩) (v := ?_) rfl (by kernel_rfl) (by kernel_rfl) (by kernel_rfl) (fun _ _ _ h => h) (Or.inl ⟨by rfl, ?_⟩) hS ?_; rotate_left; (focus (intro w9 hSw; (try dsimp only at hSw); go_simp; try with_reducible rfl)); simp only [Act.put, List.setIfInBounds_toArray, List.set_cons_zero, List.set_cons_succ]
          refine wpAnyH_take (i := 5) (oi := ⟨some 43, _, _, _, _, _⟩) (v := ?_) rfl (by kernel_rfl) (by kernel_rfl) (by kernel_rfl) (fun _ _ _ h => h) (Or.inl ⟨by rfl, ?_⟩) hS ?_; rotate_left; (focus (intro w9 hSw; (try dsimp only at hSw); go_simp; try with_reducible rfl)); simp only [Act.put, List.setIfInBounds_toArray, List.set_cons_zero, List.set_cons_succ]
          refine wpAnyH_take (i := 6) (oi := ⟨some 44, _, _, _, _, _⟩) (v := ?_) rfl (by kernel_rfl) (by kernel_rfl) (by kernel_rfl) (fun _ _ _ h => h) (Or.inl ⟨by rfl, ?_⟩) hS ?_; rotate_left; (focus (intro w9 hSw; (try dsimp only at hSw); have q0 := ix_rows b1 off1 N cap1 k hlt k rfl w9; go_simp; try with_reducible rfl)); simp only [Act.put, List.setIfInBounds_toArray, List.set_cons_zero, List.set_cons_succ]
          refine wpAnyH_take (i := 7) (oi := ⟨some 45, _, _, _, _, _⟩) (v := ?_) rfl (by kernel_rfl) (by kernel_rfl) (by kernel_rfl) (fun _ _ _ h => h) (Or.inl ⟨by rfl, ?_⟩) hS ?_; rotate_left; (focus (intro w9 hSw; (try dsimp only at hSw); have q0 := HCR.out w9 hSw; go_simp; try with_reducible rfl)); simp only [Act.put, List.setIfInBounds_toArray, List.set_cons_zero, List.set_cons_succ]
          refine wpAnyH_ready (rs := [8]) (by kernel_rfl) (by simp) (AllReadyH.cons (o := ⟨some 46, _, _, _, _, _⟩) rfl (fun K hK => ?_) AllReadyH.nil)
          go_simp
          refine (HPN.out _).mono ?_
          rintro e w5 ⟨rfl, rfl⟩
          refine hK.out _ _ hS (fun hS => ?_)
          clear hK K
          refine wpAnyH_take (i := 9) (oi := ⟨some 37, _, _, _, _, _⟩) (v := ?_) rfl (by kernel_rfl) (by kernel_rfl) (by kernel_rfl) (fun _ _ _ h => h) (Or.inl ⟨by rfl, ?_⟩) hS ?_; rotate_left; (focus (intro w9 hSw; (try dsimp only at hSw); go_simp; try with_reducible rfl)); simp only [Act.put, List.setIfInBounds_toArray, List.set_cons_zero, List.set_cons_succ]
          refine wpAnyH_take (i := 10) (oi := ⟨some 47, _, _, _, _, _⟩) (v := ?_) rfl (by kernel_rfl) (by kernel_rfl) (by kernel_rfl) (fun _ _ _ h => h) (Or.inl ⟨by rfl, ?_⟩) hS ?_; rotate_left; (focus (intro w9 hSw; (try dsimp only at hSw); go_simp; try with_reducible rfl)); simp only [Act.put, List.setIfInBounds_toArray, List.set_cons_zero, List.set_cons_succ]
          refine wpAnyH_take (i := 11) (oi := ⟨some 48, _, _, _, _, _⟩) (v := ?_) rfl (by kernel_rfl) (by kernel_rfl) (by kernel_rfl) (fun _ _ _ h => h) (Or.inl ⟨by rfl, ?_⟩) hS ?_; rotate_left; (focus (intro w9 hSw; (try dsimp only at hSw); go_simp; try with_reducible rfl)); simp only [Act.put, List.setIfInBounds_toArray, List.set_cons_zero, List.set_cons_succ]
          refine wpAnyH_take (i := 12) (oi := ⟨some 8, _, _, _, _, _⟩) (v := ?_) rfl (by kernel_rfl) (by kernel_rfl) (by kernel_rfl) (fun _ _ _ h => h) (Or.inl ⟨by rfl, ?_⟩) hS ?_; rotate_left; (focus (intro w9 hSw; (try dsimp only at hSw); go_simp; try with_reducible rfl)); simp only [Act.put, List.setIfInBounds_toArray, List.set_cons_zero, List.set_cons_succ]
          refine wpAnyH_take (i := 13) (oi := ⟨some 9, _, _, _, _, _⟩) (v := ?_) rfl (by kernel_rfl) (by kernel_rfl) (by kernel_rfl) (fun _ _ _ h => h) (Or.inl ⟨by rfl, ?_⟩) hS ?_; rotate_left; (focus (intro w9 hSw; (try dsimp only at hSw); go_simp; try with_reducible rfl)); simp only [Act.put, List.setIfInBounds_toArray, List.set_cons_zero, List.set_cons_succ]
          refine wpAnyH_done (by kernel_rfl) ?_ _
          clear hS
          go_wp2
          go_ret
          exact ⟨rfl, HBW.out.drew⟩
        · have HPY := Lib.hid (fun (w' : World) (hw : Below wr.heap.size wr w') => pack_yes x Ak nk ck Z w' hx0 hx9 (by omega) (Y1.out.below (HBW.out.trans (hw.mono HBW.out.size))) Y2.out Y3.out (Nat.le_trans HBW.out.size hw.size) Y6.out)
          by_cases h100 : 100 < nk
          · generalize packL x Z = P at *
            go_wp2_with fail
            refine wp_region_held_drew (S := fun w' => Below wr.heap.size wr w') (by kernel_rfl) (Below.refl _ _).drew (fun hS => ?_)
            refine wpAnyH_take (i := 0) (oi := ⟨some 38, _, _, _, _, _⟩) (v := ?_) rfl (by kernel_rfl) (by kernel_rfl) (by kernel_rfl) (fun _ _ _ h => h) (Or.inl ⟨by rfl, ?_⟩) hS ?_; rotate_left; (focus (intro w9 hSw; (try dsimp only at hSw); go_simp; try with_reducible rfl)); simp only [Act.put, List.setIfInBounds_toArray, List.set_cons_zero, List.set_cons_succ]
            refine wpAnyH_take (i := 1) (oi := ⟨some 39, _, _, _, _, _⟩) (v := ?_) rfl (by kernel_rfl) (by kernel_rfl) (by kernel_rfl) (fun _ _ _ h => h) (Or.inl ⟨by rfl, ?_⟩) hS ?_; rotate_left; (focus (intro w9 hSw; (try dsimp only at hSw); go_simp; try with_reducible rfl)); simp only [Act.put, List.setIfInBounds_toArray, List.set_cons_zero, List.set_cons_succ]
            refine wpAnyH_take (i := 2) (oi := ⟨some 40, _, _, _, _, _⟩) (v := ?_) rfl (by kernel_rfl) (by kernel_rfl) (by kernel_rfl) (fun _ _ _ h => h) (Or.inl ⟨by rfl, ?_⟩) hS ?_; rotate_left; (focus (intro w9 hSw; (try dsimp only at hSw); have q0 := ix_int b0 off0 N cap0 k hlt k rfl w9; go_simp; try with_reducible rfl)); simp only [Act.put, List.setIfInBounds_toArray, List.set_cons_zero, List.set_cons_succ]
            refine wpAnyH_take (i := 3) (oi := ⟨some 41, _, _, _, _, _⟩) (v := ?_) rfl (by kernel_rfl) (by kernel_rfl) (by kernel_rfl) (fun _ _ _ h => h) (Or.inl ⟨by rfl, ?_⟩) hS ?_; rotate_left; (focus (intro w9 hSw; (try dsimp only at hSw); have q0 := HCK.out w9 hSw; go_simp; try with_reducible rfl)); simp only [Act.put, List.setIfInBounds_toArray, List.set_cons_zero, List.set_cons_succ]
            refine wpAnyH_take (i := 4) (oi := ⟨some 42, _, _, _, _, _⟩) (v := ?_) rfl (by kernel_rfl) (by kernel_rfl) (by kernel_rfl) (fun _ _ _ h => h) (Or.inl ⟨by rfl, ?_⟩) hS ?_; rotate_left; (focus (intro w9 hSw; (try dsimp only at hSw); go_simp; try with_reducible rfl)); simp only [Act.put, List.setIfInBounds_toArray, List.set_cons_zero, List.set_cons_succ]
            refine wpAnyH_take (i := 5) (oi := ⟨some 43, _, _, _, _, _⟩) (v := ?_) rfl (by kernel_rfl) (by kernel_rfl) (by kernel_rfl) (fun _ _ _ h => h) (Or.inl ⟨by rfl, ?_⟩) hS ?_; rotate_left; (focus (intro w9 hSw; (try dsimp only at hSw); go_simp; try with_reducible rfl)); simp only [Act.put, List.setIfInBounds_toArray, List.set_cons_zero, List.set_cons_succ]
            refine wpAnyH_take (i := 6) (oi := ⟨some 44, _, _, _, _, _⟩) (v := ?_) rfl (by kernel_rfl) (by kernel_rfl) (by kernel_rfl) (fun _ _ _ h => h) (Or.inl ⟨by rfl, ?_⟩) hS ?_; rotate_left; (focus (intro w9 hSw; (try dsimp only at hSw); have q0 := ix_rows b1 off1 N cap1 k hlt k rfl w9; go_simp; try with_reducible rfl)); simp only [Act.put, List.setIfInBounds_toArray, List.set_cons_zero, List.set_cons_succ]
            refine wpAnyH_take (i := 7) (oi := ⟨some 45, _, _, _, _, _⟩) (v := ?_) rfl (by kernel_rfl) (by kernel_rfl) (by kernel_rfl) (fun _ _ _ h => h) (Or.inl ⟨by rfl, ?_⟩) hS ?_; rotate_left; (focus (intro w9 hSw; (try dsimp only at hSw); have q0 := HCR.out w9 hSw; go_simp; try with_reducible rfl)); simp only [Act.put, List.setIfInBounds_toArray, List.set_cons_zero, List.set_cons_succ]
            refine wpAnyH_ready (rs := [8]) (by kernel_rfl) (by simp) (AllReadyH.cons (o := ⟨some 46, _, _, _, _, _⟩) rfl (fun K hK => ?_) AllReadyH.nil)
            go_simp
            refine (HPY.out _ ((Below.refl wr.heap.size wr).drew)).mono ?_
            rintro e w5 ⟨A5, n5, c5, rfl, hn5, hnc5, hcm5, own5, hb5⟩
            have hS5 : Below wr.heap.size wr w5 := ((Below.refl wr.heap.size wr).drew).trans hb5
            have HN5 := Lib.hid hn5
            have HY5 := Lib.hid (Byt.own (zs := P) own5)
            have HNIL5 := Lib.hid (own_nil own5)
            have OWN5 := Lib.hid (own_below HOWN.out hS5)
            have B5 := Lib.hid (HBW.out.trans (hS5.mono HBW.out.size))
            have HCR5 := Lib.hid (HCR.out w5 hS5)
            clear hn5 own5 hb5 hS
            simp only [maxLen] at hcm5
            refine hK.out _ _ hS5 (fun hS => ?_)
            clear hK K hS5
            refine wpAnyH_take (i := 9) (oi := ⟨some 37, _, _, _, _, _⟩) (v := ?_) rfl (by kernel_rfl) (by kernel_rfl) (by kernel_rfl) (fun _ _ _ h => h) (Or.inl ⟨by rfl, ?_⟩) hS ?_; rotate_left; (focus (intro w9 hSw; (try dsimp only at hSw); go_simp; try with_reducible rfl)); simp only [Act.put, List.setIfInBounds_toArray, List.set_cons_zero, List.set_cons_succ]
            refine wpAnyH_take (i := 10) (oi := ⟨some 47, _, _, _, _, _⟩) (v := ?_) rfl (by kernel_rfl) (by kernel_rfl) (by kernel_rfl) (fun _ _ _ h => h) (Or.inl ⟨by rfl, ?_⟩) hS ?_; rotate_left; (focus (intro w9 hSw; (try dsimp only at hSw); go_simp; try with_reducible rfl)); simp only [Act.put, List.setIfInBounds_toArray, List.set_cons_zero, List.set_cons_succ]
            refine wpAnyH_take (i := 11) (oi := ⟨some 48, _, _, _, _, _⟩) (v := ?_) rfl (by kernel_rfl) (by kernel_rfl) (by kernel_rfl) (fun _ _ _ h => h) (Or.inl ⟨by rfl, ?_⟩) hS ?_; rotate_left; (focus (intro w9 hSw; (try dsimp only at hSw); go_simp; try with_reducible rfl)); simp only [Act.put, List.setIfInBounds_toArray, List.set_cons_zero, List.set_cons_succ]
            refine wpAnyH_take (i := 12) (oi := ⟨some 8, _, _, _, _, _⟩) (v := ?_) rfl (by kernel_rfl) (by kernel_rfl) (by kernel_rfl) (fun _ _ _ h => h) (Or.inl ⟨by rfl, ?_⟩) hS ?_; rotate_left; (focus (intro w9 hSw; (try dsimp only at hSw); go_simp; try with_reducible rfl)); simp only [Act.put, List.setIfInBounds_toArray, List.set_cons_zero, List.set_cons_succ]
            refine wpAnyH_take (i := 13) (oi := ⟨some 9, _, _, _, _, _⟩) (v := ?_) rfl (by kernel_rfl) (by kernel_rfl) (by kernel_rfl) (fun _ _ _ h => h) (Or.inl ⟨by rfl, ?_⟩) hS ?_; rotate_left; (focus (intro w9 hSw; (try dsimp only at hSw); go_simp; try with_reducible rfl)); simp only [Act.put, List.setIfInBounds_toArray, List.set_cons_zero, List.set_cons_succ]
            refine wpAnyH_done (by kernel_rfl) ?_ _
            have hc5 := HCR5.out
            clear hS
            go_wp2
            go_ret
            exact ⟨rfl, B5.out⟩
          · have HP200 := Lib.hid (show (packL x Z).length ≤ 200 by rw [pack_len, Y2.out]; have := enc_len (nk : Int); omega)
            have HGK := Lib.hid (show 0 ≤ K k ∧ K k ≤ 9 ∧ (Zf k).length ≤ 100 by rw [HXK.out, HZK.out, Y2.out]; omega)
            generalize packL x Z = P at *
            go_wp2_with fail
            refine wp_region_held_drew (S := fun w' => Below wr.heap.size wr w') (by kernel_rfl) (Below.refl _ _).drew (fun hS => ?_)
            refine wpAnyH_take (i := 0) (oi := ⟨some 38, _, _, _, _, _⟩) (v := ?_) rfl (by kernel_rfl) (by kernel_rfl) (by kernel_rfl) (fun _ _ _ h => h) (Or.inl ⟨by rfl, ?_⟩) hS ?_; rotate_left; (focus (intro w9 hSw; (try dsimp only at hSw); go_simp; try with_reducible rfl)); simp only [Act.put, List.setIfInBounds_toArray, List.set_cons_zero, List.set_cons_succ]
            refine wpAnyH_take (i := 1) (oi := ⟨some 39, _, _, _, _, _⟩) (v := ?_) rfl (by kernel_rfl) (by kernel_rfl) (by kernel_rfl) (fun _ _ _ h => h) (Or.inl ⟨by rfl, ?_⟩) hS ?_; rotate_left; (focus (intro w9 hSw; (try dsimp only at hSw); go_simp; try with_reducible rfl)); simp only [Act.put, List.setIfInBounds_toArray, List.set_cons_zero, List.set_cons_succ]
            refine wpAnyH_take (i := 2) (oi := ⟨some 40, _, _, _, _, _⟩) (v := ?_) rfl (by kernel_rfl) (by kernel_rfl) (by kernel_rfl) (fun _ _ _ h => h) (Or.inl ⟨by rfl, ?_⟩) hS ?_; rotate_left; (focus (intro w9 hSw; (try dsimp only at hSw); have q0 := ix_int b0 off0 N cap0 k hlt k rfl w9; go_simp; try with_reducible rfl)); simp only [Act.put, List.setIfInBounds_toArray, List.set_cons_zero, List.set_cons_succ]
            refine wpAnyH_take (i := 3) (oi := ⟨some 41, _, _, _, _, _⟩) (v := ?_) rfl (by kernel_rfl) (by kernel_rfl) (by kernel_rfl) (fun _ _ _ h => h) (Or.inl ⟨by rfl, ?_⟩) hS ?_; rotate_left; (focus (intro w9 hSw; (try dsimp only at hSw); have q0 := HCK.out w9 hSw; go_simp; try with_reducible rfl)); simp only [Act.put, List.setIfInBounds_toArray, List.set_cons_zero, List.set_cons_succ]
            refine wpAnyH_take (i := 4) (oi := ⟨some 42, _, _, _, _, _⟩) (v := ?_) rfl (by kernel_rfl) (by kernel_rfl) (by kernel_rfl) (fun _ _ _ h => h) (Or.inl ⟨by rfl, ?_⟩) hS ?_; rotate_left; (focus (intro w9 hSw; (try dsimp only at hSw); go_simp; try with_reducible rfl)); simp only [Act.put, List.setIfInBounds_toArray, List.set_cons_zero, List.set_cons_succ]
            refine wpAnyH_take (i := 5) (oi := ⟨some 43, _, _, _, _, _⟩) (v := ?_) rfl (by kernel_rfl) (by kernel_rfl) (by kernel_rfl) (fun _ _ _ h => h) (Or.inl ⟨by rfl, ?_⟩) hS ?_; rotate_left; (focus (intro w9 hSw; (try dsimp only at hSw); go_simp; try with_reducible rfl)); simp only [Act.put, List.setIfInBounds_toArray, List.set_cons_zero, List.set_cons_succ]
            refine wpAnyH_take (i := 6) (oi := ⟨some 44, _, _, _, _, _⟩) (v := ?_) rfl (by kernel_rfl) (by kernel_rfl) (by kernel_rfl) (fun _ _ _ h => h) (Or.inl ⟨by rfl, ?_⟩) hS ?_; rotate_left; (focus (intro w9 hSw; (try dsimp only at hSw); have q0 := ix_rows b1 off1 N cap1 k hlt k rfl w9; go_simp; try with_reducible rfl)); simp only [Act.put, List.setIfInBounds_toArray, List.set_cons_zero, List.set_cons_succ]
            refine wpAnyH_take (i := 7) (oi := ⟨some 45, _, _, _, _, _⟩) (v := ?_) rfl (by kernel_rfl) (by kernel_rfl) (by kernel_rfl) (fun _ _ _ h => h) (Or.inl ⟨by rfl, ?_⟩) hS ?_; rotate_left; (focus (intro w9 hSw; (try dsimp only at hSw); have q0 := HCR.out w9 hSw; go_simp; try with_reducible rfl)); simp only [Act.put, List.setIfInBounds_toArray, List.set_cons_zero, List.set_cons_succ]
            refine wpAnyH_ready (rs := [8]) (by kernel_rfl) (by simp) (AllReadyH.cons (o := ⟨some 46, _, _, _, _, _⟩) rfl (fun K hK => ?_) AllReadyH.nil)
            go_simp
            refine (HPY.out _ ((Below.refl wr.heap.size wr).drew)).mono ?_
            rintro e w5 ⟨A5, n5, c5, rfl, hn5, hnc5, hcm5, own5, hb5⟩
            have hS5 : Below wr.heap.size wr w5 := ((Below.refl wr.heap.size wr).drew).trans hb5
            have HN5 := Lib.hid hn5
            have HY5 := Lib.hid (Byt.own (zs := P) own5)
            have HNIL5 := Lib.hid (own_nil own5)
            have OWN5 := Lib.hid (own_below HOWN.out hS5)
            have B5 := Lib.hid (HBW.out.trans (hS5.mono HBW.out.size))
            have HCR5 := Lib.hid (HCR.out w5 hS5)
            clear hn5 own5 hb5 hS
            simp only [maxLen] at hcm5
            refine hK.out _ _ hS5 (fun hS => ?_)
            clear hK K hS5
            refine wpAnyH_take (i := 9) (oi := ⟨some 37, _, _, _, _, _⟩) (v := ?_) rfl (by kernel_rfl) (by kernel_rfl) (by kernel_rfl) (fun _ _ _ h => h) (Or.inl ⟨by rfl, ?_⟩) hS ?_; rotate_left; (focus (intro w9 hSw; (try dsimp only at hSw); go_simp; try with_reducible rfl)); simp only [Act.put, List.setIfInBounds_toArray, List.set_cons_zero, List.set_cons_succ]
            refine wpAnyH_take (i := 10) (oi := ⟨some 47, _, _, _, _, _⟩) (v := ?_) rfl (by kernel_rfl) (by kernel_rfl) (by kernel_rfl) (fun _ _ _ h => h) (Or.inl ⟨by rfl, ?_⟩) hS ?_; rotate_left; (focus (intro w9 hSw; (try dsimp only at hSw); go_simp; try with_reducible rfl)); simp only [Act.put, List.setIfInBounds_toArray, List.set_cons_zero, List.set_cons_succ]
            refine wpAnyH_take (i := 11) (oi := ⟨some 48, _, _, _, _, _⟩) (v := ?_) rfl (by kernel_rfl) (by kernel_rfl) (by kernel_rfl) (fun _ _ _ h => h) (Or.inl ⟨by rfl, ?_⟩) hS ?_; rotate_left; (focus (intro w9 hSw; (try dsimp only at hSw); go_simp; try with_reducible rfl)); simp only [Act.put, List.setIfInBounds_toArray, List.set_cons_zero, List.set_cons_succ]
            refine wpAnyH_take (i := 12) (oi := ⟨some 8, _, _, _, _, _⟩) (v := ?_) rfl (by kernel_rfl) (by kernel_rfl) (by kernel_rfl) (fun _ _ _ h => h) (Or.inl ⟨by rfl, ?_⟩) hS ?_; rotate_left; (focus (intro w9 hSw; (try dsimp only at hSw); go_simp; try with_reducible rfl)); simp only [Act.put, List.setIfInBounds_toArray, List.set_cons_zero, List.set_cons_succ]
            refine wpAnyH_take (i := 13) (oi := ⟨some 9, _, _, _, _, _⟩) (v := ?_) rfl (by kernel_rfl) (by kernel_rfl) (by kernel_rfl) (fun _ _ _ h => h) (Or.inl ⟨by rfl, ?_⟩) hS ?_; rotate_left; (focus (intro w9 hSw; (try dsimp only at hSw); go_simp; try with_reducible rfl)); simp only [Act.put, List.setIfInBounds_toArray, List.set_cons_zero, List.set_cons_succ]
            refine wpAnyH_done (by kernel_rfl) ?_ _
            have hc5 := HCR5.out
            have hn9 : n5 ≤ 200 := by rw [← HN5.out]; exact HP200.out
            have hw5 := B5.out.size
            clear hS
            go_wp2_with (first | (at_builtin; refine wpList_append_byt (o := ⟨some 61, _, _, _, _, _⟩) _ rfl _ _ 25 rfl w.heap.size 5 i0 Try.underlying25 hi hz0 hz1 hz2 u6 L.length L rfl OWN5.out w5.heap.size A5 n5 c5 P rfl HY5.out HN5.out HNIL5.out (by omega) hw5 ?_; intro v6 w6 ho6 hg6))
            go_roundw
            case rel =>
              refine ⟨k + 1, L ++ P, by omega, by go_num, ?_, ?_, ?_, ?_, ?_⟩
              · rw [HCAT.out, HL.out]
              · rw [List.length_append]; have := HP200.out; omega
              · intro j hj
                rcases Nat.lt_or_ge j k with h1 | h1
                · exact HGOOD.out j h1
                · rw [show j = k by omega]; exact HGK.out
              · rw [List.length_append, HN5.out]; exact ho6
              · exact B5.out.grown hg6 B5.out.size (fun g hg => own_base OWN5.out hg)
            case measure => simp [intOf]; omega
    · obtain rfl : N = k := by omega
      have hg := gives_own (w := w) HOWN.out HBW.out
      obtain ⟨A, n, c, hv, hn, hnc, hcm, hown, _⟩ := hg
      injection hv with hv
      subst hv
      have HYA := Lib.hid (Byt.own (zs := L) hown)
      have HN := Lib.hid hn
      have HCM := Lib.hid hcm
      have HCB := Lib.hid (fun (k : Nat) (hk : k ≤ N) => cat_bytes (K := K) (Z := Zf) (N - k) k (fun j h1 h2 => ⟨(HGOOD.out j (by omega)).1, (HGOOD.out j (by omega)).2.1, (HR.out j (by omega)).2.2.1⟩))
      clear hown hn HOWN hcm hlt hk
      go_wp2
      go_loopw [6, 10] (fun v i wr => ∃ (k : Nat) (A : Option Addr) (n c : Nat), k ≤ N ∧ i = .int .i64 (k : Int) ∧ v = .slice A n c ∧ Byt wr wr.heap.size A (cat K Zf k (N - k)) ∧ (cat K Zf k (N - k)).length = n ∧ n ≤ c ∧ c ≤ 9223372036854775807 ∧ Below w.heap.size w wr) (fun _ i _ => N - (intOf i).toNat)
      case atStart => exact ⟨0, A, n, c, by omega, rfl, rfl, by rw [Nat.sub_zero, ← HL.out]; exact HYA.out, by rw [Nat.sub_zero, ← HL.out]; exact HN.out, hnc, by have := HCM.out; simp only [maxLen] at this; omega, HBW.out⟩
      case round =>
        clear HYA HN HCM HBW hnc
        obtain ⟨k, A, n, c, hk, rfl, rfl, hby, hlen, hnc, hcm, hbw⟩ := hrel
        have HYA := Lib.hid hby
        have HAL := Lib.hid hlen
        have HBW := Lib.hid hbw
        clear hby hlen hbw
        by_cases hlt : k < N
        · obtain ⟨b0, off0, rfl, hb0, hcell0⟩ := HC0.out (by omega)
          obtain ⟨b1, off1, rfl, hb1, hcell1⟩ := HC1.out (by omega)
          have HCK := Lib.hid (fun (w9 : World) (hS : Below wr.heap.size wr w9) => ((hS.cell (p := ⟨b0, off0 + k, none⟩) (Nat.lt_of_lt_of_le hb0 HBW.out.size)).trans ((HBW.out.cell (p := ⟨b0, off0 + k, none⟩) hb0).trans (hcell0 k hlt))))
          have HCR := Lib.hid (fun (w9 : World) (hS : Below wr.heap.size wr w9) => ((hS.cell (p := ⟨b1, off1 + k, none⟩) (Nat.lt_of_lt_of_le hb1 HBW.out.size)).trans ((HBW.out.cell (p := ⟨b1, off1 + k, none⟩) hb1).trans (hcell1 k hlt))))
          obtain ⟨y1, y2, y3, y4, y5, y6⟩ := HR.out k hlt
          obtain ⟨g1, g2, g3⟩ := HGOOD.out k hlt
          have hcat : cat K Zf k (N - k) = packL (K k) (Zf k) ++ cat K Zf (k + 1) (N - (k + 1)) := by rw [show N - k = (N - (k + 1)) + 1 by omega, cat]
          have ho := open_any A n c _ wr HYA.out (Nat.le_refl _) HAL.out (HCB.out k hk) hnc (by simp only [maxLen]; omega)
          rw [hcat, opn_pack (K k) (Zf k) _ g2 (by omega)] at ho
          have hal := HAL.out
          rw [hcat, List.length_append] at hal
          have HDROP := Lib.hid (show (cat K Zf k (N - k)).drop (packL (K k) (Zf k)).length = cat K Zf (k + 1) (N - (k + 1)) by rw [hcat, List.drop_append_of_le_length (Nat.le_refl _), List.drop_length, List.nil_append])
          generalize (packL (K k) (Zf k)).length = p at ho hal HDROP
          have hpn : p ≤ n := by omega
          have HSL := Lib.hid (sl_l A n c p hpn (p : Int) rfl)
          have HLE := Lib.hid (show decide ((n : Int) < (p : Int)) = false by simp; omega)
          have HO := Lib.hid ho
          generalize K k = x at HCK HO
          generalize Zf k = Z at y1 y2 y3 HO
          obtain ⟨⟨Ak, nk, ck, xx⟩, hRk⟩ : ∃ r, R k = r := ⟨_, rfl⟩
          rw [hRk] at HCR y1 y2 y4 y5 y6
          simp only at HCR y1 y2 y4 y5 y6
          have HBZ := Lib.hid (fun (w9 : World) (hS : Below wr.heap.size wr w9) => y1.below (HBW.out.trans (hS.mono HBW.out.size)))
          have HLZ := Lib.hid y2
          have hck : ck ≤ 9223372036854775807 := by simp only [maxLen] at y5; omega
          clear hcell0 hcell1 y1 y2 y3 y5 y6 hRk ho hal g1 g2 g3 hcat
          go_wp2_with fail
          refine HO.out.mono ?_
          rintro e w5 ⟨A5, l5, c5, rfl, hl5, hlc5, hcm5, own5, hb5⟩
          have HN5 := Lib.hid hl5
          have HY5 := Lib.hid (Byt.own (zs := Z) own5)
          have HCK5 := Lib.hid (fun (w9 : World) (hS : Below w5.heap.size w5 w9) => HCK.out w9 (hb5.trans (hS.mono hb5.size)))
          have HCR5 := Lib.hid (fun (w9 : World) (hS : Below w5.heap.size w5 w9) => HCR.out w9 (hb5.trans (hS.mono hb5.size)))
          have HYZ := Lib.hid (fun (w9 : World) (hS : Below w5.heap.size w5 w9) => HBZ.out w9 (hb5.trans (hS.mono hb5.size)))
          have HYR := Lib.hid ((HYA.out.below hb5).wide hb5.size)
          have B5 := Lib.hid (HBW.out.trans (hb5.mono HBW.out.size))
          have HCMP := Lib.hid (str_same Z)
          clear hl5 own5 hb5
          simp only [maxLen] at hcm5
          go_wp2_with fail
          have cv := CV.out
          refine wp_region_G w5 (by kernel_rfl) ?_
          refine wpG_take (i := 0) (oi := ⟨some 75, _, _, _, _, _⟩) (v := ?_) rfl (by kernel_rfl) (by kernel_rfl) (by kernel_rfl) (Or.inl ⟨by rfl, unib_val ?_⟩) ?_; rotate_left; (focus (intro w9 hSw; go_simp; try with_reducible rfl)); simp only [Act.put, List.setIfInBounds_toArray, List.set_cons_zero, List.set_cons_succ]
          refine wpG_take (i := 1) (oi := ⟨some 76, _, _, _, _, _⟩) (v := ?_) rfl (by kernel_rfl) (by kernel_rfl) (by kernel_rfl) (Or.inl ⟨by rfl, unib_val ?_⟩) ?_; rotate_left; (focus (intro w9 hSw; go_simp; try with_reducible rfl)); simp only [Act.put, List.setIfInBounds_toArray, List.set_cons_zero, List.set_cons_succ]
          refine wpG_take (i := 2) (oi := ⟨some 77, _, _, _, _, _⟩) (v := ?_) rfl (by kernel_rfl) (by kernel_rfl) (by kernel_rfl) (Or.inl ⟨by rfl, unib_val ?_⟩) ?_; rotate_left; (focus (intro w9 hSw; go_simp; try with_reducible rfl)); simp only [Act.put, List.setIfInBounds_toArray, List.set_cons_zero, List.set_cons_succ]
          refine wpG_take (i := 3) (oi := ⟨some 78, _, _, _, _, _⟩) (v := ?_) rfl (by kernel_rfl) (by kernel_rfl) (by kernel_rfl) (Or.inl ⟨by rfl, unib_val ?_⟩) ?_; rotate_left; (focus (intro w9 hSw; go_simp; try with_reducible rfl)); simp only [Act.put, List.setIfInBounds_toArray, List.set_cons_zero, List.set_cons_succ]
          refine wpG_take (i := 4) (oi := ⟨some 79, _, _, _, _, _⟩) (v := ?_) rfl (by kernel_rfl) (by kernel_rfl) (by kernel_rfl) (Or.inl ⟨by rfl, unib_val ?_⟩) ?_; rotate_left; (focus (intro w9 hSw; go_simp; try with_reducible rfl)); simp only [Act.put, List.setIfInBounds_toArray, List.set_cons_zero, List.set_cons_succ]
          refine wpG_take (i := 5) (oi := ⟨some 80, _, _, _, _, _⟩) (v := ?_) rfl (by kernel_rfl) (by kernel_rfl) (by kernel_rfl) (Or.inl ⟨by rfl, unib_val ?_⟩) ?_; rotate_left; (focus (intro w9 hSw; go_simp; try with_reducible rfl)); simp only [Act.put, List.setIfInBounds_toArray, List.set_cons_zero, List.set_cons_succ]
          refine wpG_take (i := 6) (oi := ⟨some 81, _, _, _, _, _⟩) (v := ?_) rfl (by kernel_rfl) (by kernel_rfl) (by kernel_rfl) (Or.inl ⟨by rfl, unib_val ?_⟩) ?_; rotate_left; (focus (intro w9 hSw; have q0 := ix_int b0 off0 N cap0 k hlt k rfl w9; go_simp; try with_reducible rfl)); simp only [Act.put, List.setIfInBounds_toArray, List.set_cons_zero, List.set_cons_succ]
          refine wpG_take (i := 7) (oi := ⟨some 82, _, _, _, _, _⟩) (v := ?_) rfl (by kernel_rfl) (by kernel_rfl) (by kernel_rfl) (Or.inl ⟨by rfl, unib_val ?_⟩) ?_; rotate_left; (focus (intro w9 hSw; have q0 := HCK5.out w9 hSw; go_simp; try with_reducible rfl)); simp only [Act.put, List.setIfInBounds_toArray, List.set_cons_zero, List.set_cons_succ]
          refine wpG_take (i := 8) (oi := ⟨some 83, _, _, _, _, _⟩) (v := ?_) rfl (by kernel_rfl) (by kernel_rfl) (by kernel_rfl) (Or.inl ⟨by rfl, unib_val ?_⟩) ?_; rotate_left; (focus (intro w9 hSw; go_simp; try with_reducible rfl)); simp only [Act.put, List.setIfInBounds_toArray, List.set_cons_zero, List.set_cons_succ]
          refine wpG_take (i := 9) (oi := ⟨some 84, _, _, _, _, _⟩) (v := ?_) rfl (by kernel_rfl) (by kernel_rfl) (by kernel_rfl) (Or.inl ⟨by rfl, unib_val ?_⟩) ?_; rotate_left; (focus (intro w9 hSw; go_simp; try with_reducible rfl)); simp only [Act.put, List.setIfInBounds_toArray, List.set_cons_zero, List.set_cons_succ]
          refine wpG_take (i := 10) (oi := ⟨some 85, _, _, _, _, _⟩) (v := ?_) rfl (by kernel_rfl) (by kernel_rfl) (by kernel_rfl) (Or.inl ⟨by rfl, unib_val ?_⟩) ?_; rotate_left; (focus (intro w9 hSw; go_simp; try with_reducible rfl)); simp only [Act.put, List.setIfInBounds_toArray, List.set_cons_zero, List.set_cons_succ]
          refine wpG_take (i := 11) (oi := ⟨some 86, _, _, _, _, _⟩) (v := ?_) rfl (by kernel_rfl) (by kernel_rfl) (by kernel_rfl) (Or.inl ⟨by rfl, unib_val ?_⟩) ?_; rotate_left; (focus (intro w9 hSw; go_simp; try with_reducible rfl)); simp only [Act.put, List.setIfInBounds_toArray, List.set_cons_zero, List.set_cons_succ]
          refine wpG_take (i := 12) (oi := ⟨some 87, _, _, _, _, _⟩) (v := ?_) rfl (by kernel_rfl) (by kernel_rfl) (by kernel_rfl) (Or.inl ⟨by rfl, unib_val ?_⟩) ?_; rotate_left; (focus (intro w9 hSw; have t9 := HF.out w9 _ _ _ (HY5.out.below hSw) l5 c5 HN5.out; go_simp; try with_reducible rfl)); simp only [Act.put, List.setIfInBounds_toArray, List.set_cons_zero, List.set_cons_succ]
          refine wpG_take (i := 13) (oi := ⟨some 88, _, _, _, _, _⟩) (v := ?_) rfl (by kernel_rfl) (by kernel_rfl) (by kernel_rfl) (Or.inl ⟨by rfl, unib_val ?_⟩) ?_; rotate_left; (focus (intro w9 hSw; go_simp; try with_reducible rfl)); simp only [Act.put, List.setIfInBounds_toArray, List.set_cons_zero, List.set_cons_succ]
          refine wpG_take (i := 14) (oi := ⟨some 89, _, _, _, _, _⟩) (v := ?_) rfl (by kernel_rfl) (by kernel_rfl) (by kernel_rfl) (Or.inl ⟨by rfl, unib_val ?_⟩) ?_; rotate_left; (focus (intro w9 hSw; go_simp; try with_reducible rfl)); simp only [Act.put, List.setIfInBounds_toArray, List.set_cons_zero, List.set_cons_succ]
          refine wpG_take (i := 15) (oi := ⟨some 90, _, _, _, _, _⟩) (v := ?_) rfl (by kernel_rfl) (by kernel_rfl) (by kernel_rfl) (Or.inl ⟨by rfl, unib_val ?_⟩) ?_; rotate_left; (focus (intro w9 hSw; have q0 := ix_rows b1 off1 N cap1 k hlt k rfl w9; go_simp; try with_reducible rfl)); simp only [Act.put, List.setIfInBounds_toArray, List.set_cons_zero, List.set_cons_succ]
          refine wpG_take (i := 16) (oi := ⟨some 91, _, _, _, _, _⟩) (v := ?_) rfl (by kernel_rfl) (by kernel_rfl) (by kernel_rfl) (Or.inl ⟨by rfl, unib_val ?_⟩) ?_; rotate_left; (focus (intro w9 hSw; have q0 := HCR5.out w9 hSw; go_simp; try with_reducible rfl)); simp only [Act.put, List.setIfInBounds_toArray, List.set_cons_zero, List.set_cons_succ]
          refine wpG_take (i := 17) (oi := ⟨some 92, _, _, _, _, _⟩) (v := ?_) rfl (by kernel_rfl) (by kernel_rfl) (by kernel_rfl) (Or.inl ⟨by rfl, unib_val ?_⟩) ?_; rotate_left; (focus (intro w9 hSw; have t9 := HF.out w9 _ _ _ (HYZ.out w9 hSw) nk ck HLZ.out; go_simp; try with_reducible rfl)); simp only [Act.put, List.setIfInBounds_toArray, List.set_cons_zero, List.set_cons_succ]
          refine wpG_take (i := 18) (oi := ⟨some 93, _, _, _, _, _⟩) (v := ?_) rfl (by kernel_rfl) (by kernel_rfl) (by kernel_rfl) (Or.inl ⟨by rfl, unib_val ?_⟩) ?_; rotate_left; (focus (intro w9 hSw; have t9 := HCMP.out; go_simp; try with_reducible rfl)); simp only [Act.put, List.setIfInBounds_toArray, List.set_cons_zero, List.set_cons_succ]
          refine wpG_take (i := 19) (oi := ⟨some 94, _, _, _, _, _⟩) (v := ?_) rfl (by kernel_rfl) (by kernel_rfl) (by kernel_rfl) (Or.inl ⟨by rfl, unib_val ?_⟩) ?_; rotate_left; (focus (intro w9 hSw; go_simp; try with_reducible rfl)); simp only [Act.put, List.setIfInBounds_toArray, List.set_cons_zero, List.set_cons_succ]
          refine wpG_take (i := 20) (oi := ⟨some 95, _, _, _, _, _⟩) (v := ?_) rfl (by kernel_rfl) (by kernel_rfl) (by kernel_rfl) (Or.inl ⟨by rfl, unib_val ?_⟩) ?_; rotate_left; (focus (intro w9 hSw; go_simp; try with_reducible rfl)); simp only [Act.put, List.setIfInBounds_toArray, List.set_cons_zero, List.set_cons_succ]
          refine wpG_take (i := 21) (oi := ⟨some 96, _, _, _, _, _⟩) (v := ?_) rfl (by kernel_rfl) (by kernel_rfl) (by kernel_rfl) (Or.inl ⟨by rfl, unib_val ?_⟩) ?_; rotate_left; (focus (intro w9 hSw; go_simp; try with_reducible rfl)); simp only [Act.put, List.setIfInBounds_toArray, List.set_cons_zero, List.set_cons_succ]
          refine wpG_take (i := 22) (oi := ⟨some 97, _, _, _, _, _⟩) (v := ?_) rfl (by kernel_rfl) (by kernel_rfl) (by kernel_rfl) (Or.inl ⟨by rfl, unib_val ?_⟩) ?_; rotate_left; (focus (intro w9 hSw; go_simp; try with_reducible rfl)); simp only [Act.put, List.setIfInBounds_toArray, List.set_cons_zero, List.set_cons_succ]
          refine wpG_take (i := 23) (oi := ⟨some 98, _, _, _, _, _⟩) (v := ?_) rfl (by kernel_rfl) (by kernel_rfl) (by kernel_rfl) (Or.inl ⟨by rfl, unib_val ?_⟩) ?_; rotate_left; (focus (intro w9 hSw; go_simp; try with_reducible rfl)); simp only [Act.put, List.setIfInBounds_toArray, List.set_cons_zero, List.set_cons_succ]
          refine wpG_take (i := 24) (oi := ⟨some 99, _, _, _, _, _⟩) (v := ?_) rfl (by kernel_rfl) (by kernel_rfl) (by kernel_rfl) (Or.inl ⟨by rfl, unib_val ?_⟩) ?_; rotate_left; (focus (intro w9 hSw; have t9 := HLE.out; go_simp; try with_reducible rfl)); simp only [Act.put, List.setIfInBounds_toArray, List.set_cons_zero, List.set_cons_succ]
          refine wpG_take (i := 25) (oi := ⟨some 100, _, _, _, _, _⟩) (v := ?_) rfl (by kernel_rfl) (by kernel_rfl) (by kernel_rfl) (Or.inl ⟨by rfl, unib_val ?_⟩) ?_; rotate_left; (focus (intro w9 hSw; go_simp; try with_reducible rfl)); simp only [Act.put, List.setIfInBounds_toArray, List.set_cons_zero, List.set_cons_succ]
          refine wpG_done (by kernel_rfl) ?_ _
          intro w6 hb hO
          clear cv
          have B6 := Lib.hid (B5.out.trans (hb.mono B5.out.size))
          have HYR6 := Lib.hid ((HYR.out.below hb).wide hb.size)
          have hsl := HSL.out
          clear hb hO
          go_wp2
          go_roundw
          case rel =>
            refine ⟨k + 1, _, _, _, by omega, by go_num, rfl, ?_, ?_, by omega, by omega, B6.out⟩
            · have h1 := HYR6.out.drop (k := p) (cap := c) (by rw [HAL.out]; omega)
              rw [HDROP.out] at h1
              exact h1
            · rw [← HDROP.out, List.length_drop, HAL.out]
          case measure => simp [intOf]; omega
        · obtain rfl : N = k := by omega
          have h0 := HAL.out
          rw [Nat.sub_self] at h0
          obtain rfl : 0 = n := h0
          go_wp2
          go_ret
          exact ⟨rfl, HBW.out⟩
end Go.Proofs.Ytomlckefkamdgaa
