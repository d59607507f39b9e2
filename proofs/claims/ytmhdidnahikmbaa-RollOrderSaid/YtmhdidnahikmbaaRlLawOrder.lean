import Derived.Test.YtmhdidnahikmbaaRlProg
import Derived.Test.YtmhdidnahikmbaaGUni
import Derived.Test.YtmhdidnahikmbaaRlAwake
import Derived.Lib.ConvBytes
import Derived.Lib.BufferMore
/-
  The law RollOrder: for every text and two places it answers true, and nothing that was there is written.
-/
namespace Go.Proofs.Ytmhdidnahikmbaa
open Go.RowKit WM
set_option linter.unusedVariables false
set_option maxRecDepth 100000
/-- The block g holds bytes; its row was made by a conversion. -/
def FB (w : World) (g : Nat) (zs : List Int) : Prop := ∃ (cs : Array Value) (m : Nat), w.heap[g]? = some (.cells cs 5 (m, m + 1)) ∧ zs.length ≤ m ∧ m = cs.size ∧ ∀ j, j < zs.length → cs[j]? = some (.int .u8 (zs.getD j 0))
theorem FB.cell {w : World} {g : Nat} {zs : List Int} (h : FB w g zs) {j : Nat} (hj : j < zs.length) : w.cell? ⟨g, j, none⟩ = some (.int .u8 (zs.getD j 0)) := by
  obtain ⟨cs, m, h1, h2, h3, h4⟩ := h
  have := h4 j hj
  simp [World.cell?, h1, this]
theorem FB.fz {w : World} {g : Nat} {zs : List Int} (h : FB w g zs) {j : Nat} (hj : j < zs.length) : w.frozen? ⟨g, j, none⟩ = false := by
  obtain ⟨cs, m, h1, h2, h3, h4⟩ := h
  simp [World.frozen?, h1]
  omega
theorem FB.put {w : World} {g : Nat} {zs : List Int} (h : FB w g zs) {j : Nat} (hj : j < zs.length) (x : Int) : FB (w.setCell ⟨g, j, none⟩ (.int .u8 x)) g (zs.set j x) := by
  obtain ⟨cs, m, h1, h2, h3, h4⟩ := h
  refine ⟨cs.setIfInBounds j (.int .u8 x), m, ?_, by rw [List.length_set]; exact h2, by rw [Array.size_setIfInBounds]; exact h3, fun i hi => ?_⟩
  · simp [World.setCell, Array.getElem?_modify, h1]
  · rw [List.length_set] at hi
    rw [Array.getElem?_setIfInBounds, List.getD_eq_getElem?_getD, List.getElem?_set]
    by_cases e : j = i
    · subst e
      rw [if_pos rfl, if_pos rfl, if_pos (by omega), if_pos hi]
      rfl
    · rw [if_neg e, if_neg e, ← List.getD_eq_getElem?_getD]
      exact h4 i hi
theorem FB.lt {w : World} {g : Nat} {zs : List Int} (h : FB w g zs) : g < w.heap.size := by
  obtain ⟨cs, m, h1, h2, h3, h4⟩ := h
  rcases Nat.lt_or_ge g w.heap.size with k | k
  · exact k
  · rw [Array.getElem?_eq_none k] at h1; cases h1
theorem FB.below {w w' : World} {g B : Nat} {zs : List Int} (h : FB w g zs) (hb : Below B w w') (hg : g < B) : FB w' g zs := by
  obtain ⟨cs, m, h1, h2⟩ := h
  exact ⟨cs, m, by rw [hb.block g hg]; exact h1, h2⟩
theorem FB.byt {w : World} {g : Nat} {zs : List Int} (h : FB w g zs) : Byt w w.heap.size (some ⟨g, 0, none⟩) zs := fun _ => ⟨g, 0, rfl, h.lt, fun i hi => by
  rw [Nat.zero_add]
  exact h.cell hi⟩
theorem FB.new (w : World) (s : ByteArray) : FB (Lib.bytesWorld w 5 s) w.heap.size (nums s) := by
  refine ⟨_, _, Lib.bytesWorld_at_new w 5 s, ?_, rfl, fun j hj => ?_⟩
  · rw [nums_len]
    simp [Lib.bytesCells]
  · rw [nums_len] at hj
    have hj' : j < s.data.toList.length := by rw [Array.length_toList]; exact hj
    simp [Lib.bytesCells, Array.getElem?_append, hj, nums, List.getD]
theorem below_bytesR (w : World) (e : TypeId) (s : ByteArray) : Below w.heap.size w (Lib.bytesWorld w e s) :=
  ⟨by simp [Lib.bytesWorld, World.freeze, World.alloc, World.drew, -World.alloc_eq, -World.drew_eq], by simp [Lib.bytesWorld, World.freeze, World.alloc, World.drew, -World.alloc_eq, -World.drew_eq], by simp [Lib.bytesWorld, World.freeze, World.alloc, World.drew, -World.alloc_eq, -World.drew_eq], by rw [Lib.bytesWorld_size]; omega, fun k hk => Lib.bytesWorld_at_old w e s k hk⟩
theorem far_mod {z : Int} : Int.tmod z 65536 = 0 ↔ z % 65536 = 0 := by
  rw [← Int.dvd_iff_tmod_eq_zero, Int.dvd_iff_emod_eq_zero]
set_option maxHeartbeats 8000000 in
theorem walk_rollOrder (s : ByteArray) (i k : Int) (w : World) (hs : s.size ≤ maxLen) (hi : (Lit.int .i64 i).wf = true) (hk : (Lit.int .i64 k).wf = true) :
    Calls Try.prog 8 #[.string s, .int .i64 i, .int .i64 k] w fun e w' => e = .returned (.bool true) ∧ Below w.heap.size w w' := by
  have B0 := Lib.hid (Below.refl w.heap.size w)
  obtain ⟨n, hn⟩ : ∃ n, n = s.size := ⟨_, rfl⟩
  have HNN := Lib.hid (show (nums s).length = n by rw [nums_len, hn])
  have HSZ := Lib.hid hn.symm
  have hlen : s.size = n := hn.symm
  clear hn
  by_cases t1 : (300 : Int) < (n : Int)
  · clear hs hi hk
    go_enter Try.func8, Try.ntmps8
    go_wp2_with fail
    refine (rlAwake w).mono ?_
    rintro e w1 ⟨rfl, hb⟩
    have B1 := Lib.hid (B0.out.trans (hb.mono B0.out.size))
    clear hb
    go_wp2
    go_ret
    exact ⟨rfl, B1.out⟩
  by_cases t2 : i < 0
  · clear hs hi hk
    go_enter Try.func8, Try.ntmps8
    go_wp2_with fail
    refine (rlAwake w).mono ?_
    rintro e w1 ⟨rfl, hb⟩
    have B1 := Lib.hid (B0.out.trans (hb.mono B0.out.size))
    clear hb
    go_wp2
    go_ret
    exact ⟨rfl, B1.out⟩
  by_cases t3 : k ≤ i
  · clear hs hi hk
    go_enter Try.func8, Try.ntmps8
    go_wp2_with fail
    refine (rlAwake w).mono ?_
    rintro e w1 ⟨rfl, hb⟩
    have B1 := Lib.hid (B0.out.trans (hb.mono B0.out.size))
    clear hb
    go_wp2
    go_ret
    exact ⟨rfl, B1.out⟩
  by_cases t4 : (n : Int) ≤ k
  · clear hs hi hk
    go_enter Try.func8, Try.ntmps8
    go_wp2_with fail
    refine (rlAwake w).mono ?_
    rintro e w1 ⟨rfl, hb⟩
    have B1 := Lib.hid (B0.out.trans (hb.mono B0.out.size))
    clear hb
    go_wp2
    go_ret
    exact ⟨rfl, B1.out⟩
  obtain ⟨p, rfl⟩ : ∃ p : Nat, i = p := ⟨i.toNat, by omega⟩
  obtain ⟨q, rfl⟩ : ∃ q : Nat, k = q := ⟨k.toNat, by omega⟩
  have hpq : p < q := by omega
  have hqn : q < n := by omega
  have hcv := fun (w9 : World) => Lib.run_convert_string_bytes (P := Try.prog) w9 9 33 5 s Try.underlying9 Try.underlying33 Try.underlying5
  have X1 := fun w => ix_strR s p (by rw [HNN.out]; omega) (p : Int) rfl w
  have X2 := fun w => ix_strR s q (by rw [HNN.out]; omega) (q : Int) rfl w
  have z1 := byte_at s p
  have z2 := byte_at s q
  have C1 := Lib.hid (fun w => rlsum_any s w (by omega))
  have G1 := Lib.hid (fun w => FB.new w s)
  have G2 := Lib.hid (fun w => ((FB.new w s).put (j := p) (by rw [HNN.out]; omega) ((nums s).getD q 0)))
  have G3 := Lib.hid (fun w => ((FB.new w s).put (j := p) (by rw [HNN.out]; omega) ((nums s).getD q 0)).put (j := q) (by rw [List.length_set, HNN.out]; omega) ((nums s).getD p 0))
  have hby : AllBytes (((nums s).set p ((nums s).getD q 0)).set q ((nums s).getD p 0)) := fun z hz => by
    rcases List.mem_or_eq_of_mem_set hz with h | rfl
    · rcases List.mem_or_eq_of_mem_set h with h | rfl
      · exact nums_bytes s _ h
      · exact z2
    · exact z1
  have C2 := fun w => rlsum_any (strOfNums (((nums s).set p ((nums s).getD q 0)).set q ((nums s).getD p 0))) w (by rw [strOfNums_size, List.length_set, List.length_set, HNN.out]; omega)
  rw [nums_str hby] at C2
  have C2 := Lib.hid C2
  have LN : Hid ((((nums s).set p ((nums s).getD q 0)).set q ((nums s).getD p 0)).length = n) := Lib.hid (by rw [List.length_set, List.length_set, HNN.out])
  have hlo := swap_lo (zs := nums s) hpq (by rw [HNN.out]; exact hqn)
  have heq := swap_eq (zs := nums s) hpq (by rw [HNN.out]; exact hqn)
  have r1 := rlS_range (nums s)
  have r2 := rlS_range (((nums s).set p ((nums s).getD q 0)).set q ((nums s).getD p 0))
  have HP1 : Hid (p < (nums s).length) := Lib.hid (by rw [HNN.out]; omega)
  have HP2 : Hid (q < ((nums s).set p ((nums s).getD q 0)).length) := Lib.hid (by rw [List.length_set, HNN.out]; omega)
  generalize rlS (((nums s).set p ((nums s).getD q 0)).set q ((nums s).getD p 0)) = Y at *
  generalize rlS (nums s) = X at *
  generalize ((nums s).set p ((nums s).getD q 0)).set q ((nums s).getD p 0) = ys at *
  generalize hxs : (nums s).set p ((nums s).getD q 0) = xs at *
  have HXS := Lib.hid hxs
  clear hxs
  generalize (nums s).getD p 0 = zp at *
  generalize (nums s).getD q 0 = zq at *
  obtain ⟨far, hfar⟩ : ∃ far, far = ((q : Int) - p) * (zp - zq) := ⟨_, rfl⟩
  have hfb : -16711425 ≤ far ∧ far ≤ 16711425 := by
    have h1 := mul_bound (r := (q : Int) - p) (z := zp) (by omega) (by omega) (by omega) (by omega)
    have h2 := mul_bound (r := (q : Int) - p) (z := zq) (by omega) (by omega) (by omega) (by omega)
    have h3 : far = ((q : Int) - p) * zp - ((q : Int) - p) * zq := by rw [hfar, Int.mul_sub]
    omega
  have f1 : IntKind.i64.wrap ((q : Int) - p) = (q : Int) - p := IntWalk.i64_in _ (by omega)
  have f2 : IntKind.i64.wrap (zp - zq) = zp - zq := IntWalk.i64_in _ (by omega)
  have f3 : IntKind.i64.wrap (((q : Int) - p) * (zp - zq)) = far := by rw [← hfar]; exact IntWalk.i64_in _ (by omega)
  rw [← hfar, ← far_mod] at heq
  obtain ⟨fm, hfm⟩ : ∃ fm, fm = Int.tmod far 65536 := ⟨_, rfl⟩
  have f4 : Int.tmod far 65536 = fm := hfm.symm
  rw [← hfm] at heq
  obtain ⟨l, hl⟩ : ∃ l, l = X % 65536 := ⟨_, rfl⟩
  rw [← hl] at hlo
  have f5 : Int.tmod X 65536 = l := by rw [Int.tmod_eq_emod_of_nonneg (by omega), hl]
  have f6 : Int.tmod Y 65536 = l := by rw [Int.tmod_eq_emod_of_nonneg (by omega), hlo]
  have f7 : decide (X = Y) = decide (fm = 0) := by rw [Bool.eq_iff_iff, decide_eq_true_iff, decide_eq_true_iff]; exact heq
  have f8 : IntKind.i64.wrap zp = zp := IntWalk.i64_in _ (by omega)
  have f9 : IntKind.i64.wrap zq = zq := IntWalk.i64_in _ (by omega)
  obtain ⟨F, cv, hF⟩ := cvt_ex
  have HF := Lib.hid hF
  have F7 := Lib.hid f7
  clear hs hi hk hF hfm hl hlo heq hfar r1 r2 hby z1 z2 f7
  go_enter Try.func8, Try.ntmps8
  go_wp2_with fail
  refine (rlAwake w).mono ?_
  rintro e w1 ⟨rfl, hb⟩
  have B1 := Lib.hid (B0.out.trans (hb.mono B0.out.size))
  clear hb
  have g1 := G1.out w1
  have g2 := G2.out w1
  have g3 := G3.out w1
  have c1 := g1.cell HP1.out
  have d1 := g1.fz HP1.out
  have c2 := g2.cell HP2.out
  have d2 := g2.fz HP2.out
  have K3 := Lib.hid g3
  have B2 := Lib.hid (((B1.out.trans ((below_bytesR w1 5 s).mono B1.out.size)).setCell (p := ⟨w1.heap.size, p, none⟩) B1.out.size (.int .u8 zq)).setCell (p := ⟨w1.heap.size, q, none⟩) B1.out.size (.int .u8 zp))
  clear g1 g2 g3
  go_wp2_with fail
  refine (C1.out _).mono ?_
  rintro e w2 ⟨rfl, hb⟩
  have B3 := Lib.hid (B2.out.trans (hb.mono B2.out.size))
  have k4 := K3.out.below hb K3.out.lt
  have cv1 := HF.out w2 _ _ _ k4.byt n (grownCap w1 n 0 5) LN.out
  clear hb k4 c1 c2 d1 d2
  go_wp2_with fail
  refine (C2.out _).mono ?_
  rintro e w3 ⟨rfl, hb⟩
  have B4 := Lib.hid (B3.out.trans (hb.mono B3.out.size))
  clear hb
  go_wp2_with fail
  refine wp_region_G _ (by kernel_rfl) ?_
  refine wpG_take (i := 0) (oi := ⟨some 55, _, _, _, _, _⟩) (v := ?_) rfl (by kernel_rfl) (by kernel_rfl) (by kernel_rfl) (Or.inl ⟨by rfl, unib_val ?_⟩) ?_; rotate_left; (focus (intro w9 hSw; go_simp; try with_reducible rfl)); simp only [Act.put, List.setIfInBounds_toArray, List.set_cons_zero, List.set_cons_succ]
  refine wpG_take (i := 1) (oi := ⟨some 56, _, _, _, _, _⟩) (v := ?_) rfl (by kernel_rfl) (by kernel_rfl) (by kernel_rfl) (Or.inl ⟨by rfl, unib_val ?_⟩) ?_; rotate_left; (focus (intro w9 hSw; go_simp; try with_reducible rfl)); simp only [Act.put, List.setIfInBounds_toArray, List.set_cons_zero, List.set_cons_succ]
  refine wpG_take (i := 2) (oi := ⟨some 57, _, _, _, _, _⟩) (v := ?_) rfl (by kernel_rfl) (by kernel_rfl) (by kernel_rfl) (Or.inl ⟨by rfl, unib_val ?_⟩) ?_; rotate_left; (focus (intro w9 hSw; have q0 := f1; go_simp; try with_reducible rfl)); simp only [Act.put, List.setIfInBounds_toArray, List.set_cons_zero, List.set_cons_succ]
  refine wpG_take (i := 3) (oi := ⟨some 58, _, _, _, _, _⟩) (v := ?_) rfl (by kernel_rfl) (by kernel_rfl) (by kernel_rfl) (Or.inl ⟨by rfl, unib_val ?_⟩) ?_; rotate_left; (focus (intro w9 hSw; go_simp; try with_reducible rfl)); simp only [Act.put, List.setIfInBounds_toArray, List.set_cons_zero, List.set_cons_succ]
  refine wpG_take (i := 4) (oi := ⟨some 59, _, _, _, _, _⟩) (v := ?_) rfl (by kernel_rfl) (by kernel_rfl) (by kernel_rfl) (Or.inl ⟨by rfl, unib_val ?_⟩) ?_; rotate_left; (focus (intro w9 hSw; go_simp; try with_reducible rfl)); simp only [Act.put, List.setIfInBounds_toArray, List.set_cons_zero, List.set_cons_succ]
  refine wpG_take (i := 5) (oi := ⟨some 60, _, _, _, _, _⟩) (v := ?_) rfl (by kernel_rfl) (by kernel_rfl) (by kernel_rfl) (Or.inl ⟨by rfl, unib_val ?_⟩) ?_; rotate_left; (focus (intro w9 hSw; have q0 := X1 w9; go_simp; try with_reducible rfl)); simp only [Act.put, List.setIfInBounds_toArray, List.set_cons_zero, List.set_cons_succ]
  refine wpG_take (i := 6) (oi := ⟨some 61, _, _, _, _, _⟩) (v := ?_) rfl (by kernel_rfl) (by kernel_rfl) (by kernel_rfl) (Or.inl ⟨by rfl, unib_val ?_⟩) ?_; rotate_left; (focus (intro w9 hSw; have q0 := f8; go_simp; try with_reducible rfl)); simp only [Act.put, List.setIfInBounds_toArray, List.set_cons_zero, List.set_cons_succ]
  refine wpG_take (i := 7) (oi := ⟨some 62, _, _, _, _, _⟩) (v := ?_) rfl (by kernel_rfl) (by kernel_rfl) (by kernel_rfl) (Or.inl ⟨by rfl, unib_val ?_⟩) ?_; rotate_left; (focus (intro w9 hSw; go_simp; try with_reducible rfl)); simp only [Act.put, List.setIfInBounds_toArray, List.set_cons_zero, List.set_cons_succ]
  refine wpG_take (i := 8) (oi := ⟨some 63, _, _, _, _, _⟩) (v := ?_) rfl (by kernel_rfl) (by kernel_rfl) (by kernel_rfl) (Or.inl ⟨by rfl, unib_val ?_⟩) ?_; rotate_left; (focus (intro w9 hSw; go_simp; try with_reducible rfl)); simp only [Act.put, List.setIfInBounds_toArray, List.set_cons_zero, List.set_cons_succ]
  refine wpG_take (i := 9) (oi := ⟨some 64, _, _, _, _, _⟩) (v := ?_) rfl (by kernel_rfl) (by kernel_rfl) (by kernel_rfl) (Or.inl ⟨by rfl, unib_val ?_⟩) ?_; rotate_left; (focus (intro w9 hSw; have q0 := X2 w9; go_simp; try with_reducible rfl)); simp only [Act.put, List.setIfInBounds_toArray, List.set_cons_zero, List.set_cons_succ]
  refine wpG_take (i := 10) (oi := ⟨some 65, _, _, _, _, _⟩) (v := ?_) rfl (by kernel_rfl) (by kernel_rfl) (by kernel_rfl) (Or.inl ⟨by rfl, unib_val ?_⟩) ?_; rotate_left; (focus (intro w9 hSw; have q0 := f9; go_simp; try with_reducible rfl)); simp only [Act.put, List.setIfInBounds_toArray, List.set_cons_zero, List.set_cons_succ]
  refine wpG_take (i := 11) (oi := ⟨some 66, _, _, _, _, _⟩) (v := ?_) rfl (by kernel_rfl) (by kernel_rfl) (by kernel_rfl) (Or.inl ⟨by rfl, unib_val ?_⟩) ?_; rotate_left; (focus (intro w9 hSw; have q0 := f2; go_simp; try with_reducible rfl)); simp only [Act.put, List.setIfInBounds_toArray, List.set_cons_zero, List.set_cons_succ]
  refine wpG_take (i := 12) (oi := ⟨some 67, _, _, _, _, _⟩) (v := ?_) rfl (by kernel_rfl) (by kernel_rfl) (by kernel_rfl) (Or.inl ⟨by rfl, unib_val ?_⟩) ?_; rotate_left; (focus (intro w9 hSw; have q0 := f3; go_simp; try with_reducible rfl)); simp only [Act.put, List.setIfInBounds_toArray, List.set_cons_zero, List.set_cons_succ]
  refine wpG_take (i := 13) (oi := ⟨some 11, _, _, _, _, _⟩) (v := ?_) rfl (by kernel_rfl) (by kernel_rfl) (by kernel_rfl) (Or.inl ⟨by rfl, unib_val ?_⟩) ?_; rotate_left; (focus (intro w9 hSw; go_simp; try with_reducible rfl)); simp only [Act.put, List.setIfInBounds_toArray, List.set_cons_zero, List.set_cons_succ]
  refine wpG_done (by kernel_rfl) ?_ _
  intro w9 hSw _
  have B5 := Lib.hid (B4.out.trans (hSw.mono B4.out.size))
  clear hSw
  have f7 : ((X == Y) == (fm == 0)) = true := by
    have h := F7.out
    rw [show (X == Y) = decide (X = Y) from rfl, h]
    exact beq_self_eq_true (decide (fm = 0))
  clear F7
  go_wp2
  go_ret
  exact ⟨rfl, B5.out⟩
end Go.Proofs.Ytmhdidnahikmbaa

