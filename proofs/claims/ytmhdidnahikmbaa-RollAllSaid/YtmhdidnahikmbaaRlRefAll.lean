import Derived.Test.YtmhdidnahikmbaaRlRow
import Derived.Test.YtmhdidnahikmbaaGUni
/-
  What the document's own All, and Same of lists of checks, answer. Nothing that was there is written.
-/
namespace Go.Proofs.Ytmhdidnahikmbaa
open Go.RowKit WM
set_option linter.unusedVariables false
set_option maxRecDepth 100000
def RAllPost (w : World) (L : List Int) (e : Ending) (w' : World) : Prop := ∃ A c, e = .returned (.slice A L.length c) ∧ K32.row w' A c L ∧ Below w.heap.size w w'
theorem rall_nil (w : World) : RAllPost w [] (.returned (.slice none 0 0)) w := ⟨none, 0, rfl, Kind.row_nil w none 0 (by decide) (fun _ => rfl), Below.refl _ _⟩
theorem rall_own {w w' : World} {v : Value} {L : List Int} (ho : w'.ownsRow w.heap.size 22 1 v L.length (L.flatMap K32.cs)) (hb : Below w.heap.size w w') : RAllPost w L (.returned v) w' := by
  rcases ho.2 with ⟨rfl, h0⟩ | ⟨g, cap, cur, rfl, _⟩
  · have hn : L = [] := List.eq_nil_of_length_eq_zero h0
    subst hn
    exact ⟨none, 0, rfl, Kind.row_nil _ _ _ (by decide) (fun _ => rfl), hb⟩
  · exact ⟨_, cap, rfl, Kind.row_own (K := K32) ho (fun _ _ => trivial), hb⟩
set_option maxHeartbeats 4000000 in
theorem rrall_any (s : ByteArray) (m : Int) (w : World) (hs : s.size ≤ 100000) (hm0 : -9223372036854775808 ≤ m) (hm1 : m ≤ 9223372036854775807) : Calls Try.prog 12 #[.string s, .int .i64 m] w (RAllPost w (rlA (nums s) m)) := by
  have HN0 := Lib.hid (rall_nil w)
  by_cases h1 : m < 1
  · have HV := Lib.hid (rlA_none (zs := nums s) (m := m) (.inl h1))
    go_enter Try.func12, Try.ntmps12
    go_wp2
    go_ret
    rw [HV.out]
    exact HN0.out
  · obtain ⟨n, hn⟩ : ∃ n, n = s.size := ⟨_, rfl⟩
    have HNN := Lib.hid (show (nums s).length = n by rw [nums_len, hn])
    have hlen : s.size = n := hn.symm
    have HSZ := Lib.hid hlen
    clear hn
    have f1 : IntKind.i64.wrap ((n : Int) - m) = (n : Int) - m := IntWalk.i64_in _ (by omega)
    by_cases h2 : (n : Int) < m
    · have HV := Lib.hid (rlA_none (zs := nums s) (m := m) (.inr (by rw [HNN.out]; exact h2)))
      have t1 : ¬ (0 : Int) ≤ (n : Int) - m := by omega
      go_enter Try.func12, Try.ntmps12
      go_wp2
      refine wp_loop_rounds 1 ?_
      rw [rounds_succ]
      go_wp2
      go_ret
      rw [HV.out]
      exact HN0.out
    · obtain ⟨q, rfl⟩ : ∃ q : Nat, m = q := ⟨m.toNat, by omega⟩
      have hq1 : 1 ≤ q := by omega
      have hqn : q ≤ n := by omega
      have HLN := Lib.hid (rlA_len (zs := nums s) hq1 (by rw [HNN.out]; exact hqn))
      rw [HNN.out] at HLN
      have HAT := Lib.hid (fun k (hk : k + q ≤ n) => rlA_at (zs := nums s) hq1 (by rw [HNN.out]; exact hqn) (k := k) (by rw [HNN.out]; exact hk))
      generalize rlA (nums s) (q : Int) = L at *
      have HB := Lib.hid (Below.refl w.heap.size w)
      have HPS := Lib.hid (fun (k : Nat) (hk : k + q ≤ n) (w : World) => rrsum_any (s.extract k (k + q)) w (by rw [extract_size _ _ _ (by rw [HSZ.out]; exact hk)]; omega))
      have HPN := Lib.hid (fun k => part_nums s k q)
      obtain ⟨i0, hi, hz0, hz1, hz2⟩ := info_parts info32
      have HSB := Lib.hid (fun (k : Nat) (hk : k + q ≤ n) (I J : Int) (eI : I = k) (eJ : J = ((k + q : Nat) : Int)) (w : World) => sub_str s k (k + q) (by omega) (by rw [HSZ.out]; exact hk) I J eI eJ w)
      go_enter Try.func12, Try.ntmps12
      go_wp2
      go_loopw [5, 6] (fun v i wr => ∃ k : Nat, k ≤ n - q + 1 ∧ i = .int .i64 k ∧ wr.ownsRow w.heap.size 22 1 v k ((L.take k).flatMap K32.cs) ∧ Below w.heap.size w wr) (fun _ i _ => n - q + 1 - (intOf i).toNat)
      case atStart => exact ⟨0, Nat.zero_le _, rfl, World.ownsRow_nil _ _ _ _, HB.out⟩
      case round =>
        obtain ⟨k, hk, rfl, ho, hb⟩ := hrel
        have HO := Lib.hid ho
        have HBB := Lib.hid hb
        by_cases hlt : k < n - q + 1
        · have t1 : (k : Int) ≤ (n : Int) - (q : Int) := by omega
          have f2 : IntKind.i64.wrap ((k : Int) + (q : Int)) = (k : Int) + (q : Int) := IntWalk.i64_in _ (by omega)
          have hsl := HSB.out k (by omega) (k : Int) ((k : Int) + (q : Int)) rfl (by omega)
          have HC := HPS.out k (by omega)
          rw [HPN.out, ← HAT.out k (by omega)] at HC
          have HC := Lib.hid HC
          have HTK := Lib.hid (show L.take (k + 1) = L.take k ++ [L.getD k 0] by
            rw [List.take_succ_eq_append_getElem (by rw [HLN.out]; exact hlt), List.getD_eq_getElem?_getD, List.getElem?_eq_getElem (by rw [HLN.out]; exact hlt)]
            rfl)
          have HTL := Lib.hid (show (L.take k).length = k by rw [List.length_take, HLN.out]; omega)
          generalize s.extract k (k + q) = p at *
          generalize L.getD k 0 = z at *
          clear ho hb
          go_wp2_with fail
          refine (HC.out _).mono ?_
          rintro e w1 ⟨rfl, hb1⟩
          have B1 := Lib.hid (HBB.out.trans (hb1.mono HBB.out.size))
          have O1 := Lib.hid ((own_below HO.out hb1).alloc (.cells #[.int .u32 z] 22))
          have B2 := Lib.hid (B1.out.alloc B1.out.size (.cells #[.int .u32 z] 22))
          have R2 := Lib.hid (Kind.row_one (K := K32) (w := w1) (x := z) (t := 22) trivial)
          have VL : Hid (k + 1 ≤ 100000) := Lib.hid (by omega)
          have VS := Lib.hid B2.out.size
          clear hb1
          go_wp2_with (at_builtin; refine wpList_append_K (K := K32) _ rfl _ _ 25 rfl w.heap.size 22 i0 (.int .u32 0) 4 Try.underlying25 hi hz0 hz1 hz2 rfl (by omega) _ k (L.take k) rfl O1.out (some ⟨w1.heap.size, 0, none⟩) 1 1 [z] rfl R2.out rfl VL.out VS.out ?_; intro v3 w3 ho3 hg3; have O3 := Lib.hid ho3; have B3 := Lib.hid (B2.out.grown hg3 B2.out.size (fun g hg => own_base O1.out hg)); obtain ⟨g13, cap13, rfl⟩ := ownsRow_succ ho3; clear ho3 hg3)
          go_roundw
          case rel => exact ⟨k + 1, by omega, by go_num, by rw [HTK.out]; exact O3.out, B3.out⟩
          case measure => simp [intOf]; omega
        · obtain rfl : k = n - q + 1 := by omega
          have t1 : ¬ (((n - q + 1 : Nat) : Int)) ≤ (n : Int) - (q : Int) := by omega
          have hT : L.take (n - q + 1) = L := List.take_of_length_le (by rw [HLN.out]; exact Nat.le_refl _)
          rw [hT] at ho
          have hll := HLN.out
          rw [← hll] at ho
          have HO := Lib.hid ho
          clear ho hb hT hll
          go_wp2
          go_ret
          exact rall_own HO.out HBB.out
theorem drop_same {xs ys : List Int} {k : Nat} (h1 : k < xs.length) (h2 : k < ys.length) : (xs.drop k = ys.drop k) ↔ (xs.getD k 0 = ys.getD k 0 ∧ xs.drop (k + 1) = ys.drop (k + 1)) := by
  rw [List.drop_eq_getElem_cons h1, List.drop_eq_getElem_cons h2, List.cons.injEq, List.getD_eq_getElem?_getD, List.getD_eq_getElem?_getD, List.getElem?_eq_getElem h1, List.getElem?_eq_getElem h2]
  rfl
set_option maxHeartbeats 4000000 in
theorem rrsame9_any (A B : Option Addr) (c d : Nat) (xs ys : List Int) (w : World) (h1 : K32.row w A c xs) (h2 : K32.row w B d ys) (hl : xs.length ≤ 1000000) : Calls Try.prog 10 #[.slice A xs.length c, .slice B ys.length d] w fun e w' => e = .returned (.bool (decide (xs = ys))) ∧ Below w.heap.size w w' := by
  have HB := Lib.hid (Below.refl w.heap.size w)
  have H1 := Lib.hid h1
  have H2 := Lib.hid h2
  have HV := Lib.hid (show decide (xs = ys) = decide (xs.drop 0 = ys.drop 0) from rfl)
  have HNE : Hid (¬ xs.length = ys.length → decide (xs = ys) = false) := Lib.hid (fun hne => decide_eq_false (fun e => hne (by rw [e])))
  have hc1 := h1.1
  have hc2 := h2.1
  have hm1 := h1.2.1
  have hm2 := h2.2.1
  simp only [maxLen] at hm1 hm2
  generalize decide (xs = ys) = V at *
  clear h1 h2
  by_cases hl2 : xs.length = ys.length
  · clear HNE
    generalize hn1 : xs.length = n at *
    generalize hn2 : ys.length = n2 at *
    subst hl2
    have HL1 := Lib.hid hn1
    have HL2 := Lib.hid hn2
    clear hn1 hn2
    go_enter Try.func10, Try.ntmps10
    go_wp2
    go_loopw [5] (fun i wr => ∃ k : Nat, k ≤ n ∧ i = .int .i64 k ∧ Below w.heap.size w wr ∧ V = decide (xs.drop k = ys.drop k)) (fun i _ => n - (intOf i).toNat)
    case atStart => exact ⟨0, Nat.zero_le _, rfl, HB.out, HV.out⟩
    case round =>
      obtain ⟨k, hk, rfl, hb, hf⟩ := hrel
      have HBB := Lib.hid hb
      by_cases hlt : k < n
      · have t1 : (k : Int) < (n : Int) := by omega
        obtain ⟨b1, off1, hA1, hb1, hx1⟩ := row32_cell H1.out (i := k) (by rw [HL1.out]; exact hlt)
        obtain ⟨b2, off2, hA2, hb2, hx2⟩ := row32_cell H2.out (i := k) (by rw [HL2.out]; exact hlt)
        have IX1 := Lib.hid (fun w9 => ix_32 b1 off1 n c k hlt k rfl w9)
        have IX2 := Lib.hid (fun w9 => ix_32 b2 off2 n d k hlt k rfl w9)
        rw [← hA1] at IX1
        rw [← hA2] at IX2
        have c1 := (hb.cell (p := ⟨b1, off1 + k, none⟩) hb1).trans hx1
        have c2 := (hb.cell (p := ⟨b2, off2 + k, none⟩) hb2).trans hx2
        have hb1w := Nat.lt_of_lt_of_le hb1 hb.size
        have hb2w := Nat.lt_of_lt_of_le hb2 hb.size
        have hdr := drop_same (xs := xs) (ys := ys) (k := k) (by rw [HL1.out]; exact hlt) (by rw [HL2.out]; exact hlt)
        generalize xs.getD k 0 = x at *
        generalize ys.getD k 0 = y at *
        generalize off1 + k = o1 at *
        generalize off2 + k = o2 at *
        clear hx1 hx2 hA1 hA2
        by_cases he : x = y
        · subst he
          have HF := Lib.hid (show V = decide (xs.drop (k + 1) = ys.drop (k + 1)) by rw [hf, decide_eq_decide, hdr]; simp)
          clear hf hdr hb
          go_wp2_with fail
          refine wp_region_G _ (by kernel_rfl) ?_
          refine wpG_take (i := 0) (oi := ⟨some 17, _, _, _, _, _⟩) (v := ?_) rfl (by kernel_rfl) (by kernel_rfl) (by kernel_rfl) (Or.inl ⟨by rfl, unib_val ?_⟩) ?_; rotate_left; (focus (intro w9 hSw; go_simp; try with_reducible rfl)); simp only [Act.put, List.setIfInBounds_toArray, List.set_cons_zero, List.set_cons_succ]
          refine wpG_take (i := 1) (oi := ⟨some 18, _, _, _, _, _⟩) (v := ?_) rfl (by kernel_rfl) (by kernel_rfl) (by kernel_rfl) (Or.inl ⟨by rfl, unib_val ?_⟩) ?_; rotate_left; (focus (intro w9 hSw; go_simp; try with_reducible rfl)); simp only [Act.put, List.setIfInBounds_toArray, List.set_cons_zero, List.set_cons_succ]
          refine wpG_take (i := 2) (oi := ⟨some 19, _, _, _, _, _⟩) (v := ?_) rfl (by kernel_rfl) (by kernel_rfl) (by kernel_rfl) (Or.inl ⟨by rfl, unib_val ?_⟩) ?_; rotate_left; (focus (intro w9 hSw; have q0 := IX1.out w9; go_simp; try with_reducible rfl)); simp only [Act.put, List.setIfInBounds_toArray, List.set_cons_zero, List.set_cons_succ]
          refine wpG_take (i := 3) (oi := ⟨some 20, _, _, _, _, _⟩) (v := ?_) rfl (by kernel_rfl) (by kernel_rfl) (by kernel_rfl) (Or.inl ⟨by rfl, unib_val ?_⟩) ?_; rotate_left; (focus (intro w9 hSw; have q0 := (hSw.cell (p := ⟨b1, o1, none⟩) hb1w).trans c1; go_simp; try with_reducible rfl)); simp only [Act.put, List.setIfInBounds_toArray, List.set_cons_zero, List.set_cons_succ]
          refine wpG_take (i := 4) (oi := ⟨some 21, _, _, _, _, _⟩) (v := ?_) rfl (by kernel_rfl) (by kernel_rfl) (by kernel_rfl) (Or.inl ⟨by rfl, unib_val ?_⟩) ?_; rotate_left; (focus (intro w9 hSw; go_simp; try with_reducible rfl)); simp only [Act.put, List.setIfInBounds_toArray, List.set_cons_zero, List.set_cons_succ]
          refine wpG_take (i := 5) (oi := ⟨some 22, _, _, _, _, _⟩) (v := ?_) rfl (by kernel_rfl) (by kernel_rfl) (by kernel_rfl) (Or.inl ⟨by rfl, unib_val ?_⟩) ?_; rotate_left; (focus (intro w9 hSw; go_simp; try with_reducible rfl)); simp only [Act.put, List.setIfInBounds_toArray, List.set_cons_zero, List.set_cons_succ]
          refine wpG_take (i := 6) (oi := ⟨some 23, _, _, _, _, _⟩) (v := ?_) rfl (by kernel_rfl) (by kernel_rfl) (by kernel_rfl) (Or.inl ⟨by rfl, unib_val ?_⟩) ?_; rotate_left; (focus (intro w9 hSw; have q0 := IX2.out w9; go_simp; try with_reducible rfl)); simp only [Act.put, List.setIfInBounds_toArray, List.set_cons_zero, List.set_cons_succ]
          refine wpG_take (i := 7) (oi := ⟨some 24, _, _, _, _, _⟩) (v := ?_) rfl (by kernel_rfl) (by kernel_rfl) (by kernel_rfl) (Or.inl ⟨by rfl, unib_val ?_⟩) ?_; rotate_left; (focus (intro w9 hSw; have q0 := (hSw.cell (p := ⟨b2, o2, none⟩) hb2w).trans c2; go_simp; try with_reducible rfl)); simp only [Act.put, List.setIfInBounds_toArray, List.set_cons_zero, List.set_cons_succ]
          refine wpG_take (i := 8) (oi := ⟨some 25, _, _, _, _, _⟩) (v := ?_) rfl (by kernel_rfl) (by kernel_rfl) (by kernel_rfl) (Or.inl ⟨by rfl, unib_val ?_⟩) ?_; rotate_left; (focus (intro w9 hSw; go_simp; try with_reducible rfl)); simp only [Act.put, List.setIfInBounds_toArray, List.set_cons_zero, List.set_cons_succ]
          refine wpG_done (by kernel_rfl) ?_ _
          intro w9 hSw _
          have B9 := Lib.hid (HBB.out.trans (hSw.mono HBB.out.size))
          clear hSw c1 c2
          go_wp2
          go_roundw
          case rel => exact ⟨k + 1, by omega, by go_num, B9.out, HF.out⟩
          case measure => simp [intOf]; omega
        · have HF := Lib.hid (show V = false by rw [hf, decide_eq_false_iff_not, hdr]; simp [he])
          clear hf hdr hb
          go_wp2_with fail
          refine wp_region_G _ (by kernel_rfl) ?_
          refine wpG_take (i := 0) (oi := ⟨some 17, _, _, _, _, _⟩) (v := ?_) rfl (by kernel_rfl) (by kernel_rfl) (by kernel_rfl) (Or.inl ⟨by rfl, unib_val ?_⟩) ?_; rotate_left; (focus (intro w9 hSw; go_simp; try with_reducible rfl)); simp only [Act.put, List.setIfInBounds_toArray, List.set_cons_zero, List.set_cons_succ]
          refine wpG_take (i := 1) (oi := ⟨some 18, _, _, _, _, _⟩) (v := ?_) rfl (by kernel_rfl) (by kernel_rfl) (by kernel_rfl) (Or.inl ⟨by rfl, unib_val ?_⟩) ?_; rotate_left; (focus (intro w9 hSw; go_simp; try with_reducible rfl)); simp only [Act.put, List.setIfInBounds_toArray, List.set_cons_zero, List.set_cons_succ]
          refine wpG_take (i := 2) (oi := ⟨some 19, _, _, _, _, _⟩) (v := ?_) rfl (by kernel_rfl) (by kernel_rfl) (by kernel_rfl) (Or.inl ⟨by rfl, unib_val ?_⟩) ?_; rotate_left; (focus (intro w9 hSw; have q0 := IX1.out w9; go_simp; try with_reducible rfl)); simp only [Act.put, List.setIfInBounds_toArray, List.set_cons_zero, List.set_cons_succ]
          refine wpG_take (i := 3) (oi := ⟨some 20, _, _, _, _, _⟩) (v := ?_) rfl (by kernel_rfl) (by kernel_rfl) (by kernel_rfl) (Or.inl ⟨by rfl, unib_val ?_⟩) ?_; rotate_left; (focus (intro w9 hSw; have q0 := (hSw.cell (p := ⟨b1, o1, none⟩) hb1w).trans c1; go_simp; try with_reducible rfl)); simp only [Act.put, List.setIfInBounds_toArray, List.set_cons_zero, List.set_cons_succ]
          refine wpG_take (i := 4) (oi := ⟨some 21, _, _, _, _, _⟩) (v := ?_) rfl (by kernel_rfl) (by kernel_rfl) (by kernel_rfl) (Or.inl ⟨by rfl, unib_val ?_⟩) ?_; rotate_left; (focus (intro w9 hSw; go_simp; try with_reducible rfl)); simp only [Act.put, List.setIfInBounds_toArray, List.set_cons_zero, List.set_cons_succ]
          refine wpG_take (i := 5) (oi := ⟨some 22, _, _, _, _, _⟩) (v := ?_) rfl (by kernel_rfl) (by kernel_rfl) (by kernel_rfl) (Or.inl ⟨by rfl, unib_val ?_⟩) ?_; rotate_left; (focus (intro w9 hSw; go_simp; try with_reducible rfl)); simp only [Act.put, List.setIfInBounds_toArray, List.set_cons_zero, List.set_cons_succ]
          refine wpG_take (i := 6) (oi := ⟨some 23, _, _, _, _, _⟩) (v := ?_) rfl (by kernel_rfl) (by kernel_rfl) (by kernel_rfl) (Or.inl ⟨by rfl, unib_val ?_⟩) ?_; rotate_left; (focus (intro w9 hSw; have q0 := IX2.out w9; go_simp; try with_reducible rfl)); simp only [Act.put, List.setIfInBounds_toArray, List.set_cons_zero, List.set_cons_succ]
          refine wpG_take (i := 7) (oi := ⟨some 24, _, _, _, _, _⟩) (v := ?_) rfl (by kernel_rfl) (by kernel_rfl) (by kernel_rfl) (Or.inl ⟨by rfl, unib_val ?_⟩) ?_; rotate_left; (focus (intro w9 hSw; have q0 := (hSw.cell (p := ⟨b2, o2, none⟩) hb2w).trans c2; go_simp; try with_reducible rfl)); simp only [Act.put, List.setIfInBounds_toArray, List.set_cons_zero, List.set_cons_succ]
          refine wpG_take (i := 8) (oi := ⟨some 25, _, _, _, _, _⟩) (v := ?_) rfl (by kernel_rfl) (by kernel_rfl) (by kernel_rfl) (Or.inl ⟨by rfl, unib_val ?_⟩) ?_; rotate_left; (focus (intro w9 hSw; go_simp; try with_reducible rfl)); simp only [Act.put, List.setIfInBounds_toArray, List.set_cons_zero, List.set_cons_succ]
          refine wpG_done (by kernel_rfl) ?_ _
          intro w9 hSw _
          have B9 := Lib.hid (HBB.out.trans (hSw.mono HBB.out.size))
          clear hSw c1 c2
          go_wp2
          go_ret
          exact ⟨by rw [HF.out]; try rfl, B9.out⟩
      · obtain rfl : k = n := by omega
        have t1 : ¬ (k : Int) < (k : Int) := by omega
        rw [List.drop_eq_nil_of_le (by rw [HL1.out]; exact Nat.le_refl _), List.drop_eq_nil_of_le (by rw [HL2.out]; exact Nat.le_refl _), decide_eq_true rfl] at hf
        have HF := Lib.hid hf
        clear hf hb
        go_wp2
        go_ret
        exact ⟨by rw [HF.out]; try rfl, HBB.out⟩
  · have HF := Lib.hid (HNE.out hl2)
    have t1 : ¬ (xs.length : Int) = (ys.length : Int) := by omega
    go_enter Try.func10, Try.ntmps10
    go_wp2
    go_ret
    exact ⟨by rw [HF.out]; try rfl, HB.out⟩
end Go.Proofs.Ytmhdidnahikmbaa

