/-
  What wire.Put answers.
-/
import Derived.Test.YtonbhcbkelmhgaaDoorBase
namespace Go.Proofs.YtonbhcbkelmhgaaDoor
open Go.RowKit WM
set_option linter.unusedVariables false
set_option maxRecDepth 20000

/-! ### Put -/
/-- What Put holds behind k rounds. -/
def PutInv (n : Int) (w : World) (k : Nat) (v : Value) (wr : World) : Prop :=
  ∃ L : List Int, (k ≤ 9 → L = encH k (n / 2 ^ (7 * (10 - k)))) ∧ (k = 10 → L = enc n) ∧ v = .slice (some ⟨w.heap.size, 0, none⟩) L.length 10 ∧
    wr.ownsRow w.heap.size 5 1 v L.length (L.map (Value.int .u8)) ∧ Below w.heap.size w wr
theorem pow_step (n : Int) (k : Nat) (hk : k ≤ 9) : n / 2 ^ (7 * (10 - k)) = n / 2 ^ (7 * (9 - k)) / 128 := by
  rw [show 7 * (10 - k) = 7 * (9 - k) + 7 by omega, Int.pow_add, Int.ediv_ediv_of_nonneg (Int.le_of_lt (Int.pow_pos (by omega)))]
  rfl
theorem put_skip {n : Int} {w wr : World} {k : Nat} {v : Value} (h : PutInv n w k v wr) (hk : k < 9) (hz : n / 2 ^ (7 * (9 - k)) = 0) : PutInv n w (k + 1) v wr := by
  obtain ⟨L, h1, _, h3, h4, h5⟩ := h
  refine ⟨L, fun _ => ?_, fun h => by omega, h3, h4, h5⟩
  rw [h1 (by omega), pow_step n k (by omega), show 10 - (k + 1) = 9 - k by omega, hz]
  simp [encH_zero]
theorem put_more {n : Int} {w wr w1 : World} {k : Nat} {L : List Int} {o : Obj} (hk : k < 9) (h1 : k ≤ 9 → L = encH k (n / 2 ^ (7 * (10 - k)))) (h5 : Below w.heap.size w wr) (hz : ¬ n / 2 ^ (7 * (9 - k)) = 0) {c : Int} (hc : c = n / 2 ^ (7 * (9 - k)) % 128 + 128)
    (ho : w1.ownsRow w.heap.size 5 1 (.slice (some ⟨w.heap.size, 0, none⟩) (L.length + 1) 10) (L.length + 1) (L.map (Value.int .u8) ++ [.int .u8 c])) (hg : (wr.alloc o).grownBy w1 (some w.heap.size)) :
    PutInv n w (k + 1) (.slice (some ⟨w.heap.size, 0, none⟩) (L.length + 1) 10) w1 := by
  refine ⟨L ++ [c], fun _ => ?_, fun h => by omega, by simp, by simpa using ho, ?_⟩
  · rw [encH, show 10 - (k + 1) = 9 - k by omega, if_neg hz, ← pow_step n k (by omega), ← h1 (by omega), hc]
  · exact (h5.alloc h5.size o).grown hg (by simpa using Nat.le_succ_of_le h5.size) (fun g hg => by simp at hg; omega)
theorem put_last {n : Int} {w wr w1 : World} {L : List Int} {o : Obj} (h1 : 9 ≤ 9 → L = encH 9 (n / 2 ^ (7 * (10 - 9)))) (h5 : Below w.heap.size w wr) {c : Int} (hc : c = n % 128)
    (ho : w1.ownsRow w.heap.size 5 1 (.slice (some ⟨w.heap.size, 0, none⟩) (L.length + 1) 10) (L.length + 1) (L.map (Value.int .u8) ++ [.int .u8 c])) (hg : (wr.alloc o).grownBy w1 (some w.heap.size)) :
    PutInv n w 10 (.slice (some ⟨w.heap.size, 0, none⟩) (L.length + 1) 10) w1 := by
  refine ⟨L ++ [c], fun h => by omega, fun _ => ?_, by simp, by simpa using ho, ?_⟩
  · rw [enc, hc, h1 (by omega)]; rfl
  · exact (h5.alloc h5.size o).grown hg (by simpa using Nat.le_succ_of_le h5.size) (fun g hg => by simp at hg; omega)
set_option maxHeartbeats 1000000 in
theorem put_any (n : Int) (w : World) (h0 : 0 ≤ n) (h1 : n ≤ 18446744073709551615) :
    Calls Tryd.prog 60 #[.int .u64 n] w fun e w' => ∃ v, e = .returned v ∧ PutInv n w 10 v w' := by
  obtain ⟨i0, hi, hz0, hz1, hz2⟩ := info_parts infoByte
  go_enter Tryd.func60, Tryd.ntmps60
  go_wp2_with (at_make; refine wpList_make_own _ rfl _ _ 26 rfl w.heap.size 5 i0 (.int .u8 0) 1 Tryd.underlying26 hi hz0 hz1 .i64 .i64 10 10 rfl rfl rfl (by omega) (by decide) (Nat.le_refl _) ?_; intro w1 hown hgrow)
  go_loopw [3, 8] (fun v i wr => ∃ k : Nat, k ≤ 10 ∧ i = .int .i64 k ∧ PutInv n w k v wr) (fun _ i _ => 10 - (intOf i).toNat)
  case atStart => exact ⟨0, by omega, rfl, [], fun _ => rfl, fun h => by omega, rfl, hown, (Below.refl _ _).grown hgrow (Nat.le_refl _) (fun _ h => by cases h)⟩
  case round =>
    obtain ⟨k, hk, rfl, hinv⟩ := hrel
    clear hown hgrow
    by_cases hk9 : k < 10
    · by_cases hk8 : k < 9
      · by_cases hz : n / 2 ^ (7 * (9 - k)) = 0
        · have hzb : (n / 2 ^ (7 * (9 - k)) != 0) = false := by simp [hz]
          have H := Lib.hid (put_skip hinv hk8 hz)
          clear hinv hz
          go_wp2
          go_roundw
          case rel => exact ⟨k + 1, by omega, by go_num, H.out⟩
          case measure => simp [intOf]; omega
        · have hzb : (n / 2 ^ (7 * (9 - k)) != 0) = true := by simp [hz]
          have hz' := Lib.hid hz
          clear hz
          obtain ⟨L, a1, _, rfl, ho, a5⟩ := hinv
          have hlen : L.length ≤ k := by rw [a1 (by omega)]; exact encH_len _ _
          have A1 := Lib.hid a1
          have hc := Lib.hid (top_set (n / 2 ^ (7 * (9 - k)) % 256) (by omega) (by omega))
          clear a1
          go_wp2_with (at_builtin; refine wpList_append_fits _ rfl _ _ 26 rfl w.heap.size 5 i0 1 Tryd.underlying26 hi hz1 w.heap.size L.length 10 _ rfl (ho.alloc _) ⟨wr.heap.size, 0, none⟩ 1 1 [.int .u8 (bits BinOp.or IntKind.u8 (n / 2 ^ (7 * (9 - k)) % 256) 128)] rfl rfl (one_cell rfl) (by intro u hu; simp at hu; subst hu; rfl) (by omega) ?_; intro w2 ho2 hg2)
          go_roundw
          case rel => exact ⟨k + 1, by omega, by go_num, put_more hk8 A1.out a5 hz'.out (by rw [hc.out]; omega) ho2 hg2⟩
          case measure => simp [intOf]; omega
      · obtain rfl : k = 9 := by omega
        obtain ⟨L, a1, _, rfl, ho, a5⟩ := hinv
        have hlen : L.length ≤ 9 := by rw [a1 (by omega)]; exact encH_len _ _
        have A1 := Lib.hid a1
        have hc := Lib.hid (low_seven (n % 256) (by omega) (by omega))
        clear a1
        go_wp2_with (at_builtin; refine wpList_append_fits _ rfl _ _ 26 rfl w.heap.size 5 i0 1 Tryd.underlying26 hi hz1 w.heap.size L.length 10 _ rfl (ho.alloc _) ⟨wr.heap.size, 0, none⟩ 1 1 [.int .u8 (bits BinOp.andNot IntKind.u8 (n % 256) 128)] rfl rfl (one_cell rfl) (by intro u hu; simp at hu; subst hu; rfl) (by omega) ?_; intro w2 ho2 hg2)
        go_roundw
        case rel => exact ⟨10, by omega, rfl, put_last A1.out a5 (by rw [hc.out]; omega) ho2 hg2⟩
        case measure => simp [intOf]
    · obtain rfl : k = 10 := by omega
      have H := Lib.hid hinv
      clear hinv
      go_wp2
      go_ret
      exact ⟨_, rfl, H.out⟩

theorem put_gives (n : Int) (w : World) (h0 : 0 ≤ n) (h1 : n ≤ 18446744073709551615) : Calls Tryd.prog 60 #[.int .u64 n] w (Gives w (enc n)) := by
  refine (put_any n w h0 h1).mono ?_
  rintro e w' ⟨v, rfl, L, _, hL, rfl, ho, hb⟩
  have hLe := hL rfl
  subst hLe
  exact ⟨_, _, _, rfl, rfl, (enc_len n).2, by decide, ho, hb⟩

end Go.Proofs.YtonbhcbkelmhgaaDoor
