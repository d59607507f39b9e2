import Derived.Test.YtcmknbdeafcknaaGreatDoorGBase
/-
  What the document's own Put answers.
-/
namespace Go.Proofs.YtcmknbdeafcknaaGreatDoor
open Go.RowKit WM
set_option linter.unusedVariables false

/-! ### Put -/
def RPut (n : Int) (w : World) (q : Int) (v : Value) (wr : World) : Prop :=
  ∃ L : List Int, 0 ≤ q ∧ q ≤ n ∧ enc n = encH 9 (q / 128) ++ L ∧ wr.ownsRow w.heap.size 5 1 v L.length (L.map (Value.int .u8)) ∧ Below w.heap.size w wr
theorem encH_step {q : Int} (h0 : 128 ≤ q) (h1 : q ≤ 18446744073709551615) : encH 9 (q / 128) = encH 9 (q / 128 / 128) ++ [q / 128 % 128 + 128] := by
  rw [encH, if_neg (by omega), encH_more 8 9 (q / 128 / 128) (by omega) (by omega) (by omega)]
set_option maxHeartbeats 1000000 in
theorem rput_any (n : Int) (w : World) (h0 : 0 ≤ n) (h1 : n ≤ 18446744073709551615) :
    Calls Tryz.prog 59 #[.int .u64 n] w (Gives w (enc n)) := by
  obtain ⟨i0, hi, hz0, hz1, hz2⟩ := info_parts infoByte
  go_enter Tryz.func59, Tryz.ntmps59
  go_wp2
  go_loopw [0, 3] (fun m v wr => ∃ q : Int, m = .int .u64 q ∧ RPut n w q v wr) (fun m _ _ => (intOf m).toNat)
  case atStart =>
    refine ⟨n, rfl, [n % 128], h0, Int.le_refl _, rfl, ?_, (Below.refl _ _).alloc (Nat.le_refl _) _⟩
    exact own_new w w.heap.size (Nat.le_refl _) 5 [n % 128] (by simp [maxLen])
  case round =>
    obtain ⟨q, rfl, L, q0, q1, he, ho, hb⟩ := hrel
    by_cases hq : 128 ≤ q
    · have hs := encH_step hq (by omega)
      rw [hs] at he
      have hLn : L.length ≤ 10 := by have := (enc_len n).2; rw [he] at this; simp at this; omega
      obtain ⟨A, m, c, hv, hm, hmc, hcM, ho', _⟩ := gives_own (w := w) ho hb
      injection hv with hv
      subst hv
      have HE := Lib.hid he
      have HM := Lib.hid hm
      have hnil := own_nil ho'
      have hby := Byt.own ho'
      have hm10 : m ≤ 10 := by omega
      have hsz := hb.size
      clear he hs hm ho hcM ho'
      go_wp2_with (at_builtin; refine wpList_append_byt _ rfl _ _ 46 rfl w.heap.size 5 i0 Tryz.underlying46 hi hz0 hz1 hz2 _ 1 [q / 128 % 128 + 128] rfl (own_new wr w.heap.size hsz 5 [q / 128 % 128 + 128] (by simp [maxLen])) wr.heap.size A m c L rfl (hby.move (fun p hp => World.cell?_alloc_lt wr _ p hp)) HM.out hnil (by omega) (by simp; omega) ?_; intro v5 w5 ho5 hg5)
      go_roundw
      case rel =>
        refine ⟨q / 128, rfl, (q / 128 % 128 + 128) :: L, by omega, by omega, by rw [HE.out, List.append_assoc, List.singleton_append], ?_, (hb.alloc hsz _).grown hg5 (by simp; omega) (fun g hg => own_base (own_new wr w.heap.size hsz 5 [q / 128 % 128 + 128] (by simp [maxLen])) hg)⟩
        have hl : ((q / 128 % 128 + 128) :: L).length = 1 + m := by rw [List.length_cons, HM.out]; omega
        rw [hl]
        exact ho5
      case measure => simp [intOf]; omega
    · have hq' : q < 128 := by omega
      rw [show q / 128 = 0 by omega, encH_zero, List.nil_append] at he
      subst he
      have HO := Lib.hid (gives_own ho hb)
      clear ho
      go_wp2
      go_ret
      exact HO.out

end Go.Proofs.YtcmknbdeafcknaaGreatDoor

