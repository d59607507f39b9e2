/-
  What the document's own turned and k answer; nothing that was there is written.
-/
import Derived.Test.YtonbhcbkelmhgaaDoorShaRound
namespace Go.Proofs.YtonbhcbkelmhgaaDoor
open Go.RowKit WM
set_option linter.unusedVariables false
theorem rturned (x : Nat) (n : Int) (w : World) (h : x < 4294967296) (h1 : 1 ≤ n) (h2 : n ≤ 31) :
    Calls Tryd.prog 76 #[.int .u32 x, .int .u32 n] w fun e w' => e = .returned (.int .u32 (SH.rotr x n.toNat : Nat)) ∧ w' = w := by
  obtain ⟨m, rfl⟩ : ∃ m : Nat, n = m := ⟨n.toNat, by omega⟩
  have hw : ((32 : Int) - (m : Int)) % 4294967296 = ((32 - m : Nat) : Int) := by omega
  have hw2 : IntKind.u32.wrap ((32 : Int) - (m : Int)) = ((32 - m : Nat) : Int) := by rw [IntWalk.u32_in _ (by omega)]; omega
  have hl : Op.shift BinOp.shl .u32 (x : Int) .u32 ((32 - m : Nat) : Int) = pure (.int .u32 ((x * 2 ^ (32 - m) % 4294967296 : Nat) : Int)) := by
    rw [shift_shl_any _ _ _ _ (by omega), IntKind.wrap_u32', Int.toNat_natCast, show IntKind.u32.bits = 32 from rfl, Nat.min_eq_left (by omega)]
    congr 2
  have hr : Op.shift BinOp.shr .u32 (x : Int) .u32 (m : Int) = pure (.int .u32 ((x / 2 ^ m : Nat) : Int)) := by
    rw [shift_shr_any _ _ _ _ (by omega), Int.toNat_natCast, show IntKind.u32.bits = 32 from rfl, Nat.min_eq_left (by omega)]
    congr 2
  have ho : bits .or .u32 ((x / 2 ^ m : Nat) : Int) ((x * 2 ^ (32 - m) % 4294967296 : Nat) : Int) = (SH.rotr x m : Nat) := by
    rw [u32_or_nat _ _ (Nat.lt_of_le_of_lt (Nat.div_le_self _ _) h) (Nat.mod_lt _ (by decide))]; rfl
  rw [Int.toNat_natCast]
  generalize SH.rotr x m = r at *
  generalize x * 2 ^ (32 - m) % 4294967296 = p at *
  generalize x / 2 ^ m = q at *
  generalize 32 - m = s at *
  clear h h1 h2
  go_enter Tryd.func76, Tryd.ntmps76
  go_wp2
  go_ret
  exact ⟨rfl, rfl⟩
set_option maxHeartbeats 1000000 in
set_option maxRecDepth 100000 in
theorem rk_any (w : World) : Calls Tryd.prog 77 #[] w fun e w' => e = .returned (.slice (some ⟨w.heap.size, 0, none⟩) 64 64) ∧ w.alloc (.cells (vals SH.K) 90) = w' := by
  go_enter Tryd.func77, Tryd.ntmps77
  go_wp2
  go_ret
  exact ⟨rfl, rfl⟩
end Go.Proofs.YtonbhcbkelmhgaaDoor
