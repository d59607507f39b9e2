/-
  What sha.turned answers, and RotateLeft32: the word turned; nothing is written.
-/
import Derived.Test.YtonbhcbkelmhgaaDoorBase
import Derived.Test.YtonbhcbkelmhgaaDoorShaMath
namespace Go.Proofs.YtonbhcbkelmhgaaDoor
open Go.RowKit WM
set_option linter.unusedVariables false

theorem rot_any (x n : Nat) (w : World) (h : x < 4294967296) (h1 : 1 ≤ n) (h2 : n ≤ 31) :
    Calls Tryd.prog 85 #[.int .u32 x, .int .i64 (-n)] w fun e w' => e = .returned (.int .u32 (SH.rotr x n : Nat)) ∧ w = w' := by
  have hb : bits BinOp.and IntKind.u64 (IntKind.u64.wrap (-(n : Int))) 31 = ((32 - n : Nat) : Int) := by
    have e : IntKind.u64.wrap (-(n : Int)) = ((18446744073709551616 - n : Nat) : Int) := by
      simp [IntKind.wrap, IntKind.bits, IntKind.signed]; omega
    rw [e, u64_and _ _ (by omega) (by omega) (by omega) (by omega)]
    congr 1
    rw [Int.toNat_natCast, show Int.toNat 31 = 31 from rfl, nat_mask5]
    omega
  have hw : IntKind.u64.wrap (32 - ((32 - n : Nat) : Int)) = (n : Int) := by
    simp [IntKind.wrap, IntKind.bits, IntKind.signed]; omega
  have hl : Op.shift BinOp.shl .u32 (x : Int) .u64 ((32 - n : Nat) : Int) = pure (.int .u32 ((x * 2 ^ (32 - n) % 4294967296 : Nat) : Int)) := by
    rw [shift_shl_any _ _ _ _ (by omega), IntKind.wrap_u32', Int.toNat_natCast, show IntKind.u32.bits = 32 from rfl, Nat.min_eq_left (by omega)]
    congr 2
  have hr : Op.shift BinOp.shr .u32 (x : Int) .u64 (n : Int) = pure (.int .u32 ((x / 2 ^ n : Nat) : Int)) := by
    rw [shift_shr_any _ _ _ _ (by omega), Int.toNat_natCast, show IntKind.u32.bits = 32 from rfl, Nat.min_eq_left (by omega)]
    congr 2
  have ho : bits .or .u32 ((x * 2 ^ (32 - n) % 4294967296 : Nat) : Int) ((x / 2 ^ n : Nat) : Int) = (SH.rotr x n : Nat) := by
    rw [u32_or_nat _ _ (Nat.mod_lt _ (by decide)) (Nat.lt_of_le_of_lt (Nat.div_le_self _ _) h), Nat.or_comm]; rfl
  generalize SH.rotr x n = r at *
  generalize x * 2 ^ (32 - n) % 4294967296 = p at *
  generalize x / 2 ^ n = q at *
  generalize 32 - n = s at *
  clear h h1 h2
  go_enter Tryd.func85, Tryd.ntmps85
  go_wp2
  go_ret
  exact ⟨rfl, rfl⟩
theorem turned_any (x n : Nat) (w : World) (h : x < 4294967296) (h1 : 1 ≤ n) (h2 : n ≤ 31) :
    Calls Tryd.prog 84 #[.int .u32 x, .int .i64 n] w fun e w' => e = .returned (.int .u32 (SH.rotr x n : Nat)) ∧ w = w' := by
  have hw : IntKind.i64.wrap (-(n : Int)) = -(n : Int) := IntWalk.i64_in _ (by omega)
  go_enter Tryd.func84, Tryd.ntmps84
  go_wp2_with fail
  refine (rot_any x n _ h h1 h2).mono ?_
  rintro e w1 ⟨rfl, rfl⟩
  go_wp2
  go_ret
  exact ⟨rfl, rfl⟩
end Go.Proofs.YtonbhcbkelmhgaaDoor
