/-
  What sha.takeBlock answers: the state behind one block more; nothing that was there is written.
-/
import Derived.Test.YtonbhcbkelmhgaaDoorShaWords
namespace Go.Proofs.YtonbhcbkelmhgaaDoor
open Go.RowKit WM
set_option linter.unusedVariables false
def BlockPost (s : SH.St) (zs : List Int) (w : World) (e : Ending) (w' : World) : Prop := e = .returned (.agg (vals (SH.blk s zs).list)) ∧ Below w.heap.size w w'
theorem put64 (w : World) (c c' : Array Value) : (w.alloc (.cells c 101)).setRow w.heap.size c' = w.alloc (.cells c' 101) := World.setRow_alloc_new w _ _ _
theorem turned_int (x : Nat) (n : Int) (w : World) (h : x < 4294967296) (h1 : 1 ≤ n) (h2 : n ≤ 31) :
    Calls Tryd.prog 84 #[.int .u32 x, .int .i64 n] w fun e w' => e = .returned (.int .u32 (SH.rotr x n.toNat : Nat)) ∧ w' = w := by
  have := turned_still x n.toNat w h (by omega) (by omega)
  rw [show ((n.toNat : Nat) : Int) = n by omega] at this
  exact this
theorem u32_not {e : Nat} (h : e < 4294967296) : bits .xor .u32 IntKind.u32.max (e : Int) = ((4294967295 - e : Nat) : Int) := by
  rw [show IntKind.u32.max = 4294967295 by rfl, u32_xor _ _ (by omega) (by omega) (by omega) (by omega)]
  congr 1
  have h2 : (4294967295 - e) ^^^ e = 4294967295 := by
    apply Nat.eq_of_testBit_eq
    intro i
    have hb := Nat.testBit_two_pow_sub_succ (n := 32) h i
    rw [Nat.testBit_xor, show 4294967295 - e = 2 ^ 32 - (e + 1) by omega, hb, show (4294967295 : Nat) = 2 ^ 32 - 1 by rfl, Nat.testBit_two_pow_sub_one]
    by_cases hi : i < 32
    · simp [hi]
    · have : e.testBit i = false := Nat.testBit_lt_two_pow (Nat.lt_of_lt_of_le h (by have := Nat.pow_le_pow_right (n := 2) (by decide) (show 32 ≤ i by omega); simpa using this))
      simp [hi, this]
  have h3 : 4294967295 ^^^ e = ((4294967295 - e) ^^^ e) ^^^ e := by rw [h2]
  rw [Int.toNat_natCast, show Int.toNat 4294967295 = 4294967295 by rfl, h3, Nat.xor_assoc, Nat.xor_self, Nat.xor_zero]
/-- One round's values, each by its number. -/
theorem round_vals (s : SH.St) (hs : s.ok) (k w : Nat) : ∃ p1 S1 q1 ef ne eg c q2 q3 t p2 S0 ab ac bc o1 m u na nd : Nat,
    (bits .xor .u32 (SH.rotr s.e 6 : Nat) (SH.rotr s.e 11 : Nat) = (p1 : Int) ∧ bits .xor .u32 (p1 : Int) (SH.rotr s.e 25 : Nat) = (S1 : Int) ∧ ((s.h : Int) + (S1 : Int)) % 4294967296 = (q1 : Int) ∧ bits .and .u32 (s.e : Int) (s.f : Int) = (ef : Int) ∧
      bits .xor .u32 IntKind.u32.max (s.e : Int) = (ne : Int) ∧ bits .and .u32 (ne : Int) (s.g : Int) = (eg : Int) ∧ bits .or .u32 (ef : Int) (eg : Int) = (c : Int) ∧ ((q1 : Int) + (c : Int)) % 4294967296 = (q2 : Int) ∧
      ((q2 : Int) + (k : Int)) % 4294967296 = (q3 : Int) ∧ ((q3 : Int) + (w : Int)) % 4294967296 = (t : Int)) ∧
    (bits .xor .u32 (SH.rotr s.a 2 : Nat) (SH.rotr s.a 13 : Nat) = (p2 : Int) ∧ bits .xor .u32 (p2 : Int) (SH.rotr s.a 22 : Nat) = (S0 : Int) ∧ bits .and .u32 (s.a : Int) (s.b : Int) = (ab : Int) ∧ bits .and .u32 (s.a : Int) (s.c : Int) = (ac : Int) ∧
      bits .and .u32 (s.b : Int) (s.c : Int) = (bc : Int) ∧ bits .or .u32 (ab : Int) (ac : Int) = (o1 : Int) ∧ bits .or .u32 (o1 : Int) (bc : Int) = (m : Int) ∧ ((S0 : Int) + (m : Int)) % 4294967296 = (u : Int)) ∧
    (((t : Int) + (u : Int)) % 4294967296 = (na : Int) ∧ ((s.d : Int) + (t : Int)) % 4294967296 = (nd : Int)) ∧
    SH.rnd s k w = ⟨na, s.a, s.b, s.c, nd, s.e, s.f, s.g⟩ := by
  obtain ⟨ha, hb, hc, hd, he, hf, hg, hh⟩ := hs
  refine ⟨_, _, _, _, _, _, _, _, _, _, _, _, _, _, _, _, _, _, _, _,
    ⟨u32_xor_nat _ _ (SH.rotr_lt _ he) (SH.rotr_lt _ he), u32_xor_nat _ _ (SH.xor_lt (SH.rotr_lt _ he) (SH.rotr_lt _ he)) (SH.rotr_lt _ he), u32_sum _ _, u32_and_nat _ _ he hf, u32_not he, u32_and_nat _ _ (by omega) hg, u32_or_nat _ _ (SH.and_lt he) (SH.and_lt (by omega)), u32_sum _ _, u32_sum _ _, u32_sum _ _⟩,
    ⟨u32_xor_nat _ _ (SH.rotr_lt _ ha) (SH.rotr_lt _ ha), u32_xor_nat _ _ (SH.xor_lt (SH.rotr_lt _ ha) (SH.rotr_lt _ ha)) (SH.rotr_lt _ ha), u32_and_nat _ _ ha hb, u32_and_nat _ _ ha hc, u32_and_nat _ _ hb hc, u32_or_nat _ _ (SH.and_lt ha) (SH.and_lt ha), u32_or_nat _ _ (SH.or_lt (SH.and_lt ha) (SH.and_lt ha)) (SH.and_lt hb), u32_sum _ _⟩,
    ⟨u32_sum _ _, u32_sum _ _⟩, rfl⟩
end Go.Proofs.YtonbhcbkelmhgaaDoor
