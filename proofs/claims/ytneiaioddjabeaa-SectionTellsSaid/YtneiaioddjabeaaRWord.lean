/-
  What the document's own Word answers.
-/
import Derived.Test.YtneiaioddjabeaaWWord
namespace Go.Proofs.Ytneiaioddjabeaa
open Go.RowKit WM
set_option linter.unusedVariables false

theorem rword_gives (n : Int) (w : World) (h0 : 0 ≤ n) (h1 : n ≤ 4294967295) : Calls Try.prog 20 #[.int .u32 n] w (Gives w (word n)) := by
  go_enter Try.func20, Try.ntmps20
  go_wp2
  go_ret
  exact ⟨_, _, _, rfl, rfl, Nat.le_refl _, by decide, own_new w w.heap.size (Nat.le_refl _) 5 (word n) (by simp [word, maxLen]), (Below.refl _ _).alloc (Nat.le_refl _) _⟩
end Go.Proofs.Ytneiaioddjabeaa
