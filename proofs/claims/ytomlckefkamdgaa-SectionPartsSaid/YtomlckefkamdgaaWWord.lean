/-
  What wire.Word answers.
-/
import Derived.Test.YtomlckefkamdgaaBase
namespace Go.Proofs.Ytomlckefkamdgaa
open Go.RowKit WM
set_option linter.unusedVariables false

def word (n : Int) : List Int := [n / 16777216, n / 65536 % 256, n / 256 % 256, n % 256]
theorem word_bytes {n : Int} (h0 : 0 ≤ n) (h1 : n ≤ 4294967295) : AllBytes (word n) := by
  intro z hz
  simp [word] at hz
  omega
def wordRow (n : Int) : Obj := .cells #[.int .u8 (n / 16777216), .int .u8 (n / 65536 % 256), .int .u8 (n / 256 % 256), .int .u8 (n % 256)] 5

set_option maxHeartbeats 400000 in
theorem word_any (n : Int) (w : World) (h0 : 0 ≤ n) (h1 : n ≤ 4294967295) :
    Calls Try.prog 29 #[.int .u32 n] w fun e w' => e = .returned (.slice (some ⟨w.heap.size, 0, none⟩) 4 4) ∧ w.alloc (wordRow n) = w' := by
  have mk := make4
  unfold wordRow
  go_enter Try.func29, Try.ntmps29
  go_wp2
  refine wp_loop_rounds 5 ?_
  rw [rounds_succ]; go_wp2
  rw [rounds_succ]; go_wp2
  rw [rounds_succ]; go_wp2
  rw [rounds_succ]; go_wp2
  rw [rounds_succ]; go_wp2
  go_ret
  exact ⟨rfl, rfl⟩
theorem wordRow_byt (w : World) (n : Int) : Byt (w.alloc (wordRow n)) (w.heap.size + 1) (some ⟨w.heap.size, 0, none⟩) (word n) := fun _ => by
  refine ⟨_, _, rfl, by omega, fun i hi => ?_⟩
  have hh : (w.alloc (wordRow n)).heap[w.heap.size]? = some (wordRow n) := heap_alloc_new w _
  rw [Nat.zero_add, cell_of_row _ _ i _ _ _ hh]
  simp [word] at hi
  match i, hi with
  | 0, _ => rfl
  | 1, _ => rfl
  | 2, _ => rfl
  | 3, _ => rfl

theorem word_gives (n : Int) (w : World) (h0 : 0 ≤ n) (h1 : n ≤ 4294967295) : Calls Try.prog 29 #[.int .u32 n] w (Gives w (word n)) := by
  refine (word_any n w h0 h1).mono ?_
  rintro e w' ⟨rfl, rfl⟩
  exact ⟨_, _, _, rfl, rfl, Nat.le_refl _, by decide, own_new w w.heap.size (Nat.le_refl _) 5 (word n) (by simp [word, maxLen]), (Below.refl _ _).alloc (Nat.le_refl _) _⟩

end Go.Proofs.Ytomlckefkamdgaa
