import Derived.Test.YtnlhkpmgbpfjmaaGreatDoorQc0
import Derived.Test.YtnlhkpmgbpfjmaaGreatDoorQc2
import Derived.Test.YtnlhkpmgbpfjmaaGreatDoorRows
import Derived.ProofKit
import Derived.LaidMore
import Derived.Lib.LaidTab
import Derived.Stop.Joined
import Derived.Stop.LaidErr
/-
  What the functions that a law of this layer reaches answer, part 39. Nothing that was there is written.
-/
namespace Go.Proofs.YtnlhkpmgbpfjmaaGreatDoor
set_option linter.unusedVariables false
set_option linter.unusedSimpArgs false
section
open Go.ChangeShapes Go.WideShapes Go.ChangeAt Go.RowKit
def laid2 : List (String × DataW Unit) := [("rolodex/sha.squareRoots", Rows.laid_rolodex_sha_squareRoots), ("rolodex/sha.cubeRoots", Rows.laid_rolodex_sha_cubeRoots)]
theorem gSquare : Tryz.prog.globalNamed "rolodex/sha.squareRoots" = some 0 := by kernel_rfl
theorem gCube : Tryz.prog.globalNamed "rolodex/sha.cubeRoots" = some 1 := by kernel_rfl
theorem tSquare : (Tryz.prog.globals[0]?).map (·.type) = some 130 := by kernel_rfl
theorem tCube : (Tryz.prog.globals[1]?).map (·.type) = some 162 := by kernel_rfl
theorem dSquare : (Rows.laid_rolodex_sha_squareRoots : DataW Unit) = Lib.tabData .u32 (SH.H0.list.map fun n : Nat => (n : Int)) := by kernel_rfl
theorem dCube : (Rows.laid_rolodex_sha_cubeRoots : DataW Unit) = Lib.tabData .u32 (SH.K.map fun n : Nat => (n : Int)) := by kernel_rfl
theorem cW : Tryz.prog.cellsOf 120 = 1 := by kernel_rfl
theorem c8 : Tryz.prog.cellsOf 130 = 8 := by kernel_rfl
theorem c64 : Tryz.prog.cellsOf 162 = 64 := by kernel_rfl
theorem map_getD (l : List Nat) (i : Nat) : (l.map fun n : Nat => (n : Int)).getD i 0 = ((l.getD i 0 : Nat) : Int) := by
 rcases Nat.lt_or_ge i l.length with h | h
 ·simp [List.getD, List.getElem?_eq_getElem h]
 ·simp [List.getD, List.getElem?_eq_none h]
theorem block_lt {W : World} {g i : Nat} {v : Value} (h : W.cell? ⟨g, i, none⟩ = some v) : g < W.heap.size := by
 rcases Nat.lt_or_ge g W.heap.size with h2 | h2
 ·exact h2
 ·rw [World.cell?] at h
  rw [Array.getElem?_eq_none h2] at h
  cases h
theorem of_laid {W : World} (h : laidMetH Tryz.prog laid2 W) : Laid W := by
 rw [MakeChecks.laidMetH_plain _ _ _ (by kernel_rfl)] at h
 unfold laid2 at h
 rw [dSquare, dCube] at h
 have t1 := Lib.tabIs_of_head gSquare tSquare Tryz.underlying130 Tryz.underlying120 cW c8 h
 have t2 := Lib.tabIs_of_head gCube tCube Tryz.underlying162 Tryz.underlying120 cW c64 h.tail
 have a1 : ∀ i, i < 8 → W.cell? ⟨0, i, none⟩ = some (.int .u32 (SH.H0.list.getD i 0 : Nat)) := fun i hi => by rw [t1.cell gSquare i (by rw [List.length_map]; exact hi), map_getD]
 have a2 : ∀ i, i < 64 → W.cell? ⟨1, i, none⟩ = some (.int .u32 (SH.K.getD i 0 : Nat)) := fun i hi => by rw [t2.cell gCube i (by rw [List.length_map, SH.K_len]; exact hi), map_getD]
 exact ⟨a1, a2, block_lt (a1 0 (by omega)), block_lt (a2 0 (by omega))⟩
theorem door_met (os : Os) (args : Array Value) : laidMetH Tryz.prog laid2 ((World.doorLaid Tryz.prog 400 os).forCall (fun _ _ => 0) ⟨#[], args, []⟩).memory :=
 laidMetH_of_parts3 (fuel := 8) (laidMet_of_run' 8 (by kernel_rfl) (by kernel_rfl)) (by kernel_rfl) (by kernel_rfl)
end
end Go.Proofs.YtnlhkpmgbpfjmaaGreatDoor
