import Derived.Test.YtnencoainacpoaaDoorGDlM
import Derived.Test.YtnencoainacpoaaDoorGSgO
/-
  The chapter's example, as numbers. No walk.
-/
namespace Go.Proofs.YtnencoainacpoaaDoor
open Go.RowKit WM
set_option linter.unusedVariables false
set_option maxRecDepth 100000
def s17 : ByteArray := ⟨#[120, 97, 98, 99, 100, 101, 102, 103, 104, 105, 106, 107, 108, 109, 110, 111, 112]⟩
def l17 : List Pc := [⟨false, 0, 0, ⟨#[120]⟩⟩, ⟨true, 0, 16, ⟨#[]⟩⟩]
theorem pf17_0 : pfind sg24 s17 0 = -1 := by
  have h1 : sgOne (nums ⟨#[97, 98, 99, 100, 101, 102, 103, 104]⟩) ≠ sgOne (nums ⟨#[120, 97, 98, 99, 100, 101, 102, 103]⟩) := ne_of_wk (show rlS _ ≠ rlS _ by decide)
  have h2 : sgOne (nums ⟨#[105, 106, 107, 108, 109, 110, 111, 112]⟩) ≠ sgOne (nums ⟨#[120, 97, 98, 99, 100, 101, 102, 103]⟩) := ne_of_wk (show rlS _ ≠ rlS _ by decide)
  have h3 : sgOne (nums ⟨#[113, 114, 115, 116, 117, 118, 119, 120]⟩) ≠ sgOne (nums ⟨#[120, 97, 98, 99, 100, 101, 102, 103]⟩) := ne_of_wk (show rlS _ ≠ rlS _ by decide)
  unfold pfind
  rw [if_pos (show 0 + 8 ≤ s17.size by decide), show s17.extract 0 (0 + 8) = ⟨#[120, 97, 98, 99, 100, 101, 102, 103]⟩ from by decide]
  unfold sgFind
  rw [if_pos (show (nums ⟨#[120, 97, 98, 99, 100, 101, 102, 103]⟩).length = 8 from rfl), sg24_eq]
  simp only [sgFrom, if_neg h1, if_neg h2, if_neg h3]
theorem pf17_1 : pfind sg24 s17 1 = 0 := by
  unfold pfind
  rw [if_pos (show 1 + 8 ≤ s17.size by decide), show s17.extract 1 (1 + 8) = ⟨#[97, 98, 99, 100, 101, 102, 103, 104]⟩ from by decide]
  unfold sgFind
  rw [if_pos (show (nums ⟨#[97, 98, 99, 100, 101, 102, 103, 104]⟩).length = 8 from rfl), sg24_eq]
  simp only [sgFrom, if_true]
  rfl
theorem pf17_9 : pfind sg24 s17 9 = 1 := by
  unfold pfind
  rw [if_pos (show 9 + 8 ≤ s17.size by decide), show s17.extract 9 (9 + 8) = ⟨#[105, 106, 107, 108, 109, 110, 111, 112]⟩ from by decide]
  exact sg24_find1
theorem pmake17 : pmake sg24 s17 = l17 := by
  unfold pmake
  rw [pmk_text (by decide) (by rw [pf17_0]; decide), pmk_copy (by decide) (by rw [pf17_1]; decide), pf17_1, pmk_copy (by decide) (by rw [pf17_9]; decide), pf17_9, pmk_end (by decide)]
  decide
theorem papply17 : papply s24 l17 = some s17 := by decide
theorem pmay17 : pmay l17 = true := by decide
theorem pputB17 : pputB l17 = [2, 0, 1, 120, 1, 0, 16] := by decide
theorem pget17 : pget [2, 0, 1, 120, 1, 0, 16] = some (l17, 7) := by
  have h := pget_put (l := l17) [] pmay17
  rw [List.append_nil, pputB17] at h
  exact h
end Go.Proofs.YtnencoainacpoaaDoor

