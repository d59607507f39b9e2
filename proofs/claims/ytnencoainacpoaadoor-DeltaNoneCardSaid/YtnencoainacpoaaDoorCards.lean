/-
  DERIVED. GIVEN WITH THE SEED: THE CARDS: each row of YtnencoainacpoaaDoorRows.lean that lists a variable, with what it lists TIED to the program's text (the seventh form; the later family's looks); each row that meets fmt, with fmt's text TOLD by the authors' own Lean function (tested against real Go, not proved from fmt's source: count such statements apart). THE CARD IS WHAT COUNTS. Prove the row's statement (the work); the ties are given (YtnencoainacpoaaDoorTie.lean); close each card by the builder's one call (the guide's Derived/Test/ToyasCard.lean, 'card_holds'). Laid BY PROGRAM, IN A SANDBOX (cutbox-door.mjs). By AI agents, Wed Nov 11 2026. No macro, syntax, notation, axiom, sorry.
-/
import Derived.Test.YtnencoainacpoaaDoorRows
import GoSem.ClaimSeven
namespace Go.Proofs.YtnencoainacpoaaDoor
namespace Rows

/-- THE TIED CARD OF 'rolodexlaw11.DeltaTells'. -/
def deltaTellsCard : Claim7 := { stood := { row := deltaTellsRow, standIns := [], harness := (true, "5c952cc5d292696c00f55cb81f39002125ceca083192f08f78fd8298529e7092"), looks := false }, kinds := [], alts := [], laidByText := true, laidKinds := [.data, .data], laidTests := true, laidLooks := .later }
def DeltaTellsCardSaid : Prop := Claim7.holds Tryd.pinned (.plain (OpenSpec.ofChange deltaTellsSpec)) deltaTellsCard

/-- THE TIED CARD OF 'rolodexlaw11.DeltaBytes'. -/
def deltaBytesCard : Claim7 := { stood := { row := deltaBytesRow, standIns := [], harness := (true, "5c952cc5d292696c00f55cb81f39002125ceca083192f08f78fd8298529e7092"), looks := false }, kinds := [], alts := [], laidByText := true, laidKinds := [.data, .data], laidTests := true, laidLooks := .later }
def DeltaBytesCardSaid : Prop := Claim7.holds Tryd.pinned (.plain (OpenSpec.ofChange deltaBytesSpec)) deltaBytesCard

/-- THE TIED CARD OF 'rolodexlaw11.DeltaMakes'. -/
def deltaMakesCard : Claim7 := { stood := { row := deltaMakesRow, standIns := [], harness := (true, "5c952cc5d292696c00f55cb81f39002125ceca083192f08f78fd8298529e7092"), looks := false }, kinds := [], alts := [], laidByText := true, laidKinds := [.data, .data], laidTests := true, laidLooks := .later }
def DeltaMakesCardSaid : Prop := Claim7.holds Tryd.pinned (.plain (OpenSpec.ofChange deltaMakesSpec)) deltaMakesCard

/-- THE TIED CARD OF 'rolodexlaw11.DeltaBack'. -/
def deltaBackCard : Claim7 := { stood := { row := deltaBackRow, standIns := [], harness := (true, "5c952cc5d292696c00f55cb81f39002125ceca083192f08f78fd8298529e7092"), looks := false }, kinds := [], alts := [], laidByText := true, laidKinds := [.data, .data], laidTests := true, laidLooks := .later }
def DeltaBackCardSaid : Prop := Claim7.holds Tryd.pinned (.plain (OpenSpec.ofChange deltaBackSpec)) deltaBackCard

/-- THE TIED CARD OF 'rolodexlaw11.DeltaParts'. -/
def deltaPartsCard : Claim7 := { stood := { row := deltaPartsRow, standIns := [], harness := (true, "5c952cc5d292696c00f55cb81f39002125ceca083192f08f78fd8298529e7092"), looks := false }, kinds := [], alts := [], laidByText := true, laidKinds := [.data, .data], laidTests := true, laidLooks := .later }
def DeltaPartsCardSaid : Prop := Claim7.holds Tryd.pinned (.plain (OpenSpec.ofChange deltaPartsSpec)) deltaPartsCard

/-- THE TIED CARD OF 'rolodexlaw11.DeltaOwn'. -/
def deltaOwnCard : Claim7 := { stood := { row := deltaOwnRow, standIns := [], harness := (true, "5c952cc5d292696c00f55cb81f39002125ceca083192f08f78fd8298529e7092"), looks := false }, kinds := [], alts := [], laidByText := true, laidKinds := [.data, .data], laidTests := true, laidLooks := .later }
def DeltaOwnCardSaid : Prop := Claim7.holds Tryd.pinned (.plain (OpenSpec.ofChange deltaOwnSpec)) deltaOwnCard

/-- THE TIED CARD OF 'rolodexlaw11.DeltaLeast'. -/
def deltaLeastCard : Claim7 := { stood := { row := deltaLeastRow, standIns := [], harness := (true, "5c952cc5d292696c00f55cb81f39002125ceca083192f08f78fd8298529e7092"), looks := false }, kinds := [], alts := [], laidByText := true, laidKinds := [.data, .data], laidTests := true, laidLooks := .later }
def DeltaLeastCardSaid : Prop := Claim7.holds Tryd.pinned (.plain (OpenSpec.ofChange deltaLeastSpec)) deltaLeastCard

/-- THE TIED CARD OF 'rolodexlaw11.DeltaNone'. -/
def deltaNoneCard : Claim7 := { stood := { row := deltaNoneRow, standIns := [], harness := (true, "5c952cc5d292696c00f55cb81f39002125ceca083192f08f78fd8298529e7092"), looks := false }, kinds := [], alts := [], laidByText := true, laidKinds := [.data, .data], laidTests := true, laidLooks := .later }
def DeltaNoneCardSaid : Prop := Claim7.holds Tryd.pinned (.plain (OpenSpec.ofChange deltaNoneSpec)) deltaNoneCard

/-- THE SECOND FORM's CARD OF 'rolodexlaw11.DeltaTells'. -/
def deltaTellsUptoCard : Claim7 := { stood := { row := deltaTellsUptoRow, standIns := [], harness := (true, "5c952cc5d292696c00f55cb81f39002125ceca083192f08f78fd8298529e7092"), looks := false }, kinds := [], alts := [], laidByText := true, laidKinds := [.data, .data], laidTests := true, laidLooks := .later }
def DeltaTellsUptoCardSaid : Prop := Claim7.holds Tryd.pinned (.plain (OpenSpec.upto deltaTellsSpec)) deltaTellsUptoCard

/-- THE SECOND FORM's CARD OF 'rolodexlaw11.DeltaBytes'. -/
def deltaBytesUptoCard : Claim7 := { stood := { row := deltaBytesUptoRow, standIns := [], harness := (true, "5c952cc5d292696c00f55cb81f39002125ceca083192f08f78fd8298529e7092"), looks := false }, kinds := [], alts := [], laidByText := true, laidKinds := [.data, .data], laidTests := true, laidLooks := .later }
def DeltaBytesUptoCardSaid : Prop := Claim7.holds Tryd.pinned (.plain (OpenSpec.upto deltaBytesSpec)) deltaBytesUptoCard

/-- THE SECOND FORM's CARD OF 'rolodexlaw11.DeltaMakes'. -/
def deltaMakesUptoCard : Claim7 := { stood := { row := deltaMakesUptoRow, standIns := [], harness := (true, "5c952cc5d292696c00f55cb81f39002125ceca083192f08f78fd8298529e7092"), looks := false }, kinds := [], alts := [], laidByText := true, laidKinds := [.data, .data], laidTests := true, laidLooks := .later }
def DeltaMakesUptoCardSaid : Prop := Claim7.holds Tryd.pinned (.plain (OpenSpec.upto deltaMakesSpec)) deltaMakesUptoCard

/-- THE SECOND FORM's CARD OF 'rolodexlaw11.DeltaBack'. -/
def deltaBackUptoCard : Claim7 := { stood := { row := deltaBackUptoRow, standIns := [], harness := (true, "5c952cc5d292696c00f55cb81f39002125ceca083192f08f78fd8298529e7092"), looks := false }, kinds := [], alts := [], laidByText := true, laidKinds := [.data, .data], laidTests := true, laidLooks := .later }
def DeltaBackUptoCardSaid : Prop := Claim7.holds Tryd.pinned (.plain (OpenSpec.upto deltaBackSpec)) deltaBackUptoCard

/-- THE SECOND FORM's CARD OF 'rolodexlaw11.DeltaParts'. -/
def deltaPartsUptoCard : Claim7 := { stood := { row := deltaPartsUptoRow, standIns := [], harness := (true, "5c952cc5d292696c00f55cb81f39002125ceca083192f08f78fd8298529e7092"), looks := false }, kinds := [], alts := [], laidByText := true, laidKinds := [.data, .data], laidTests := true, laidLooks := .later }
def DeltaPartsUptoCardSaid : Prop := Claim7.holds Tryd.pinned (.plain (OpenSpec.upto deltaPartsSpec)) deltaPartsUptoCard

/-- THE SECOND FORM's CARD OF 'rolodexlaw11.DeltaOwn'. -/
def deltaOwnUptoCard : Claim7 := { stood := { row := deltaOwnUptoRow, standIns := [], harness := (true, "5c952cc5d292696c00f55cb81f39002125ceca083192f08f78fd8298529e7092"), looks := false }, kinds := [], alts := [], laidByText := true, laidKinds := [.data, .data], laidTests := true, laidLooks := .later }
def DeltaOwnUptoCardSaid : Prop := Claim7.holds Tryd.pinned (.plain (OpenSpec.upto deltaOwnSpec)) deltaOwnUptoCard

/-- THE SECOND FORM's CARD OF 'rolodexlaw11.DeltaLeast'. -/
def deltaLeastUptoCard : Claim7 := { stood := { row := deltaLeastUptoRow, standIns := [], harness := (true, "5c952cc5d292696c00f55cb81f39002125ceca083192f08f78fd8298529e7092"), looks := false }, kinds := [], alts := [], laidByText := true, laidKinds := [.data, .data], laidTests := true, laidLooks := .later }
def DeltaLeastUptoCardSaid : Prop := Claim7.holds Tryd.pinned (.plain (OpenSpec.upto deltaLeastSpec)) deltaLeastUptoCard

/-- THE SECOND FORM's CARD OF 'rolodexlaw11.DeltaNone'. -/
def deltaNoneUptoCard : Claim7 := { stood := { row := deltaNoneUptoRow, standIns := [], harness := (true, "5c952cc5d292696c00f55cb81f39002125ceca083192f08f78fd8298529e7092"), looks := false }, kinds := [], alts := [], laidByText := true, laidKinds := [.data, .data], laidTests := true, laidLooks := .later }
def DeltaNoneUptoCardSaid : Prop := Claim7.holds Tryd.pinned (.plain (OpenSpec.upto deltaNoneSpec)) deltaNoneUptoCard
end Rows
end Go.Proofs.YtnencoainacpoaaDoor
