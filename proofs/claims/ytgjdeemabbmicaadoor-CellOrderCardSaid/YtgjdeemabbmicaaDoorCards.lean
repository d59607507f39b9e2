/-
  DERIVED. GIVEN WITH THE SEED: THE CARDS: each row of YtgjdeemabbmicaaDoorRows.lean that lists a variable, with what it lists TIED to the program's text (the seventh form; the later family's looks); each row that meets fmt, with fmt's text TOLD by the authors' own Lean function (tested against real Go, not proved from fmt's source: count such statements apart). THE CARD IS WHAT COUNTS. Prove the row's statement (the work); the ties are given (YtgjdeemabbmicaaDoorTie.lean); close each card by the builder's one call (the guide's Derived/Test/ToyasCard.lean, 'card_holds'). Laid BY PROGRAM, IN A SANDBOX (cutbox-door.mjs). By AI agents, Wed Nov 11 2026. No macro, syntax, notation, axiom, sorry.
-/
import Derived.Test.YtgjdeemabbmicaaDoorRows
import GoSem.ClaimSeven
namespace Go.Proofs.YtgjdeemabbmicaaDoor
namespace Rows

/-- THE TIED CARD OF 'rolodexlaw05.CellTells'. -/
def cellTellsCard : Claim7 := { stood := { row := cellTellsRow, standIns := [], harness := (true, "44e8e745bd6b23d0b046ffbf1f726490c9372aa323b53a245e3fcf6101eac00a"), looks := false }, kinds := [], alts := [], laidByText := true, laidKinds := [.data, .data], laidTests := true, laidLooks := .later }
def CellTellsCardSaid : Prop := Claim7.holds Tryd.pinned (.plain (OpenSpec.ofChange cellTellsSpec)) cellTellsCard

/-- THE TIED CARD OF 'rolodexlaw05.CellJoins'. -/
def cellJoinsCard : Claim7 := { stood := { row := cellJoinsRow, standIns := [], harness := (true, "44e8e745bd6b23d0b046ffbf1f726490c9372aa323b53a245e3fcf6101eac00a"), looks := false }, kinds := [], alts := [], laidByText := true, laidKinds := [.data, .data], laidTests := true, laidLooks := .later }
def CellJoinsCardSaid : Prop := Claim7.holds Tryd.pinned (.plain (OpenSpec.ofChange cellJoinsSpec)) cellJoinsCard

/-- THE TIED CARD OF 'rolodexlaw05.CellOrder'. -/
def cellOrderCard : Claim7 := { stood := { row := cellOrderRow, standIns := [], harness := (true, "44e8e745bd6b23d0b046ffbf1f726490c9372aa323b53a245e3fcf6101eac00a"), looks := false }, kinds := [], alts := [], laidByText := true, laidKinds := [.data, .data], laidTests := true, laidLooks := .later }
def CellOrderCardSaid : Prop := Claim7.holds Tryd.pinned (.plain (OpenSpec.ofChange cellOrderSpec)) cellOrderCard

/-- THE TIED CARD OF 'rolodexlaw05.CellBack'. -/
def cellBackCard : Claim7 := { stood := { row := cellBackRow, standIns := [], harness := (true, "44e8e745bd6b23d0b046ffbf1f726490c9372aa323b53a245e3fcf6101eac00a"), looks := false }, kinds := [], alts := [], laidByText := true, laidKinds := [.data, .data], laidTests := true, laidLooks := .later }
def CellBackCardSaid : Prop := Claim7.holds Tryd.pinned (.plain (OpenSpec.ofChange cellBackSpec)) cellBackCard

/-- THE TIED CARD OF 'rolodexlaw05.CellCut'. -/
def cellCutCard : Claim7 := { stood := { row := cellCutRow, standIns := [], harness := (true, "44e8e745bd6b23d0b046ffbf1f726490c9372aa323b53a245e3fcf6101eac00a"), looks := false }, kinds := [], alts := [], laidByText := true, laidKinds := [.data, .data], laidTests := true, laidLooks := .later }
def CellCutCardSaid : Prop := Claim7.holds Tryd.pinned (.plain (OpenSpec.ofChange cellCutSpec)) cellCutCard

/-- THE TIED CARD OF 'rolodexlaw05.CellLists'. -/
def cellListsCard : Claim7 := { stood := { row := cellListsRow, standIns := [], harness := (true, "44e8e745bd6b23d0b046ffbf1f726490c9372aa323b53a245e3fcf6101eac00a"), looks := false }, kinds := [], alts := [], laidByText := true, laidKinds := [.data, .data], laidTests := true, laidLooks := .later }
def CellListsCardSaid : Prop := Claim7.holds Tryd.pinned (.plain (OpenSpec.ofChange cellListsSpec)) cellListsCard

/-- THE TIED CARD OF 'rolodexlaw05.CellLater'. -/
def cellLaterCard : Claim7 := { stood := { row := cellLaterRow, standIns := [], harness := (true, "44e8e745bd6b23d0b046ffbf1f726490c9372aa323b53a245e3fcf6101eac00a"), looks := false }, kinds := [], alts := [], laidByText := true, laidKinds := [.data, .data], laidTests := true, laidLooks := .later }
def CellLaterCardSaid : Prop := Claim7.holds Tryd.pinned (.plain (OpenSpec.ofChange cellLaterSpec)) cellLaterCard

/-- THE SECOND FORM's CARD OF 'rolodexlaw05.CellTells'. -/
def cellTellsUptoCard : Claim7 := { stood := { row := cellTellsUptoRow, standIns := [], harness := (true, "44e8e745bd6b23d0b046ffbf1f726490c9372aa323b53a245e3fcf6101eac00a"), looks := false }, kinds := [], alts := [], laidByText := true, laidKinds := [.data, .data], laidTests := true, laidLooks := .later }
def CellTellsUptoCardSaid : Prop := Claim7.holds Tryd.pinned (.plain (OpenSpec.upto cellTellsSpec)) cellTellsUptoCard

/-- THE SECOND FORM's CARD OF 'rolodexlaw05.CellJoins'. -/
def cellJoinsUptoCard : Claim7 := { stood := { row := cellJoinsUptoRow, standIns := [], harness := (true, "44e8e745bd6b23d0b046ffbf1f726490c9372aa323b53a245e3fcf6101eac00a"), looks := false }, kinds := [], alts := [], laidByText := true, laidKinds := [.data, .data], laidTests := true, laidLooks := .later }
def CellJoinsUptoCardSaid : Prop := Claim7.holds Tryd.pinned (.plain (OpenSpec.upto cellJoinsSpec)) cellJoinsUptoCard

/-- THE SECOND FORM's CARD OF 'rolodexlaw05.CellOrder'. -/
def cellOrderUptoCard : Claim7 := { stood := { row := cellOrderUptoRow, standIns := [], harness := (true, "44e8e745bd6b23d0b046ffbf1f726490c9372aa323b53a245e3fcf6101eac00a"), looks := false }, kinds := [], alts := [], laidByText := true, laidKinds := [.data, .data], laidTests := true, laidLooks := .later }
def CellOrderUptoCardSaid : Prop := Claim7.holds Tryd.pinned (.plain (OpenSpec.upto cellOrderSpec)) cellOrderUptoCard

/-- THE SECOND FORM's CARD OF 'rolodexlaw05.CellBack'. -/
def cellBackUptoCard : Claim7 := { stood := { row := cellBackUptoRow, standIns := [], harness := (true, "44e8e745bd6b23d0b046ffbf1f726490c9372aa323b53a245e3fcf6101eac00a"), looks := false }, kinds := [], alts := [], laidByText := true, laidKinds := [.data, .data], laidTests := true, laidLooks := .later }
def CellBackUptoCardSaid : Prop := Claim7.holds Tryd.pinned (.plain (OpenSpec.upto cellBackSpec)) cellBackUptoCard

/-- THE SECOND FORM's CARD OF 'rolodexlaw05.CellCut'. -/
def cellCutUptoCard : Claim7 := { stood := { row := cellCutUptoRow, standIns := [], harness := (true, "44e8e745bd6b23d0b046ffbf1f726490c9372aa323b53a245e3fcf6101eac00a"), looks := false }, kinds := [], alts := [], laidByText := true, laidKinds := [.data, .data], laidTests := true, laidLooks := .later }
def CellCutUptoCardSaid : Prop := Claim7.holds Tryd.pinned (.plain (OpenSpec.upto cellCutSpec)) cellCutUptoCard

/-- THE SECOND FORM's CARD OF 'rolodexlaw05.CellLists'. -/
def cellListsUptoCard : Claim7 := { stood := { row := cellListsUptoRow, standIns := [], harness := (true, "44e8e745bd6b23d0b046ffbf1f726490c9372aa323b53a245e3fcf6101eac00a"), looks := false }, kinds := [], alts := [], laidByText := true, laidKinds := [.data, .data], laidTests := true, laidLooks := .later }
def CellListsUptoCardSaid : Prop := Claim7.holds Tryd.pinned (.plain (OpenSpec.upto cellListsSpec)) cellListsUptoCard

/-- THE SECOND FORM's CARD OF 'rolodexlaw05.CellLater'. -/
def cellLaterUptoCard : Claim7 := { stood := { row := cellLaterUptoRow, standIns := [], harness := (true, "44e8e745bd6b23d0b046ffbf1f726490c9372aa323b53a245e3fcf6101eac00a"), looks := false }, kinds := [], alts := [], laidByText := true, laidKinds := [.data, .data], laidTests := true, laidLooks := .later }
def CellLaterUptoCardSaid : Prop := Claim7.holds Tryd.pinned (.plain (OpenSpec.upto cellLaterSpec)) cellLaterUptoCard
end Rows
end Go.Proofs.YtgjdeemabbmicaaDoor
