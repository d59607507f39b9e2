/-
  DERIVED. GIVEN WITH THE SEED: THE CARDS: each row of YtonbhcbkelmhgaaDoorRows.lean that lists a variable, with what it lists TIED to the program's text (the seventh form; the later family's looks); each row that meets fmt, with fmt's text TOLD by the authors' own Lean function (tested against real Go, not proved from fmt's source: count such statements apart). THE CARD IS WHAT COUNTS. Prove the row's statement (the work); the ties are given (YtonbhcbkelmhgaaDoorTie.lean); close each card by the builder's one call (the guide's Derived/Test/ToyasCard.lean, 'card_holds'). Laid BY PROGRAM, IN A SANDBOX (cutbox-door.mjs). By AI agents, Wed Nov 11 2026. No macro, syntax, notation, axiom, sorry.
-/
import Derived.Test.YtonbhcbkelmhgaaDoorRows
import GoSem.ClaimSeven
namespace Go.Proofs.YtonbhcbkelmhgaaDoor
namespace Rows

/-- THE TIED CARD OF 'rolodexlaw05.CellTells'. -/
def cellTellsCard : Claim7 := { stood := { row := cellTellsRow, standIns := [], harness := (true, "07b441189e6e2bc4e9bc62deb43ab62b33a7943e5e5aaae0b425bcfab2124aab"), looks := false }, kinds := [], alts := [], laidByText := true, laidKinds := [.data, .data], laidTests := true, laidLooks := .later }
def CellTellsCardSaid : Prop := Claim7.holds Tryd.pinned (.plain (OpenSpec.ofChange cellTellsSpec)) cellTellsCard

/-- THE TIED CARD OF 'rolodexlaw05.CellBack'. -/
def cellBackCard : Claim7 := { stood := { row := cellBackRow, standIns := [], harness := (true, "07b441189e6e2bc4e9bc62deb43ab62b33a7943e5e5aaae0b425bcfab2124aab"), looks := false }, kinds := [], alts := [], laidByText := true, laidKinds := [.data, .data], laidTests := true, laidLooks := .later }
def CellBackCardSaid : Prop := Claim7.holds Tryd.pinned (.plain (OpenSpec.ofChange cellBackSpec)) cellBackCard

/-- THE TIED CARD OF 'rolodexlaw05.CellLists'. -/
def cellListsCard : Claim7 := { stood := { row := cellListsRow, standIns := [], harness := (true, "07b441189e6e2bc4e9bc62deb43ab62b33a7943e5e5aaae0b425bcfab2124aab"), looks := false }, kinds := [], alts := [], laidByText := true, laidKinds := [.data, .data], laidTests := true, laidLooks := .later }
def CellListsCardSaid : Prop := Claim7.holds Tryd.pinned (.plain (OpenSpec.ofChange cellListsSpec)) cellListsCard

/-- THE TIED CARD OF 'rolodexlaw06.RecTells'. -/
def recTellsCard : Claim7 := { stood := { row := recTellsRow, standIns := [], harness := (true, "07b441189e6e2bc4e9bc62deb43ab62b33a7943e5e5aaae0b425bcfab2124aab"), looks := false }, kinds := [], alts := [], laidByText := true, laidKinds := [.data, .data], laidTests := true, laidLooks := .later }
def RecTellsCardSaid : Prop := Claim7.holds Tryd.pinned (.plain (OpenSpec.ofChange recTellsSpec)) recTellsCard

/-- THE TIED CARD OF 'rolodexlaw06.RecJoins'. -/
def recJoinsCard : Claim7 := { stood := { row := recJoinsRow, standIns := [], harness := (true, "07b441189e6e2bc4e9bc62deb43ab62b33a7943e5e5aaae0b425bcfab2124aab"), looks := false }, kinds := [], alts := [], laidByText := true, laidKinds := [.data, .data], laidTests := true, laidLooks := .later }
def RecJoinsCardSaid : Prop := Claim7.holds Tryd.pinned (.plain (OpenSpec.ofChange recJoinsSpec)) recJoinsCard

/-- THE TIED CARD OF 'rolodexlaw06.RecOrder'. -/
def recOrderCard : Claim7 := { stood := { row := recOrderRow, standIns := [], harness := (true, "07b441189e6e2bc4e9bc62deb43ab62b33a7943e5e5aaae0b425bcfab2124aab"), looks := false }, kinds := [], alts := [], laidByText := true, laidKinds := [.data, .data], laidTests := true, laidLooks := .later }
def RecOrderCardSaid : Prop := Claim7.holds Tryd.pinned (.plain (OpenSpec.ofChange recOrderSpec)) recOrderCard

/-- THE TIED CARD OF 'rolodexlaw06.RecCells'. -/
def recCellsCard : Claim7 := { stood := { row := recCellsRow, standIns := [], harness := (true, "07b441189e6e2bc4e9bc62deb43ab62b33a7943e5e5aaae0b425bcfab2124aab"), looks := false }, kinds := [], alts := [], laidByText := true, laidKinds := [.data, .data], laidTests := true, laidLooks := .later }
def RecCellsCardSaid : Prop := Claim7.holds Tryd.pinned (.plain (OpenSpec.ofChange recCellsSpec)) recCellsCard

/-- THE TIED CARD OF 'rolodexlaw06.RecDead'. -/
def recDeadCard : Claim7 := { stood := { row := recDeadRow, standIns := [], harness := (true, "07b441189e6e2bc4e9bc62deb43ab62b33a7943e5e5aaae0b425bcfab2124aab"), looks := false }, kinds := [], alts := [], laidByText := true, laidKinds := [.data, .data], laidTests := true, laidLooks := .later }
def RecDeadCardSaid : Prop := Claim7.holds Tryd.pinned (.plain (OpenSpec.ofChange recDeadSpec)) recDeadCard

/-- THE TIED CARD OF 'rolodexlaw06.RecOnly'. -/
def recOnlyCard : Claim7 := { stood := { row := recOnlyRow, standIns := [], harness := (true, "07b441189e6e2bc4e9bc62deb43ab62b33a7943e5e5aaae0b425bcfab2124aab"), looks := false }, kinds := [], alts := [], laidByText := true, laidKinds := [.data, .data], laidTests := true, laidLooks := .later }
def RecOnlyCardSaid : Prop := Claim7.holds Tryd.pinned (.plain (OpenSpec.ofChange recOnlySpec)) recOnlyCard

/-- THE TIED CARD OF 'rolodexlaw06.RecWrong'. -/
def recWrongCard : Claim7 := { stood := { row := recWrongRow, standIns := [], harness := (true, "07b441189e6e2bc4e9bc62deb43ab62b33a7943e5e5aaae0b425bcfab2124aab"), looks := false }, kinds := [], alts := [], laidByText := true, laidKinds := [.data, .data], laidTests := true, laidLooks := .later }
def RecWrongCardSaid : Prop := Claim7.holds Tryd.pinned (.plain (OpenSpec.ofChange recWrongSpec)) recWrongCard

/-- THE SECOND FORM's CARD OF 'rolodexlaw05.CellTells'. -/
def cellTellsUptoCard : Claim7 := { stood := { row := cellTellsUptoRow, standIns := [], harness := (true, "07b441189e6e2bc4e9bc62deb43ab62b33a7943e5e5aaae0b425bcfab2124aab"), looks := false }, kinds := [], alts := [], laidByText := true, laidKinds := [.data, .data], laidTests := true, laidLooks := .later }
def CellTellsUptoCardSaid : Prop := Claim7.holds Tryd.pinned (.plain (OpenSpec.upto cellTellsSpec)) cellTellsUptoCard

/-- THE SECOND FORM's CARD OF 'rolodexlaw05.CellBack'. -/
def cellBackUptoCard : Claim7 := { stood := { row := cellBackUptoRow, standIns := [], harness := (true, "07b441189e6e2bc4e9bc62deb43ab62b33a7943e5e5aaae0b425bcfab2124aab"), looks := false }, kinds := [], alts := [], laidByText := true, laidKinds := [.data, .data], laidTests := true, laidLooks := .later }
def CellBackUptoCardSaid : Prop := Claim7.holds Tryd.pinned (.plain (OpenSpec.upto cellBackSpec)) cellBackUptoCard

/-- THE SECOND FORM's CARD OF 'rolodexlaw05.CellLists'. -/
def cellListsUptoCard : Claim7 := { stood := { row := cellListsUptoRow, standIns := [], harness := (true, "07b441189e6e2bc4e9bc62deb43ab62b33a7943e5e5aaae0b425bcfab2124aab"), looks := false }, kinds := [], alts := [], laidByText := true, laidKinds := [.data, .data], laidTests := true, laidLooks := .later }
def CellListsUptoCardSaid : Prop := Claim7.holds Tryd.pinned (.plain (OpenSpec.upto cellListsSpec)) cellListsUptoCard

/-- THE SECOND FORM's CARD OF 'rolodexlaw06.RecTells'. -/
def recTellsUptoCard : Claim7 := { stood := { row := recTellsUptoRow, standIns := [], harness := (true, "07b441189e6e2bc4e9bc62deb43ab62b33a7943e5e5aaae0b425bcfab2124aab"), looks := false }, kinds := [], alts := [], laidByText := true, laidKinds := [.data, .data], laidTests := true, laidLooks := .later }
def RecTellsUptoCardSaid : Prop := Claim7.holds Tryd.pinned (.plain (OpenSpec.upto recTellsSpec)) recTellsUptoCard

/-- THE SECOND FORM's CARD OF 'rolodexlaw06.RecJoins'. -/
def recJoinsUptoCard : Claim7 := { stood := { row := recJoinsUptoRow, standIns := [], harness := (true, "07b441189e6e2bc4e9bc62deb43ab62b33a7943e5e5aaae0b425bcfab2124aab"), looks := false }, kinds := [], alts := [], laidByText := true, laidKinds := [.data, .data], laidTests := true, laidLooks := .later }
def RecJoinsUptoCardSaid : Prop := Claim7.holds Tryd.pinned (.plain (OpenSpec.upto recJoinsSpec)) recJoinsUptoCard

/-- THE SECOND FORM's CARD OF 'rolodexlaw06.RecOrder'. -/
def recOrderUptoCard : Claim7 := { stood := { row := recOrderUptoRow, standIns := [], harness := (true, "07b441189e6e2bc4e9bc62deb43ab62b33a7943e5e5aaae0b425bcfab2124aab"), looks := false }, kinds := [], alts := [], laidByText := true, laidKinds := [.data, .data], laidTests := true, laidLooks := .later }
def RecOrderUptoCardSaid : Prop := Claim7.holds Tryd.pinned (.plain (OpenSpec.upto recOrderSpec)) recOrderUptoCard

/-- THE SECOND FORM's CARD OF 'rolodexlaw06.RecCells'. -/
def recCellsUptoCard : Claim7 := { stood := { row := recCellsUptoRow, standIns := [], harness := (true, "07b441189e6e2bc4e9bc62deb43ab62b33a7943e5e5aaae0b425bcfab2124aab"), looks := false }, kinds := [], alts := [], laidByText := true, laidKinds := [.data, .data], laidTests := true, laidLooks := .later }
def RecCellsUptoCardSaid : Prop := Claim7.holds Tryd.pinned (.plain (OpenSpec.upto recCellsSpec)) recCellsUptoCard

/-- THE SECOND FORM's CARD OF 'rolodexlaw06.RecDead'. -/
def recDeadUptoCard : Claim7 := { stood := { row := recDeadUptoRow, standIns := [], harness := (true, "07b441189e6e2bc4e9bc62deb43ab62b33a7943e5e5aaae0b425bcfab2124aab"), looks := false }, kinds := [], alts := [], laidByText := true, laidKinds := [.data, .data], laidTests := true, laidLooks := .later }
def RecDeadUptoCardSaid : Prop := Claim7.holds Tryd.pinned (.plain (OpenSpec.upto recDeadSpec)) recDeadUptoCard

/-- THE SECOND FORM's CARD OF 'rolodexlaw06.RecOnly'. -/
def recOnlyUptoCard : Claim7 := { stood := { row := recOnlyUptoRow, standIns := [], harness := (true, "07b441189e6e2bc4e9bc62deb43ab62b33a7943e5e5aaae0b425bcfab2124aab"), looks := false }, kinds := [], alts := [], laidByText := true, laidKinds := [.data, .data], laidTests := true, laidLooks := .later }
def RecOnlyUptoCardSaid : Prop := Claim7.holds Tryd.pinned (.plain (OpenSpec.upto recOnlySpec)) recOnlyUptoCard

/-- THE SECOND FORM's CARD OF 'rolodexlaw06.RecWrong'. -/
def recWrongUptoCard : Claim7 := { stood := { row := recWrongUptoRow, standIns := [], harness := (true, "07b441189e6e2bc4e9bc62deb43ab62b33a7943e5e5aaae0b425bcfab2124aab"), looks := false }, kinds := [], alts := [], laidByText := true, laidKinds := [.data, .data], laidTests := true, laidLooks := .later }
def RecWrongUptoCardSaid : Prop := Claim7.holds Tryd.pinned (.plain (OpenSpec.upto recWrongSpec)) recWrongUptoCard
end Rows
end Go.Proofs.YtonbhcbkelmhgaaDoor
