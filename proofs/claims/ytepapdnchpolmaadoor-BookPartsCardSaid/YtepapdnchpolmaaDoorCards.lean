/-
  DERIVED. GIVEN WITH THE SEED: THE CARDS: each row of YtepapdnchpolmaaDoorRows.lean that lists a variable, with what it lists TIED to the program's text (the seventh form; the later family's looks); each row that meets fmt, with fmt's text TOLD by the authors' own Lean function (tested against real Go, not proved from fmt's source: count such statements apart). THE CARD IS WHAT COUNTS. Prove the row's statement (the work); the ties are given (YtepapdnchpolmaaDoorTie.lean); close each card by the builder's one call (the guide's Derived/Test/ToyasCard.lean, 'card_holds'). Laid BY PROGRAM, IN A SANDBOX (cutbox-door.mjs). By AI agents, Wed Nov 11 2026. No macro, syntax, notation, axiom, sorry.
-/
import Derived.Test.YtepapdnchpolmaaDoorRows
import GoSem.ClaimSeven
namespace Go.Proofs.YtepapdnchpolmaaDoor
namespace Rows

/-- THE TIED CARD OF 'rolodexlaw06.RecTells'. -/
def recTellsCard : Claim7 := { stood := { row := recTellsRow, standIns := [], harness := (true, "00872875ea157193cb9a59a2784988d37e88d0fae3beb771e8ff0fe7f2c84504"), looks := false }, kinds := [], alts := [], laidByText := true, laidKinds := [.data, .data], laidTests := true, laidLooks := .later }
def RecTellsCardSaid : Prop := Claim7.holds Tryd.pinned (.plain (OpenSpec.ofChange recTellsSpec)) recTellsCard

/-- THE TIED CARD OF 'rolodexlaw07.BookJoins'. -/
def bookJoinsCard : Claim7 := { stood := { row := bookJoinsRow, standIns := [], harness := (true, "00872875ea157193cb9a59a2784988d37e88d0fae3beb771e8ff0fe7f2c84504"), looks := false }, kinds := [], alts := [], laidByText := true, laidKinds := [.data, .data], laidTests := true, laidLooks := .later }
def BookJoinsCardSaid : Prop := Claim7.holds Tryd.pinned (.plain (OpenSpec.ofChange bookJoinsSpec)) bookJoinsCard

/-- THE TIED CARD OF 'rolodexlaw07.BookOrder'. -/
def bookOrderCard : Claim7 := { stood := { row := bookOrderRow, standIns := [], harness := (true, "00872875ea157193cb9a59a2784988d37e88d0fae3beb771e8ff0fe7f2c84504"), looks := false }, kinds := [], alts := [], laidByText := true, laidKinds := [.data, .data], laidTests := true, laidLooks := .later }
def BookOrderCardSaid : Prop := Claim7.holds Tryd.pinned (.plain (OpenSpec.ofChange bookOrderSpec)) bookOrderCard

/-- THE TIED CARD OF 'rolodexlaw07.BookFinds'. -/
def bookFindsCard : Claim7 := { stood := { row := bookFindsRow, standIns := [], harness := (true, "00872875ea157193cb9a59a2784988d37e88d0fae3beb771e8ff0fe7f2c84504"), looks := false }, kinds := [], alts := [], laidByText := true, laidKinds := [.data, .data], laidTests := true, laidLooks := .later }
def BookFindsCardSaid : Prop := Claim7.holds Tryd.pinned (.plain (OpenSpec.ofChange bookFindsSpec)) bookFindsCard

/-- THE TIED CARD OF 'rolodexlaw07.BookNew'. -/
def bookNewCard : Claim7 := { stood := { row := bookNewRow, standIns := [], harness := (true, "00872875ea157193cb9a59a2784988d37e88d0fae3beb771e8ff0fe7f2c84504"), looks := false }, kinds := [], alts := [], laidByText := true, laidKinds := [.data, .data], laidTests := true, laidLooks := .later }
def BookNewCardSaid : Prop := Claim7.holds Tryd.pinned (.plain (OpenSpec.ofChange bookNewSpec)) bookNewCard

/-- THE TIED CARD OF 'rolodexlaw07.BookKills'. -/
def bookKillsCard : Claim7 := { stood := { row := bookKillsRow, standIns := [], harness := (true, "00872875ea157193cb9a59a2784988d37e88d0fae3beb771e8ff0fe7f2c84504"), looks := false }, kinds := [], alts := [], laidByText := true, laidKinds := [.data, .data], laidTests := true, laidLooks := .later }
def BookKillsCardSaid : Prop := Claim7.holds Tryd.pinned (.plain (OpenSpec.ofChange bookKillsSpec)) bookKillsCard

/-- THE TIED CARD OF 'rolodexlaw07.BookParts'. -/
def bookPartsCard : Claim7 := { stood := { row := bookPartsRow, standIns := [], harness := (true, "00872875ea157193cb9a59a2784988d37e88d0fae3beb771e8ff0fe7f2c84504"), looks := false }, kinds := [], alts := [], laidByText := true, laidKinds := [.data, .data], laidTests := true, laidLooks := .later }
def BookPartsCardSaid : Prop := Claim7.holds Tryd.pinned (.plain (OpenSpec.ofChange bookPartsSpec)) bookPartsCard

/-- THE TIED CARD OF 'rolodexlaw07.BookNames'. -/
def bookNamesCard : Claim7 := { stood := { row := bookNamesRow, standIns := [], harness := (true, "00872875ea157193cb9a59a2784988d37e88d0fae3beb771e8ff0fe7f2c84504"), looks := false }, kinds := [], alts := [], laidByText := true, laidKinds := [.data, .data], laidTests := true, laidLooks := .later }
def BookNamesCardSaid : Prop := Claim7.holds Tryd.pinned (.plain (OpenSpec.ofChange bookNamesSpec)) bookNamesCard

/-- THE SECOND FORM's CARD OF 'rolodexlaw06.RecTells'. -/
def recTellsUptoCard : Claim7 := { stood := { row := recTellsUptoRow, standIns := [], harness := (true, "00872875ea157193cb9a59a2784988d37e88d0fae3beb771e8ff0fe7f2c84504"), looks := false }, kinds := [], alts := [], laidByText := true, laidKinds := [.data, .data], laidTests := true, laidLooks := .later }
def RecTellsUptoCardSaid : Prop := Claim7.holds Tryd.pinned (.plain (OpenSpec.upto recTellsSpec)) recTellsUptoCard

/-- THE SECOND FORM's CARD OF 'rolodexlaw07.BookJoins'. -/
def bookJoinsUptoCard : Claim7 := { stood := { row := bookJoinsUptoRow, standIns := [], harness := (true, "00872875ea157193cb9a59a2784988d37e88d0fae3beb771e8ff0fe7f2c84504"), looks := false }, kinds := [], alts := [], laidByText := true, laidKinds := [.data, .data], laidTests := true, laidLooks := .later }
def BookJoinsUptoCardSaid : Prop := Claim7.holds Tryd.pinned (.plain (OpenSpec.upto bookJoinsSpec)) bookJoinsUptoCard

/-- THE SECOND FORM's CARD OF 'rolodexlaw07.BookOrder'. -/
def bookOrderUptoCard : Claim7 := { stood := { row := bookOrderUptoRow, standIns := [], harness := (true, "00872875ea157193cb9a59a2784988d37e88d0fae3beb771e8ff0fe7f2c84504"), looks := false }, kinds := [], alts := [], laidByText := true, laidKinds := [.data, .data], laidTests := true, laidLooks := .later }
def BookOrderUptoCardSaid : Prop := Claim7.holds Tryd.pinned (.plain (OpenSpec.upto bookOrderSpec)) bookOrderUptoCard

/-- THE SECOND FORM's CARD OF 'rolodexlaw07.BookFinds'. -/
def bookFindsUptoCard : Claim7 := { stood := { row := bookFindsUptoRow, standIns := [], harness := (true, "00872875ea157193cb9a59a2784988d37e88d0fae3beb771e8ff0fe7f2c84504"), looks := false }, kinds := [], alts := [], laidByText := true, laidKinds := [.data, .data], laidTests := true, laidLooks := .later }
def BookFindsUptoCardSaid : Prop := Claim7.holds Tryd.pinned (.plain (OpenSpec.upto bookFindsSpec)) bookFindsUptoCard

/-- THE SECOND FORM's CARD OF 'rolodexlaw07.BookNew'. -/
def bookNewUptoCard : Claim7 := { stood := { row := bookNewUptoRow, standIns := [], harness := (true, "00872875ea157193cb9a59a2784988d37e88d0fae3beb771e8ff0fe7f2c84504"), looks := false }, kinds := [], alts := [], laidByText := true, laidKinds := [.data, .data], laidTests := true, laidLooks := .later }
def BookNewUptoCardSaid : Prop := Claim7.holds Tryd.pinned (.plain (OpenSpec.upto bookNewSpec)) bookNewUptoCard

/-- THE SECOND FORM's CARD OF 'rolodexlaw07.BookKills'. -/
def bookKillsUptoCard : Claim7 := { stood := { row := bookKillsUptoRow, standIns := [], harness := (true, "00872875ea157193cb9a59a2784988d37e88d0fae3beb771e8ff0fe7f2c84504"), looks := false }, kinds := [], alts := [], laidByText := true, laidKinds := [.data, .data], laidTests := true, laidLooks := .later }
def BookKillsUptoCardSaid : Prop := Claim7.holds Tryd.pinned (.plain (OpenSpec.upto bookKillsSpec)) bookKillsUptoCard

/-- THE SECOND FORM's CARD OF 'rolodexlaw07.BookParts'. -/
def bookPartsUptoCard : Claim7 := { stood := { row := bookPartsUptoRow, standIns := [], harness := (true, "00872875ea157193cb9a59a2784988d37e88d0fae3beb771e8ff0fe7f2c84504"), looks := false }, kinds := [], alts := [], laidByText := true, laidKinds := [.data, .data], laidTests := true, laidLooks := .later }
def BookPartsUptoCardSaid : Prop := Claim7.holds Tryd.pinned (.plain (OpenSpec.upto bookPartsSpec)) bookPartsUptoCard

/-- THE SECOND FORM's CARD OF 'rolodexlaw07.BookNames'. -/
def bookNamesUptoCard : Claim7 := { stood := { row := bookNamesUptoRow, standIns := [], harness := (true, "00872875ea157193cb9a59a2784988d37e88d0fae3beb771e8ff0fe7f2c84504"), looks := false }, kinds := [], alts := [], laidByText := true, laidKinds := [.data, .data], laidTests := true, laidLooks := .later }
def BookNamesUptoCardSaid : Prop := Claim7.holds Tryd.pinned (.plain (OpenSpec.upto bookNamesSpec)) bookNamesUptoCard
end Rows
end Go.Proofs.YtepapdnchpolmaaDoor
