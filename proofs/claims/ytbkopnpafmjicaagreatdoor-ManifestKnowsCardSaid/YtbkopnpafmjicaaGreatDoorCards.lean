/-
  DERIVED. GIVEN WITH THE SEED: THE CARDS: each row of YtbkopnpafmjicaaGreatDoorRows.lean that lists a variable, with what it lists TIED to the program's text (the seventh form; the later family's looks); each row that meets fmt, with fmt's text TOLD by the authors' own Lean function (tested against real Go, not proved from fmt's source: count such statements apart). THE CARD IS WHAT COUNTS. Prove the row's statement (the work); the ties are given (YtbkopnpafmjicaaGreatDoorTie.lean); close each card by the builder's one call (the guide's Derived/Test/ToyasCard.lean, 'card_holds'). Laid BY PROGRAM, IN A SANDBOX (cutbox-door.mjs). By AI agents, Wed Nov 11 2026. No macro, syntax, notation, axiom, sorry.
-/
import Derived.Test.YtbkopnpafmjicaaGreatDoorRows
import GoSem.ClaimSeven
namespace Go.Proofs.YtbkopnpafmjicaaGreatDoor
namespace Rows

/-- THE TIED CARD OF 'rolodexlaw12.ManifestTells'. -/
def manifestTellsCard : Claim7 := { stood := { row := manifestTellsRow, standIns := [], harness := (true, "68c29f8e1659266c81273f100be8e7cff5e02bcfd2f36bf96e5abc37aab8e0fd"), looks := false }, kinds := [], alts := [], laidByText := true, laidKinds := [.data, .data], laidTests := true, laidLooks := .later }
def ManifestTellsCardSaid : Prop := Claim7.holds Tryz.pinned (.plain (OpenSpec.ofChange manifestTellsSpec)) manifestTellsCard

/-- THE TIED CARD OF 'rolodexlaw12.ManifestFinds'. -/
def manifestFindsCard : Claim7 := { stood := { row := manifestFindsRow, standIns := [], harness := (true, "68c29f8e1659266c81273f100be8e7cff5e02bcfd2f36bf96e5abc37aab8e0fd"), looks := false }, kinds := [], alts := [], laidByText := true, laidKinds := [.data, .data], laidTests := true, laidLooks := .later }
def ManifestFindsCardSaid : Prop := Claim7.holds Tryz.pinned (.plain (OpenSpec.ofChange manifestFindsSpec)) manifestFindsCard

/-- THE TIED CARD OF 'rolodexlaw12.ManifestKnows'. -/
def manifestKnowsCard : Claim7 := { stood := { row := manifestKnowsRow, standIns := [], harness := (true, "68c29f8e1659266c81273f100be8e7cff5e02bcfd2f36bf96e5abc37aab8e0fd"), looks := false }, kinds := [], alts := [], laidByText := true, laidKinds := [.data, .data], laidTests := true, laidLooks := .later }
def ManifestKnowsCardSaid : Prop := Claim7.holds Tryz.pinned (.plain (OpenSpec.ofChange manifestKnowsSpec)) manifestKnowsCard

/-- THE TIED CARD OF 'rolodexlaw12.ManifestLike'. -/
def manifestLikeCard : Claim7 := { stood := { row := manifestLikeRow, standIns := [], harness := (true, "68c29f8e1659266c81273f100be8e7cff5e02bcfd2f36bf96e5abc37aab8e0fd"), looks := false }, kinds := [], alts := [], laidByText := true, laidKinds := [.data, .data], laidTests := true, laidLooks := .later }
def ManifestLikeCardSaid : Prop := Claim7.holds Tryz.pinned (.plain (OpenSpec.ofChange manifestLikeSpec)) manifestLikeCard

/-- THE TIED CARD OF 'rolodexlaw12.ManifestSame'. -/
def manifestSameCard : Claim7 := { stood := { row := manifestSameRow, standIns := [], harness := (true, "68c29f8e1659266c81273f100be8e7cff5e02bcfd2f36bf96e5abc37aab8e0fd"), looks := false }, kinds := [], alts := [], laidByText := true, laidKinds := [.data, .data], laidTests := true, laidLooks := .later }
def ManifestSameCardSaid : Prop := Claim7.holds Tryz.pinned (.plain (OpenSpec.ofChange manifestSameSpec)) manifestSameCard

/-- THE TIED CARD OF 'rolodexlaw12.ManifestFew'. -/
def manifestFewCard : Claim7 := { stood := { row := manifestFewRow, standIns := [], harness := (true, "68c29f8e1659266c81273f100be8e7cff5e02bcfd2f36bf96e5abc37aab8e0fd"), looks := false }, kinds := [], alts := [], laidByText := true, laidKinds := [.data, .data], laidTests := true, laidLooks := .later }
def ManifestFewCardSaid : Prop := Claim7.holds Tryz.pinned (.plain (OpenSpec.ofChange manifestFewSpec)) manifestFewCard

/-- THE SECOND FORM's CARD OF 'rolodexlaw12.ManifestTells'. -/
def manifestTellsUptoCard : Claim7 := { stood := { row := manifestTellsUptoRow, standIns := [], harness := (true, "68c29f8e1659266c81273f100be8e7cff5e02bcfd2f36bf96e5abc37aab8e0fd"), looks := false }, kinds := [], alts := [], laidByText := true, laidKinds := [.data, .data], laidTests := true, laidLooks := .later }
def ManifestTellsUptoCardSaid : Prop := Claim7.holds Tryz.pinned (.plain (OpenSpec.upto manifestTellsSpec)) manifestTellsUptoCard

/-- THE SECOND FORM's CARD OF 'rolodexlaw12.ManifestFinds'. -/
def manifestFindsUptoCard : Claim7 := { stood := { row := manifestFindsUptoRow, standIns := [], harness := (true, "68c29f8e1659266c81273f100be8e7cff5e02bcfd2f36bf96e5abc37aab8e0fd"), looks := false }, kinds := [], alts := [], laidByText := true, laidKinds := [.data, .data], laidTests := true, laidLooks := .later }
def ManifestFindsUptoCardSaid : Prop := Claim7.holds Tryz.pinned (.plain (OpenSpec.upto manifestFindsSpec)) manifestFindsUptoCard

/-- THE SECOND FORM's CARD OF 'rolodexlaw12.ManifestKnows'. -/
def manifestKnowsUptoCard : Claim7 := { stood := { row := manifestKnowsUptoRow, standIns := [], harness := (true, "68c29f8e1659266c81273f100be8e7cff5e02bcfd2f36bf96e5abc37aab8e0fd"), looks := false }, kinds := [], alts := [], laidByText := true, laidKinds := [.data, .data], laidTests := true, laidLooks := .later }
def ManifestKnowsUptoCardSaid : Prop := Claim7.holds Tryz.pinned (.plain (OpenSpec.upto manifestKnowsSpec)) manifestKnowsUptoCard

/-- THE SECOND FORM's CARD OF 'rolodexlaw12.ManifestLike'. -/
def manifestLikeUptoCard : Claim7 := { stood := { row := manifestLikeUptoRow, standIns := [], harness := (true, "68c29f8e1659266c81273f100be8e7cff5e02bcfd2f36bf96e5abc37aab8e0fd"), looks := false }, kinds := [], alts := [], laidByText := true, laidKinds := [.data, .data], laidTests := true, laidLooks := .later }
def ManifestLikeUptoCardSaid : Prop := Claim7.holds Tryz.pinned (.plain (OpenSpec.upto manifestLikeSpec)) manifestLikeUptoCard

/-- THE SECOND FORM's CARD OF 'rolodexlaw12.ManifestSame'. -/
def manifestSameUptoCard : Claim7 := { stood := { row := manifestSameUptoRow, standIns := [], harness := (true, "68c29f8e1659266c81273f100be8e7cff5e02bcfd2f36bf96e5abc37aab8e0fd"), looks := false }, kinds := [], alts := [], laidByText := true, laidKinds := [.data, .data], laidTests := true, laidLooks := .later }
def ManifestSameUptoCardSaid : Prop := Claim7.holds Tryz.pinned (.plain (OpenSpec.upto manifestSameSpec)) manifestSameUptoCard

/-- THE SECOND FORM's CARD OF 'rolodexlaw12.ManifestFew'. -/
def manifestFewUptoCard : Claim7 := { stood := { row := manifestFewUptoRow, standIns := [], harness := (true, "68c29f8e1659266c81273f100be8e7cff5e02bcfd2f36bf96e5abc37aab8e0fd"), looks := false }, kinds := [], alts := [], laidByText := true, laidKinds := [.data, .data], laidTests := true, laidLooks := .later }
def ManifestFewUptoCardSaid : Prop := Claim7.holds Tryz.pinned (.plain (OpenSpec.upto manifestFewSpec)) manifestFewUptoCard
end Rows
end Go.Proofs.YtbkopnpafmjicaaGreatDoor
