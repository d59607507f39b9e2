/-
  DERIVED. GIVEN WITH THE SEED: THE CARDS: each row of YtcmknbdeafcknaaGreatDoorRows.lean that lists a variable, with what it lists TIED to the program's text (the seventh form; the later family's looks); each row that meets fmt, with fmt's text TOLD by the authors' own Lean function (tested against real Go, not proved from fmt's source: count such statements apart). THE CARD IS WHAT COUNTS. Prove the row's statement (the work); the ties are given (YtcmknbdeafcknaaGreatDoorTie.lean); close each card by the builder's one call (the guide's Derived/Test/ToyasCard.lean, 'card_holds'). Laid BY PROGRAM, IN A SANDBOX (cutbox-door.mjs). By AI agents, Wed Nov 11 2026. No macro, syntax, notation, axiom, sorry.
-/
import Derived.Test.YtcmknbdeafcknaaGreatDoorRows
import GoSem.ClaimSeven
namespace Go.Proofs.YtcmknbdeafcknaaGreatDoor
namespace Rows

/-- THE TIED CARD OF 'rolodexlaw07.BookTells'. -/
def bookTellsCard : Claim7 := { stood := { row := bookTellsRow, standIns := [], harness := (true, "a8e321342714e438c94c639518e6200191949bf5e0d679a141a0a7838ef2fe6b"), looks := false }, kinds := [], alts := [], laidByText := true, laidKinds := [.data, .data], laidTests := true, laidLooks := .later }
def BookTellsCardSaid : Prop := Claim7.holds Tryz.pinned (.plain (OpenSpec.ofChange bookTellsSpec)) bookTellsCard

/-- THE TIED CARD OF 'rolodexlaw07.BookWrites'. -/
def bookWritesCard : Claim7 := { stood := { row := bookWritesRow, standIns := [], harness := (true, "a8e321342714e438c94c639518e6200191949bf5e0d679a141a0a7838ef2fe6b"), looks := false }, kinds := [], alts := [], laidByText := true, laidKinds := [.data, .data], laidTests := true, laidLooks := .later }
def BookWritesCardSaid : Prop := Claim7.holds Tryz.pinned (.plain (OpenSpec.ofChange bookWritesSpec)) bookWritesCard

/-- THE TIED CARD OF 'rolodexlaw08.CanonTells'. -/
def canonTellsCard : Claim7 := { stood := { row := canonTellsRow, standIns := [], harness := (true, "a8e321342714e438c94c639518e6200191949bf5e0d679a141a0a7838ef2fe6b"), looks := false }, kinds := [], alts := [], laidByText := true, laidKinds := [.data, .data], laidTests := true, laidLooks := .later }
def CanonTellsCardSaid : Prop := Claim7.holds Tryz.pinned (.plain (OpenSpec.ofChange canonTellsSpec)) canonTellsCard

/-- THE TIED CARD OF 'rolodexlaw08.CanonBack'. -/
def canonBackCard : Claim7 := { stood := { row := canonBackRow, standIns := [], harness := (true, "a8e321342714e438c94c639518e6200191949bf5e0d679a141a0a7838ef2fe6b"), looks := false }, kinds := [], alts := [], laidByText := true, laidKinds := [.data, .data], laidTests := true, laidLooks := .later }
def CanonBackCardSaid : Prop := Claim7.holds Tryz.pinned (.plain (OpenSpec.ofChange canonBackSpec)) canonBackCard

/-- THE TIED CARD OF 'rolodexlaw08.CanonMore'. -/
def canonMoreCard : Claim7 := { stood := { row := canonMoreRow, standIns := [], harness := (true, "a8e321342714e438c94c639518e6200191949bf5e0d679a141a0a7838ef2fe6b"), looks := false }, kinds := [], alts := [], laidByText := true, laidKinds := [.data, .data], laidTests := true, laidLooks := .later }
def CanonMoreCardSaid : Prop := Claim7.holds Tryz.pinned (.plain (OpenSpec.ofChange canonMoreSpec)) canonMoreCard

/-- THE TIED CARD OF 'rolodexlaw08.CanonSame'. -/
def canonSameCard : Claim7 := { stood := { row := canonSameRow, standIns := [], harness := (true, "a8e321342714e438c94c639518e6200191949bf5e0d679a141a0a7838ef2fe6b"), looks := false }, kinds := [], alts := [], laidByText := true, laidKinds := [.data, .data], laidTests := true, laidLooks := .later }
def CanonSameCardSaid : Prop := Claim7.holds Tryz.pinned (.plain (OpenSpec.ofChange canonSameSpec)) canonSameCard

/-- THE TIED CARD OF 'rolodexlaw08.CanonLong'. -/
def canonLongCard : Claim7 := { stood := { row := canonLongRow, standIns := [], harness := (true, "a8e321342714e438c94c639518e6200191949bf5e0d679a141a0a7838ef2fe6b"), looks := false }, kinds := [], alts := [], laidByText := true, laidKinds := [.data, .data], laidTests := true, laidLooks := .later }
def CanonLongCardSaid : Prop := Claim7.holds Tryz.pinned (.plain (OpenSpec.ofChange canonLongSpec)) canonLongCard

/-- THE TIED CARD OF 'rolodexlaw08.CanonDigest'. -/
def canonDigestCard : Claim7 := { stood := { row := canonDigestRow, standIns := [], harness := (true, "a8e321342714e438c94c639518e6200191949bf5e0d679a141a0a7838ef2fe6b"), looks := false }, kinds := [], alts := [], laidByText := true, laidKinds := [.data, .data], laidTests := true, laidLooks := .later }
def CanonDigestCardSaid : Prop := Claim7.holds Tryz.pinned (.plain (OpenSpec.ofChange canonDigestSpec)) canonDigestCard

/-- THE SECOND FORM's CARD OF 'rolodexlaw07.BookTells'. -/
def bookTellsUptoCard : Claim7 := { stood := { row := bookTellsUptoRow, standIns := [], harness := (true, "a8e321342714e438c94c639518e6200191949bf5e0d679a141a0a7838ef2fe6b"), looks := false }, kinds := [], alts := [], laidByText := true, laidKinds := [.data, .data], laidTests := true, laidLooks := .later }
def BookTellsUptoCardSaid : Prop := Claim7.holds Tryz.pinned (.plain (OpenSpec.upto bookTellsSpec)) bookTellsUptoCard

/-- THE SECOND FORM's CARD OF 'rolodexlaw07.BookWrites'. -/
def bookWritesUptoCard : Claim7 := { stood := { row := bookWritesUptoRow, standIns := [], harness := (true, "a8e321342714e438c94c639518e6200191949bf5e0d679a141a0a7838ef2fe6b"), looks := false }, kinds := [], alts := [], laidByText := true, laidKinds := [.data, .data], laidTests := true, laidLooks := .later }
def BookWritesUptoCardSaid : Prop := Claim7.holds Tryz.pinned (.plain (OpenSpec.upto bookWritesSpec)) bookWritesUptoCard

/-- THE SECOND FORM's CARD OF 'rolodexlaw08.CanonTells'. -/
def canonTellsUptoCard : Claim7 := { stood := { row := canonTellsUptoRow, standIns := [], harness := (true, "a8e321342714e438c94c639518e6200191949bf5e0d679a141a0a7838ef2fe6b"), looks := false }, kinds := [], alts := [], laidByText := true, laidKinds := [.data, .data], laidTests := true, laidLooks := .later }
def CanonTellsUptoCardSaid : Prop := Claim7.holds Tryz.pinned (.plain (OpenSpec.upto canonTellsSpec)) canonTellsUptoCard

/-- THE SECOND FORM's CARD OF 'rolodexlaw08.CanonBack'. -/
def canonBackUptoCard : Claim7 := { stood := { row := canonBackUptoRow, standIns := [], harness := (true, "a8e321342714e438c94c639518e6200191949bf5e0d679a141a0a7838ef2fe6b"), looks := false }, kinds := [], alts := [], laidByText := true, laidKinds := [.data, .data], laidTests := true, laidLooks := .later }
def CanonBackUptoCardSaid : Prop := Claim7.holds Tryz.pinned (.plain (OpenSpec.upto canonBackSpec)) canonBackUptoCard

/-- THE SECOND FORM's CARD OF 'rolodexlaw08.CanonMore'. -/
def canonMoreUptoCard : Claim7 := { stood := { row := canonMoreUptoRow, standIns := [], harness := (true, "a8e321342714e438c94c639518e6200191949bf5e0d679a141a0a7838ef2fe6b"), looks := false }, kinds := [], alts := [], laidByText := true, laidKinds := [.data, .data], laidTests := true, laidLooks := .later }
def CanonMoreUptoCardSaid : Prop := Claim7.holds Tryz.pinned (.plain (OpenSpec.upto canonMoreSpec)) canonMoreUptoCard

/-- THE SECOND FORM's CARD OF 'rolodexlaw08.CanonSame'. -/
def canonSameUptoCard : Claim7 := { stood := { row := canonSameUptoRow, standIns := [], harness := (true, "a8e321342714e438c94c639518e6200191949bf5e0d679a141a0a7838ef2fe6b"), looks := false }, kinds := [], alts := [], laidByText := true, laidKinds := [.data, .data], laidTests := true, laidLooks := .later }
def CanonSameUptoCardSaid : Prop := Claim7.holds Tryz.pinned (.plain (OpenSpec.upto canonSameSpec)) canonSameUptoCard

/-- THE SECOND FORM's CARD OF 'rolodexlaw08.CanonLong'. -/
def canonLongUptoCard : Claim7 := { stood := { row := canonLongUptoRow, standIns := [], harness := (true, "a8e321342714e438c94c639518e6200191949bf5e0d679a141a0a7838ef2fe6b"), looks := false }, kinds := [], alts := [], laidByText := true, laidKinds := [.data, .data], laidTests := true, laidLooks := .later }
def CanonLongUptoCardSaid : Prop := Claim7.holds Tryz.pinned (.plain (OpenSpec.upto canonLongSpec)) canonLongUptoCard

/-- THE SECOND FORM's CARD OF 'rolodexlaw08.CanonDigest'. -/
def canonDigestUptoCard : Claim7 := { stood := { row := canonDigestUptoRow, standIns := [], harness := (true, "a8e321342714e438c94c639518e6200191949bf5e0d679a141a0a7838ef2fe6b"), looks := false }, kinds := [], alts := [], laidByText := true, laidKinds := [.data, .data], laidTests := true, laidLooks := .later }
def CanonDigestUptoCardSaid : Prop := Claim7.holds Tryz.pinned (.plain (OpenSpec.upto canonDigestSpec)) canonDigestUptoCard
end Rows
end Go.Proofs.YtcmknbdeafcknaaGreatDoor
