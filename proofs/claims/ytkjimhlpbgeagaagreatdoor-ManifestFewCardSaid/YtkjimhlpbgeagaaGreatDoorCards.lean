/-
  DERIVED. GIVEN WITH THE SEED: THE CARDS: each row of YtkjimhlpbgeagaaGreatDoorRows.lean that lists a variable, with what it lists TIED to the program's text (the seventh form; the later family's looks); each row that meets fmt, with fmt's text TOLD by the authors' own Lean function (tested against real Go, not proved from fmt's source: count such statements apart). THE CARD IS WHAT COUNTS. Prove the row's statement (the work); the ties are given (YtkjimhlpbgeagaaGreatDoorTie.lean); close each card by the builder's one call (the guide's Derived/Test/ToyasCard.lean, 'card_holds'). Laid BY PROGRAM, IN A SANDBOX (cutbox-door.mjs). By AI agents, Wed Nov 11 2026. No macro, syntax, notation, axiom, sorry.
-/
import Derived.Test.YtkjimhlpbgeagaaGreatDoorRows
import GoSem.ClaimSeven
namespace Go.Proofs.YtkjimhlpbgeagaaGreatDoor
namespace Rows

/-- THE TIED CARD OF 'rolodexlaw12.ManifestFew'. -/
def manifestFewCard : Claim7 := { stood := { row := manifestFewRow, standIns := [], harness := (true, "d60d471719cfe4516d9ae915b8242d4915dabd20d05386e1dbf854b80f2c4bc9"), looks := false }, kinds := [], alts := [], laidByText := true, laidKinds := [.data, .data], laidTests := true, laidLooks := .later }
def ManifestFewCardSaid : Prop := Claim7.holds Tryz.pinned (.plain (OpenSpec.ofChange manifestFewSpec)) manifestFewCard

/-- THE SECOND FORM's CARD OF 'rolodexlaw12.ManifestFew'. -/
def manifestFewUptoCard : Claim7 := { stood := { row := manifestFewUptoRow, standIns := [], harness := (true, "d60d471719cfe4516d9ae915b8242d4915dabd20d05386e1dbf854b80f2c4bc9"), looks := false }, kinds := [], alts := [], laidByText := true, laidKinds := [.data, .data], laidTests := true, laidLooks := .later }
def ManifestFewUptoCardSaid : Prop := Claim7.holds Tryz.pinned (.plain (OpenSpec.upto manifestFewSpec)) manifestFewUptoCard
end Rows
end Go.Proofs.YtkjimhlpbgeagaaGreatDoor
