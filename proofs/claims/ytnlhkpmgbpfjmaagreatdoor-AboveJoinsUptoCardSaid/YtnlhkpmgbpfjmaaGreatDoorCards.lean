/-
  DERIVED. GIVEN WITH THE SEED: THE CARDS: each row of YtnlhkpmgbpfjmaaGreatDoorRows.lean that lists a variable, with what it lists TIED to the program's text (the seventh form; the later family's looks); each row that meets fmt, with fmt's text TOLD by the authors' own Lean function (tested against real Go, not proved from fmt's source: count such statements apart). THE CARD IS WHAT COUNTS. Prove the row's statement (the work); the ties are given (YtnlhkpmgbpfjmaaGreatDoorTie.lean); close each card by the builder's one call (the guide's Derived/Test/ToyasCard.lean, 'card_holds'). Laid BY PROGRAM, IN A SANDBOX (cutbox-door.mjs). By AI agents, Wed Nov 11 2026. No macro, syntax, notation, axiom, sorry.
-/
import Derived.Test.YtnlhkpmgbpfjmaaGreatDoorRows
import GoSem.ClaimSeven
namespace Go.Proofs.YtnlhkpmgbpfjmaaGreatDoor
namespace Rows

/-- THE TIED CARD OF 'rolodexlaw14.AboveTells'. -/
def aboveTellsCard : Claim7 := { stood := { row := aboveTellsRow, standIns := [], harness := (true, "a6f6f0dbe0629fe403da412372bd627e5bc92ae70829dd5d456ab8b57b9cf12f"), looks := false }, kinds := [], alts := [], laidByText := true, laidKinds := [.data, .data], laidTests := true, laidLooks := .later }
def AboveTellsCardSaid : Prop := Claim7.holds Tryz.pinned (.plain (OpenSpec.ofChange aboveTellsSpec)) aboveTellsCard

/-- THE TIED CARD OF 'rolodexlaw14.AboveJoins'. -/
def aboveJoinsCard : Claim7 := { stood := { row := aboveJoinsRow, standIns := [], harness := (true, "a6f6f0dbe0629fe403da412372bd627e5bc92ae70829dd5d456ab8b57b9cf12f"), looks := false }, kinds := [], alts := [], laidByText := true, laidKinds := [.data, .data], laidTests := true, laidLooks := .later }
def AboveJoinsCardSaid : Prop := Claim7.holds Tryz.pinned (.plain (OpenSpec.ofChange aboveJoinsSpec)) aboveJoinsCard

/-- THE TIED CARD OF 'rolodexlaw14.AboveLess'. -/
def aboveLessCard : Claim7 := { stood := { row := aboveLessRow, standIns := [], harness := (true, "a6f6f0dbe0629fe403da412372bd627e5bc92ae70829dd5d456ab8b57b9cf12f"), looks := false }, kinds := [], alts := [], laidByText := true, laidKinds := [.data, .data], laidTests := true, laidLooks := .later }
def AboveLessCardSaid : Prop := Claim7.holds Tryz.pinned (.plain (OpenSpec.ofChange aboveLessSpec)) aboveLessCard

/-- THE TIED CARD OF 'rolodexlaw14.AboveAdds'. -/
def aboveAddsCard : Claim7 := { stood := { row := aboveAddsRow, standIns := [], harness := (true, "a6f6f0dbe0629fe403da412372bd627e5bc92ae70829dd5d456ab8b57b9cf12f"), looks := false }, kinds := [], alts := [], laidByText := true, laidKinds := [.data, .data], laidTests := true, laidLooks := .later }
def AboveAddsCardSaid : Prop := Claim7.holds Tryz.pinned (.plain (OpenSpec.ofChange aboveAddsSpec)) aboveAddsCard

/-- THE TIED CARD OF 'rolodexlaw14.AboveNone'. -/
def aboveNoneCard : Claim7 := { stood := { row := aboveNoneRow, standIns := [], harness := (true, "a6f6f0dbe0629fe403da412372bd627e5bc92ae70829dd5d456ab8b57b9cf12f"), looks := false }, kinds := [], alts := [], laidByText := true, laidKinds := [.data, .data], laidTests := true, laidLooks := .later }
def AboveNoneCardSaid : Prop := Claim7.holds Tryz.pinned (.plain (OpenSpec.ofChange aboveNoneSpec)) aboveNoneCard

/-- THE TIED CARD OF 'rolodexlaw14.AboveStamp'. -/
def aboveStampCard : Claim7 := { stood := { row := aboveStampRow, standIns := [], harness := (true, "a6f6f0dbe0629fe403da412372bd627e5bc92ae70829dd5d456ab8b57b9cf12f"), looks := false }, kinds := [], alts := [], laidByText := true, laidKinds := [.data, .data], laidTests := true, laidLooks := .later }
def AboveStampCardSaid : Prop := Claim7.holds Tryz.pinned (.plain (OpenSpec.ofChange aboveStampSpec)) aboveStampCard

/-- THE SECOND FORM's CARD OF 'rolodexlaw14.AboveTells'. -/
def aboveTellsUptoCard : Claim7 := { stood := { row := aboveTellsUptoRow, standIns := [], harness := (true, "a6f6f0dbe0629fe403da412372bd627e5bc92ae70829dd5d456ab8b57b9cf12f"), looks := false }, kinds := [], alts := [], laidByText := true, laidKinds := [.data, .data], laidTests := true, laidLooks := .later }
def AboveTellsUptoCardSaid : Prop := Claim7.holds Tryz.pinned (.plain (OpenSpec.upto aboveTellsSpec)) aboveTellsUptoCard

/-- THE SECOND FORM's CARD OF 'rolodexlaw14.AboveJoins'. -/
def aboveJoinsUptoCard : Claim7 := { stood := { row := aboveJoinsUptoRow, standIns := [], harness := (true, "a6f6f0dbe0629fe403da412372bd627e5bc92ae70829dd5d456ab8b57b9cf12f"), looks := false }, kinds := [], alts := [], laidByText := true, laidKinds := [.data, .data], laidTests := true, laidLooks := .later }
def AboveJoinsUptoCardSaid : Prop := Claim7.holds Tryz.pinned (.plain (OpenSpec.upto aboveJoinsSpec)) aboveJoinsUptoCard

/-- THE SECOND FORM's CARD OF 'rolodexlaw14.AboveLess'. -/
def aboveLessUptoCard : Claim7 := { stood := { row := aboveLessUptoRow, standIns := [], harness := (true, "a6f6f0dbe0629fe403da412372bd627e5bc92ae70829dd5d456ab8b57b9cf12f"), looks := false }, kinds := [], alts := [], laidByText := true, laidKinds := [.data, .data], laidTests := true, laidLooks := .later }
def AboveLessUptoCardSaid : Prop := Claim7.holds Tryz.pinned (.plain (OpenSpec.upto aboveLessSpec)) aboveLessUptoCard

/-- THE SECOND FORM's CARD OF 'rolodexlaw14.AboveAdds'. -/
def aboveAddsUptoCard : Claim7 := { stood := { row := aboveAddsUptoRow, standIns := [], harness := (true, "a6f6f0dbe0629fe403da412372bd627e5bc92ae70829dd5d456ab8b57b9cf12f"), looks := false }, kinds := [], alts := [], laidByText := true, laidKinds := [.data, .data], laidTests := true, laidLooks := .later }
def AboveAddsUptoCardSaid : Prop := Claim7.holds Tryz.pinned (.plain (OpenSpec.upto aboveAddsSpec)) aboveAddsUptoCard

/-- THE SECOND FORM's CARD OF 'rolodexlaw14.AboveNone'. -/
def aboveNoneUptoCard : Claim7 := { stood := { row := aboveNoneUptoRow, standIns := [], harness := (true, "a6f6f0dbe0629fe403da412372bd627e5bc92ae70829dd5d456ab8b57b9cf12f"), looks := false }, kinds := [], alts := [], laidByText := true, laidKinds := [.data, .data], laidTests := true, laidLooks := .later }
def AboveNoneUptoCardSaid : Prop := Claim7.holds Tryz.pinned (.plain (OpenSpec.upto aboveNoneSpec)) aboveNoneUptoCard

/-- THE SECOND FORM's CARD OF 'rolodexlaw14.AboveStamp'. -/
def aboveStampUptoCard : Claim7 := { stood := { row := aboveStampUptoRow, standIns := [], harness := (true, "a6f6f0dbe0629fe403da412372bd627e5bc92ae70829dd5d456ab8b57b9cf12f"), looks := false }, kinds := [], alts := [], laidByText := true, laidKinds := [.data, .data], laidTests := true, laidLooks := .later }
def AboveStampUptoCardSaid : Prop := Claim7.holds Tryz.pinned (.plain (OpenSpec.upto aboveStampSpec)) aboveStampUptoCard
end Rows
end Go.Proofs.YtnlhkpmgbpfjmaaGreatDoor
