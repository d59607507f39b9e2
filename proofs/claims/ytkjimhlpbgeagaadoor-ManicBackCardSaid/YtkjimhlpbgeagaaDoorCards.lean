/-
  DERIVED. GIVEN WITH THE SEED: THE CARDS: each row of YtkjimhlpbgeagaaDoorRows.lean that lists a variable, with what it lists TIED to the program's text (the seventh form; the later family's looks); each row that meets fmt, with fmt's text TOLD by the authors' own Lean function (tested against real Go, not proved from fmt's source: count such statements apart). THE CARD IS WHAT COUNTS. Prove the row's statement (the work); the ties are given (YtkjimhlpbgeagaaDoorTie.lean); close each card by the builder's one call (the guide's Derived/Test/ToyasCard.lean, 'card_holds'). Laid BY PROGRAM, IN A SANDBOX (cutbox-door.mjs). By AI agents, Wed Nov 11 2026. No macro, syntax, notation, axiom, sorry.
-/
import Derived.Test.YtkjimhlpbgeagaaDoorRows
import GoSem.ClaimSeven
namespace Go.Proofs.YtkjimhlpbgeagaaDoor
namespace Rows

/-- THE TIED CARD OF 'rolodexlaw13.ManicBack'. -/
def manicBackCard : Claim7 := { stood := { row := manicBackRow, standIns := [], harness := (true, "359de308c524cdf53158c21c1646afd989cd295dabe022574d3902436724e788"), looks := false }, kinds := [], alts := [], laidByText := true, laidKinds := [.data, .data], laidTests := true, laidLooks := .later }
def ManicBackCardSaid : Prop := Claim7.holds Tryd.pinned (.plain (OpenSpec.ofChange manicBackSpec)) manicBackCard

/-- THE TIED CARD OF 'rolodexlaw13.ManicChanged'. -/
def manicChangedCard : Claim7 := { stood := { row := manicChangedRow, standIns := [], harness := (true, "359de308c524cdf53158c21c1646afd989cd295dabe022574d3902436724e788"), looks := false }, kinds := [], alts := [], laidByText := true, laidKinds := [.data, .data], laidTests := true, laidLooks := .later }
def ManicChangedCardSaid : Prop := Claim7.holds Tryd.pinned (.plain (OpenSpec.ofChange manicChangedSpec)) manicChangedCard

/-- THE TIED CARD OF 'rolodexlaw13.ManicAlone'. -/
def manicAloneCard : Claim7 := { stood := { row := manicAloneRow, standIns := [], harness := (true, "359de308c524cdf53158c21c1646afd989cd295dabe022574d3902436724e788"), looks := false }, kinds := [], alts := [], laidByText := true, laidKinds := [.data, .data], laidTests := true, laidLooks := .later }
def ManicAloneCardSaid : Prop := Claim7.holds Tryd.pinned (.plain (OpenSpec.ofChange manicAloneSpec)) manicAloneCard

/-- THE SECOND FORM's CARD OF 'rolodexlaw13.ManicBack'. -/
def manicBackUptoCard : Claim7 := { stood := { row := manicBackUptoRow, standIns := [], harness := (true, "359de308c524cdf53158c21c1646afd989cd295dabe022574d3902436724e788"), looks := false }, kinds := [], alts := [], laidByText := true, laidKinds := [.data, .data], laidTests := true, laidLooks := .later }
def ManicBackUptoCardSaid : Prop := Claim7.holds Tryd.pinned (.plain (OpenSpec.upto manicBackSpec)) manicBackUptoCard

/-- THE SECOND FORM's CARD OF 'rolodexlaw13.ManicChanged'. -/
def manicChangedUptoCard : Claim7 := { stood := { row := manicChangedUptoRow, standIns := [], harness := (true, "359de308c524cdf53158c21c1646afd989cd295dabe022574d3902436724e788"), looks := false }, kinds := [], alts := [], laidByText := true, laidKinds := [.data, .data], laidTests := true, laidLooks := .later }
def ManicChangedUptoCardSaid : Prop := Claim7.holds Tryd.pinned (.plain (OpenSpec.upto manicChangedSpec)) manicChangedUptoCard

/-- THE SECOND FORM's CARD OF 'rolodexlaw13.ManicAlone'. -/
def manicAloneUptoCard : Claim7 := { stood := { row := manicAloneUptoRow, standIns := [], harness := (true, "359de308c524cdf53158c21c1646afd989cd295dabe022574d3902436724e788"), looks := false }, kinds := [], alts := [], laidByText := true, laidKinds := [.data, .data], laidTests := true, laidLooks := .later }
def ManicAloneUptoCardSaid : Prop := Claim7.holds Tryd.pinned (.plain (OpenSpec.upto manicAloneSpec)) manicAloneUptoCard
end Rows
end Go.Proofs.YtkjimhlpbgeagaaDoor
