/-
  DERIVED. GIVEN WITH THE SEED: THE CARDS: each row of YtlahjooofjbfbaaDoorRows.lean that lists a variable, with what it lists TIED to the program's text (the seventh form; the later family's looks); each row that meets fmt, with fmt's text TOLD by the authors' own Lean function (tested against real Go, not proved from fmt's source: count such statements apart). THE CARD IS WHAT COUNTS. Prove the row's statement (the work); the ties are given (YtlahjooofjbfbaaDoorTie.lean); close each card by the builder's one call (the guide's Derived/Test/ToyasCard.lean, 'card_holds'). Laid BY PROGRAM, IN A SANDBOX (cutbox-door.mjs). By AI agents, Wed Nov 11 2026. No macro, syntax, notation, axiom, sorry.
-/
import Derived.Test.YtlahjooofjbfbaaDoorRows
import GoSem.ClaimSeven
namespace Go.Proofs.YtlahjooofjbfbaaDoor
namespace Rows

/-- THE TIED CARD OF 'rolodexlaw10.SignTells'. -/
def signTellsCard : Claim7 := { stood := { row := signTellsRow, standIns := [], harness := (true, "4e1cb7688662e567a714cbd0e10410a7b11d9e6226ba5aff4f329ec6110073b8"), looks := false }, kinds := [], alts := [], laidByText := true, laidKinds := [.data, .data], laidTests := true, laidLooks := .later }
def SignTellsCardSaid : Prop := Claim7.holds Tryd.pinned (.plain (OpenSpec.ofChange signTellsSpec)) signTellsCard

/-- THE TIED CARD OF 'rolodexlaw10.SignFinds'. -/
def signFindsCard : Claim7 := { stood := { row := signFindsRow, standIns := [], harness := (true, "4e1cb7688662e567a714cbd0e10410a7b11d9e6226ba5aff4f329ec6110073b8"), looks := false }, kinds := [], alts := [], laidByText := true, laidKinds := [.data, .data], laidTests := true, laidLooks := .later }
def SignFindsCardSaid : Prop := Claim7.holds Tryd.pinned (.plain (OpenSpec.ofChange signFindsSpec)) signFindsCard

/-- THE TIED CARD OF 'rolodexlaw10.SignMany'. -/
def signManyCard : Claim7 := { stood := { row := signManyRow, standIns := [], harness := (true, "4e1cb7688662e567a714cbd0e10410a7b11d9e6226ba5aff4f329ec6110073b8"), looks := false }, kinds := [], alts := [], laidByText := true, laidKinds := [.data, .data], laidTests := true, laidLooks := .later }
def SignManyCardSaid : Prop := Claim7.holds Tryd.pinned (.plain (OpenSpec.ofChange signManySpec)) signManyCard

/-- THE TIED CARD OF 'rolodexlaw10.SignNone'. -/
def signNoneCard : Claim7 := { stood := { row := signNoneRow, standIns := [], harness := (true, "4e1cb7688662e567a714cbd0e10410a7b11d9e6226ba5aff4f329ec6110073b8"), looks := false }, kinds := [], alts := [], laidByText := true, laidKinds := [.data, .data], laidTests := true, laidLooks := .later }
def SignNoneCardSaid : Prop := Claim7.holds Tryd.pinned (.plain (OpenSpec.ofChange signNoneSpec)) signNoneCard

/-- THE TIED CARD OF 'rolodexlaw10.SignJoin'. -/
def signJoinCard : Claim7 := { stood := { row := signJoinRow, standIns := [], harness := (true, "4e1cb7688662e567a714cbd0e10410a7b11d9e6226ba5aff4f329ec6110073b8"), looks := false }, kinds := [], alts := [], laidByText := true, laidKinds := [.data, .data], laidTests := true, laidLooks := .later }
def SignJoinCardSaid : Prop := Claim7.holds Tryd.pinned (.plain (OpenSpec.ofChange signJoinSpec)) signJoinCard

/-- THE SECOND FORM's CARD OF 'rolodexlaw10.SignTells'. -/
def signTellsUptoCard : Claim7 := { stood := { row := signTellsUptoRow, standIns := [], harness := (true, "4e1cb7688662e567a714cbd0e10410a7b11d9e6226ba5aff4f329ec6110073b8"), looks := false }, kinds := [], alts := [], laidByText := true, laidKinds := [.data, .data], laidTests := true, laidLooks := .later }
def SignTellsUptoCardSaid : Prop := Claim7.holds Tryd.pinned (.plain (OpenSpec.upto signTellsSpec)) signTellsUptoCard

/-- THE SECOND FORM's CARD OF 'rolodexlaw10.SignFinds'. -/
def signFindsUptoCard : Claim7 := { stood := { row := signFindsUptoRow, standIns := [], harness := (true, "4e1cb7688662e567a714cbd0e10410a7b11d9e6226ba5aff4f329ec6110073b8"), looks := false }, kinds := [], alts := [], laidByText := true, laidKinds := [.data, .data], laidTests := true, laidLooks := .later }
def SignFindsUptoCardSaid : Prop := Claim7.holds Tryd.pinned (.plain (OpenSpec.upto signFindsSpec)) signFindsUptoCard

/-- THE SECOND FORM's CARD OF 'rolodexlaw10.SignMany'. -/
def signManyUptoCard : Claim7 := { stood := { row := signManyUptoRow, standIns := [], harness := (true, "4e1cb7688662e567a714cbd0e10410a7b11d9e6226ba5aff4f329ec6110073b8"), looks := false }, kinds := [], alts := [], laidByText := true, laidKinds := [.data, .data], laidTests := true, laidLooks := .later }
def SignManyUptoCardSaid : Prop := Claim7.holds Tryd.pinned (.plain (OpenSpec.upto signManySpec)) signManyUptoCard

/-- THE SECOND FORM's CARD OF 'rolodexlaw10.SignNone'. -/
def signNoneUptoCard : Claim7 := { stood := { row := signNoneUptoRow, standIns := [], harness := (true, "4e1cb7688662e567a714cbd0e10410a7b11d9e6226ba5aff4f329ec6110073b8"), looks := false }, kinds := [], alts := [], laidByText := true, laidKinds := [.data, .data], laidTests := true, laidLooks := .later }
def SignNoneUptoCardSaid : Prop := Claim7.holds Tryd.pinned (.plain (OpenSpec.upto signNoneSpec)) signNoneUptoCard

/-- THE SECOND FORM's CARD OF 'rolodexlaw10.SignJoin'. -/
def signJoinUptoCard : Claim7 := { stood := { row := signJoinUptoRow, standIns := [], harness := (true, "4e1cb7688662e567a714cbd0e10410a7b11d9e6226ba5aff4f329ec6110073b8"), looks := false }, kinds := [], alts := [], laidByText := true, laidKinds := [.data, .data], laidTests := true, laidLooks := .later }
def SignJoinUptoCardSaid : Prop := Claim7.holds Tryd.pinned (.plain (OpenSpec.upto signJoinSpec)) signJoinUptoCard
end Rows
end Go.Proofs.YtlahjooofjbfbaaDoor
