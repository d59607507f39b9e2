/-
  No cell of these rows narrows 'for every input' (looked for: loops, veiled, ifaces, maps, wideKeys, modest, calm, conditions, laid).
  DERIVED. THE GIVEN ROWS OF THIS SEAT. 7 by the template 'for every input the law returns true; each argument reads behind the call as it read before'; 0 by the template 'total and deterministic' (their statements: YtneiaioddjabeaaTotals.lean).
  GIVEN WITH THE SEED: the statements are not yours to turn. If you find one false, say at which input.
  Laid BY PROGRAM, IN A SANDBOX (cutbox-rows.mjs): the forced cells as the released guide's own fill.sh prints them over the translation b6bfe0fb9f86b1b7… (all of the seat's roots in one cut). By AI agents, Wed Nov 11 2026. No macro, syntax, notation, axiom, sorry.
-/
import Derived.Test.YtneiaioddjabeaaChecked
import GoSem.Claim
import GoSem.ClaimJoined
import GoSem.ClaimMapViews
import Derived.JoinedTies
import Derived.KernelRfl
namespace Go.Proofs.Ytneiaioddjabeaa
/- THE CELL 'sum', in the pinned program and in every row, IS THE sha256 OF THE DUMP (.gsa) THAT YtneiaioddjabeaaProg.lean LOADS. Nothing in Lean hashes anything: it is a label: what it is worth is what the hold of that sum in a sandbox is worth. -/
noncomputable def Try.pinned : Pinned := { name := "ytneiaioddjabeaa", sum := "b6bfe0fb9f86b1b77c241d4f0e0274e57854a7cb605bef1b698860625fa8e9f8", checked := Try.checked }
namespace Rows
def none {H : Type} : Left H := { results := [], args := [] }

/-- 'rolodexlaw02.SectionTells': WHATEVER THE INPUT: true; the input reads as it did. -/
def sectionTellsSpec : ChangeSpec := { name := "sectionTells", fn := fun _ => fun
  | [d1, d2] => { results := [.lit (.bool true)], args := [d1, d2] }
  | _ => none }
def sectionTellsRow : OpenClaim := { program := "ytneiaioddjabeaa", sum := "b6bfe0fb9f86b1b77c241d4f0e0274e57854a7cb605bef1b698860625fa8e9f8", func := "rolodex/rolodexlaw02.SectionTells", spec := "sectionTells", unfollowed := true, recurses := true, apart := false }
def SectionTellsSaid : Prop := sectionTellsRow.holds Try.pinned (OpenSpec.ofChange sectionTellsSpec)

/-- ITS FALSE NEIGHBOUR: 'it returns false'. Refute it at one input. -/
def sectionTellsWrong : ChangeSpec := { name := "sectionTells", fn := fun _ => fun
  | [d1, d2] => { results := [.lit (.bool false)], args := [d1, d2] }
  | _ => none }
def SectionTellsWrongFalsely : Prop := sectionTellsRow.holds Try.pinned (OpenSpec.ofChange sectionTellsWrong)

/-- 'rolodexlaw02.SectionBack': WHATEVER THE INPUT: true; the input reads as it did. -/
def sectionBackSpec : ChangeSpec := { name := "sectionBack", fn := fun _ => fun
  | [d1, d2, d3] => { results := [.lit (.bool true)], args := [d1, d2, d3] }
  | _ => none }
def sectionBackRow : OpenClaim := { program := "ytneiaioddjabeaa", sum := "b6bfe0fb9f86b1b77c241d4f0e0274e57854a7cb605bef1b698860625fa8e9f8", func := "rolodex/rolodexlaw02.SectionBack", spec := "sectionBack", unfollowed := true, recurses := true, apart := false }
def SectionBackSaid : Prop := sectionBackRow.holds Try.pinned (OpenSpec.ofChange sectionBackSpec)

/-- ITS FALSE NEIGHBOUR: 'it returns false'. Refute it at one input. -/
def sectionBackWrong : ChangeSpec := { name := "sectionBack", fn := fun _ => fun
  | [d1, d2, d3] => { results := [.lit (.bool false)], args := [d1, d2, d3] }
  | _ => none }
def SectionBackWrongFalsely : Prop := sectionBackRow.holds Try.pinned (OpenSpec.ofChange sectionBackWrong)

/-- 'rolodexlaw02.SectionOne': WHATEVER THE INPUT: true; the input reads as it did. -/
def sectionOneSpec : ChangeSpec := { name := "sectionOne", fn := fun _ => fun
  | [d1, d2, d3, d4] => { results := [.lit (.bool true)], args := [d1, d2, d3, d4] }
  | _ => none }
def sectionOneRow : OpenClaim := { program := "ytneiaioddjabeaa", sum := "b6bfe0fb9f86b1b77c241d4f0e0274e57854a7cb605bef1b698860625fa8e9f8", func := "rolodex/rolodexlaw02.SectionOne", spec := "sectionOne", unfollowed := true, recurses := true, apart := false }
def SectionOneSaid : Prop := sectionOneRow.holds Try.pinned (OpenSpec.ofChange sectionOneSpec)

/-- ITS FALSE NEIGHBOUR: 'it returns false'. Refute it at one input. -/
def sectionOneWrong : ChangeSpec := { name := "sectionOne", fn := fun _ => fun
  | [d1, d2, d3, d4] => { results := [.lit (.bool false)], args := [d1, d2, d3, d4] }
  | _ => none }
def SectionOneWrongFalsely : Prop := sectionOneRow.holds Try.pinned (OpenSpec.ofChange sectionOneWrong)

/-- 'rolodexlaw02.SectionCut': WHATEVER THE INPUT: true; the input reads as it did. -/
def sectionCutSpec : ChangeSpec := { name := "sectionCut", fn := fun _ => fun
  | [d1, d2, d3] => { results := [.lit (.bool true)], args := [d1, d2, d3] }
  | _ => none }
def sectionCutRow : OpenClaim := { program := "ytneiaioddjabeaa", sum := "b6bfe0fb9f86b1b77c241d4f0e0274e57854a7cb605bef1b698860625fa8e9f8", func := "rolodex/rolodexlaw02.SectionCut", spec := "sectionCut", unfollowed := true, recurses := true, apart := false }
def SectionCutSaid : Prop := sectionCutRow.holds Try.pinned (OpenSpec.ofChange sectionCutSpec)

/-- ITS FALSE NEIGHBOUR: 'it returns false'. Refute it at one input. -/
def sectionCutWrong : ChangeSpec := { name := "sectionCut", fn := fun _ => fun
  | [d1, d2, d3] => { results := [.lit (.bool false)], args := [d1, d2, d3] }
  | _ => none }
def SectionCutWrongFalsely : Prop := sectionCutRow.holds Try.pinned (OpenSpec.ofChange sectionCutWrong)

/-- 'rolodexlaw02.SectionSums': WHATEVER THE INPUT: true; the input reads as it did. -/
def sectionSumsSpec : ChangeSpec := { name := "sectionSums", fn := fun _ => fun
  | [d1, d2, d3, d4, d5] => { results := [.lit (.bool true)], args := [d1, d2, d3, d4, d5] }
  | _ => none }
def sectionSumsRow : OpenClaim := { program := "ytneiaioddjabeaa", sum := "b6bfe0fb9f86b1b77c241d4f0e0274e57854a7cb605bef1b698860625fa8e9f8", func := "rolodex/rolodexlaw02.SectionSums", spec := "sectionSums", unfollowed := true, recurses := true, apart := false }
def SectionSumsSaid : Prop := sectionSumsRow.holds Try.pinned (OpenSpec.ofChange sectionSumsSpec)

/-- ITS FALSE NEIGHBOUR: 'it returns false'. Refute it at one input. -/
def sectionSumsWrong : ChangeSpec := { name := "sectionSums", fn := fun _ => fun
  | [d1, d2, d3, d4, d5] => { results := [.lit (.bool false)], args := [d1, d2, d3, d4, d5] }
  | _ => none }
def SectionSumsWrongFalsely : Prop := sectionSumsRow.holds Try.pinned (OpenSpec.ofChange sectionSumsWrong)

/-- 'rolodexlaw02.SectionParts': WHATEVER THE INPUT: true; the input reads as it did. -/
def sectionPartsSpec : ChangeSpec := { name := "sectionParts", fn := fun _ => fun
  | [d1, d2] => { results := [.lit (.bool true)], args := [d1, d2] }
  | _ => none }
def sectionPartsRow : OpenClaim := { program := "ytneiaioddjabeaa", sum := "b6bfe0fb9f86b1b77c241d4f0e0274e57854a7cb605bef1b698860625fa8e9f8", func := "rolodex/rolodexlaw02.SectionParts", spec := "sectionParts", unfollowed := true, recurses := true, apart := false }
def SectionPartsSaid : Prop := sectionPartsRow.holds Try.pinned (OpenSpec.ofChange sectionPartsSpec)

/-- ITS FALSE NEIGHBOUR: 'it returns false'. Refute it at one input. -/
def sectionPartsWrong : ChangeSpec := { name := "sectionParts", fn := fun _ => fun
  | [d1, d2] => { results := [.lit (.bool false)], args := [d1, d2] }
  | _ => none }
def SectionPartsWrongFalsely : Prop := sectionPartsRow.holds Try.pinned (OpenSpec.ofChange sectionPartsWrong)

/-- 'rolodexlaw02.SectionLong': WHATEVER THE INPUT: true; the input reads as it did. -/
def sectionLongSpec : ChangeSpec := { name := "sectionLong", fn := fun _ => fun
  | [d1, d2] => { results := [.lit (.bool true)], args := [d1, d2] }
  | _ => none }
def sectionLongRow : OpenClaim := { program := "ytneiaioddjabeaa", sum := "b6bfe0fb9f86b1b77c241d4f0e0274e57854a7cb605bef1b698860625fa8e9f8", func := "rolodex/rolodexlaw02.SectionLong", spec := "sectionLong", unfollowed := true, recurses := true, apart := false }
def SectionLongSaid : Prop := sectionLongRow.holds Try.pinned (OpenSpec.ofChange sectionLongSpec)

/-- ITS FALSE NEIGHBOUR: 'it returns false'. Refute it at one input. -/
def sectionLongWrong : ChangeSpec := { name := "sectionLong", fn := fun _ => fun
  | [d1, d2] => { results := [.lit (.bool false)], args := [d1, d2] }
  | _ => none }
def SectionLongWrongFalsely : Prop := sectionLongRow.holds Try.pinned (OpenSpec.ofChange sectionLongWrong)

/- THE SECOND FORM. 'bulk': how many values and letters a reading holds, each counted each time it is reached (what is shared counts as often as it is met; a slice's spare places count too). A statement '..UptoSaid' is the law's where the arguments, and the package variables that the reading takes, are together of bulk at most 1048576: NARROWER than '..Said'. Prove '..Said' where nothing that the law and all that it calls make is longer than what came in: it says more and counts as full. Else prove '..UptoSaid'. A law counts once. -/
mutual
def uptoBulk {H : Type} : DataW H → Nat
  | .lit (.string bytes) => bytes.length + 1
  | .lit _ => 1
  | .nil => 1
  | .ptr d => uptoBulk d + 1
  | .slice elems spare => uptoBulkAll elems + uptoBulkAll spare + 1
  | .agg parts => uptoBulkAll parts + 1
  | .iface _ d => uptoBulk d + 1
  | .map entries => uptoBulkEntries entries + 1
  | .held _ => 1
def uptoBulkAll {H : Type} : List (DataW H) → Nat
  | [] => 0
  | d :: r => uptoBulk d + uptoBulkAll r
def uptoBulkEntries {H : Type} : List (Lit × DataW H) → Nat
  | [] => 0
  | x :: r => uptoBulkEntry x + uptoBulkEntries r
def uptoBulkEntry {H : Type} : Lit × DataW H → Nat
  | (.string bytes, d) => bytes.length + uptoBulk d + 1
  | (_, d) => uptoBulk d + 1
 end
def uptoSmall : (H : Type) → List (DataW H) → Bool := fun _ ds => decide (uptoBulkAll ds ≤ 1048576)
def OpenSpec.upto (s : _root_.Go.ChangeSpec) : _root_.Go.OpenSpec := { _root_.Go.OpenSpec.ofChange s with cond := some uptoSmall }

/-- 'rolodexlaw02.SectionTells', WHERE WHAT IT READS IS OF BULK AT MOST 1048576: true; the input reads as it did. -/
def sectionTellsUptoRow : OpenClaim := { program := "ytneiaioddjabeaa", sum := "b6bfe0fb9f86b1b77c241d4f0e0274e57854a7cb605bef1b698860625fa8e9f8", func := "rolodex/rolodexlaw02.SectionTells", spec := "sectionTells", unfollowed := true, recurses := true, apart := false, narrowed := true }
def SectionTellsUptoSaid : Prop := sectionTellsUptoRow.holds Try.pinned (OpenSpec.upto sectionTellsSpec)

/-- 'rolodexlaw02.SectionBack', WHERE WHAT IT READS IS OF BULK AT MOST 1048576: true; the input reads as it did. -/
def sectionBackUptoRow : OpenClaim := { program := "ytneiaioddjabeaa", sum := "b6bfe0fb9f86b1b77c241d4f0e0274e57854a7cb605bef1b698860625fa8e9f8", func := "rolodex/rolodexlaw02.SectionBack", spec := "sectionBack", unfollowed := true, recurses := true, apart := false, narrowed := true }
def SectionBackUptoSaid : Prop := sectionBackUptoRow.holds Try.pinned (OpenSpec.upto sectionBackSpec)

/-- 'rolodexlaw02.SectionOne', WHERE WHAT IT READS IS OF BULK AT MOST 1048576: true; the input reads as it did. -/
def sectionOneUptoRow : OpenClaim := { program := "ytneiaioddjabeaa", sum := "b6bfe0fb9f86b1b77c241d4f0e0274e57854a7cb605bef1b698860625fa8e9f8", func := "rolodex/rolodexlaw02.SectionOne", spec := "sectionOne", unfollowed := true, recurses := true, apart := false, narrowed := true }
def SectionOneUptoSaid : Prop := sectionOneUptoRow.holds Try.pinned (OpenSpec.upto sectionOneSpec)

/-- 'rolodexlaw02.SectionCut', WHERE WHAT IT READS IS OF BULK AT MOST 1048576: true; the input reads as it did. -/
def sectionCutUptoRow : OpenClaim := { program := "ytneiaioddjabeaa", sum := "b6bfe0fb9f86b1b77c241d4f0e0274e57854a7cb605bef1b698860625fa8e9f8", func := "rolodex/rolodexlaw02.SectionCut", spec := "sectionCut", unfollowed := true, recurses := true, apart := false, narrowed := true }
def SectionCutUptoSaid : Prop := sectionCutUptoRow.holds Try.pinned (OpenSpec.upto sectionCutSpec)

/-- 'rolodexlaw02.SectionSums', WHERE WHAT IT READS IS OF BULK AT MOST 1048576: true; the input reads as it did. -/
def sectionSumsUptoRow : OpenClaim := { program := "ytneiaioddjabeaa", sum := "b6bfe0fb9f86b1b77c241d4f0e0274e57854a7cb605bef1b698860625fa8e9f8", func := "rolodex/rolodexlaw02.SectionSums", spec := "sectionSums", unfollowed := true, recurses := true, apart := false, narrowed := true }
def SectionSumsUptoSaid : Prop := sectionSumsUptoRow.holds Try.pinned (OpenSpec.upto sectionSumsSpec)

/-- 'rolodexlaw02.SectionParts', WHERE WHAT IT READS IS OF BULK AT MOST 1048576: true; the input reads as it did. -/
def sectionPartsUptoRow : OpenClaim := { program := "ytneiaioddjabeaa", sum := "b6bfe0fb9f86b1b77c241d4f0e0274e57854a7cb605bef1b698860625fa8e9f8", func := "rolodex/rolodexlaw02.SectionParts", spec := "sectionParts", unfollowed := true, recurses := true, apart := false, narrowed := true }
def SectionPartsUptoSaid : Prop := sectionPartsUptoRow.holds Try.pinned (OpenSpec.upto sectionPartsSpec)

/-- 'rolodexlaw02.SectionLong', WHERE WHAT IT READS IS OF BULK AT MOST 1048576: true; the input reads as it did. -/
def sectionLongUptoRow : OpenClaim := { program := "ytneiaioddjabeaa", sum := "b6bfe0fb9f86b1b77c241d4f0e0274e57854a7cb605bef1b698860625fa8e9f8", func := "rolodex/rolodexlaw02.SectionLong", spec := "sectionLong", unfollowed := true, recurses := true, apart := false, narrowed := true }
def SectionLongUptoSaid : Prop := sectionLongUptoRow.holds Try.pinned (OpenSpec.upto sectionLongSpec)

end Rows
end Go.Proofs.Ytneiaioddjabeaa
