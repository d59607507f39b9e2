/-
  No cell of these rows narrows 'for every input' (looked for: loops, veiled, ifaces, maps, wideKeys, modest, calm, conditions, laid).
  DERIVED. THE GIVEN ROWS OF THIS SEAT. 6 by the template 'for every input the law returns true; each argument reads behind the call as it read before'; 0 by the template 'total and deterministic' (their statements: YtmhdidnahikmbaaTotals.lean).
  GIVEN WITH THE SEED: the statements are not yours to turn. If you find one false, say at which input.
  Laid BY PROGRAM, IN A SANDBOX (cutbox-rows.mjs): the forced cells as the released guide's own fill.sh prints them over the translation e755c0d839a9d6b4… (all of the seat's roots in one cut). By AI agents, Wed Nov 11 2026. No macro, syntax, notation, axiom, sorry.
-/
import Derived.Test.YtmhdidnahikmbaaChecked
import GoSem.Claim
import GoSem.ClaimJoined
import GoSem.ClaimMapViews
import Derived.JoinedTies
import Derived.KernelRfl
namespace Go.Proofs.Ytmhdidnahikmbaa
/- THE CELL 'sum', in the pinned program and in every row, IS THE sha256 OF THE DUMP (.gsa) THAT YtmhdidnahikmbaaProg.lean LOADS. Nothing in Lean hashes anything: it is a label: what it is worth is what the hold of that sum in a sandbox is worth. -/
noncomputable def Try.pinned : Pinned := { name := "ytmhdidnahikmbaa", sum := "e755c0d839a9d6b44358b36955c224183a7194ea7d87eaf45688b0cf5b46c6b0", checked := Try.checked }
namespace Rows
def none {H : Type} : Left H := { results := [], args := [] }

/-- 'rolodexlaw09.RollTells': WHATEVER THE INPUT: true; the input reads as it did. -/
def rollTellsSpec : ChangeSpec := { name := "rollTells", fn := fun _ => fun
  | [d1, d2, d3, d4, d5] => { results := [.lit (.bool true)], args := [d1, d2, d3, d4, d5] }
  | _ => none }
def rollTellsRow : OpenClaim := { program := "ytmhdidnahikmbaa", sum := "e755c0d839a9d6b44358b36955c224183a7194ea7d87eaf45688b0cf5b46c6b0", func := "rolodex/rolodexlaw09.RollTells", spec := "rollTells", unfollowed := true, recurses := true, apart := false }
def RollTellsSaid : Prop := rollTellsRow.holds Try.pinned (OpenSpec.ofChange rollTellsSpec)

/-- ITS FALSE NEIGHBOUR: 'it returns false'. Refute it at one input. -/
def rollTellsWrong : ChangeSpec := { name := "rollTells", fn := fun _ => fun
  | [d1, d2, d3, d4, d5] => { results := [.lit (.bool false)], args := [d1, d2, d3, d4, d5] }
  | _ => none }
def RollTellsWrongFalsely : Prop := rollTellsRow.holds Try.pinned (OpenSpec.ofChange rollTellsWrong)

/-- 'rolodexlaw09.RollNext': WHATEVER THE INPUT: true; the input reads as it did. -/
def rollNextSpec : ChangeSpec := { name := "rollNext", fn := fun _ => fun
  | [d1, d2, d3] => { results := [.lit (.bool true)], args := [d1, d2, d3] }
  | _ => none }
def rollNextRow : OpenClaim := { program := "ytmhdidnahikmbaa", sum := "e755c0d839a9d6b44358b36955c224183a7194ea7d87eaf45688b0cf5b46c6b0", func := "rolodex/rolodexlaw09.RollNext", spec := "rollNext", unfollowed := true, recurses := true, apart := false }
def RollNextSaid : Prop := rollNextRow.holds Try.pinned (OpenSpec.ofChange rollNextSpec)

/-- ITS FALSE NEIGHBOUR: 'it returns false'. Refute it at one input. -/
def rollNextWrong : ChangeSpec := { name := "rollNext", fn := fun _ => fun
  | [d1, d2, d3] => { results := [.lit (.bool false)], args := [d1, d2, d3] }
  | _ => none }
def RollNextWrongFalsely : Prop := rollNextRow.holds Try.pinned (OpenSpec.ofChange rollNextWrong)

/-- 'rolodexlaw09.RollAll': WHATEVER THE INPUT: true; the input reads as it did. -/
def rollAllSpec : ChangeSpec := { name := "rollAll", fn := fun _ => fun
  | [d1, d2] => { results := [.lit (.bool true)], args := [d1, d2] }
  | _ => none }
def rollAllRow : OpenClaim := { program := "ytmhdidnahikmbaa", sum := "e755c0d839a9d6b44358b36955c224183a7194ea7d87eaf45688b0cf5b46c6b0", func := "rolodex/rolodexlaw09.RollAll", spec := "rollAll", unfollowed := true, recurses := true, apart := false }
def RollAllSaid : Prop := rollAllRow.holds Try.pinned (OpenSpec.ofChange rollAllSpec)

/-- ITS FALSE NEIGHBOUR: 'it returns false'. Refute it at one input. -/
def rollAllWrong : ChangeSpec := { name := "rollAll", fn := fun _ => fun
  | [d1, d2] => { results := [.lit (.bool false)], args := [d1, d2] }
  | _ => none }
def RollAllWrongFalsely : Prop := rollAllRow.holds Try.pinned (OpenSpec.ofChange rollAllWrong)

/-- 'rolodexlaw09.RollJoin': WHATEVER THE INPUT: true; the input reads as it did. -/
def rollJoinSpec : ChangeSpec := { name := "rollJoin", fn := fun _ => fun
  | [d1, d2] => { results := [.lit (.bool true)], args := [d1, d2] }
  | _ => none }
def rollJoinRow : OpenClaim := { program := "ytmhdidnahikmbaa", sum := "e755c0d839a9d6b44358b36955c224183a7194ea7d87eaf45688b0cf5b46c6b0", func := "rolodex/rolodexlaw09.RollJoin", spec := "rollJoin", unfollowed := true, recurses := true, apart := false }
def RollJoinSaid : Prop := rollJoinRow.holds Try.pinned (OpenSpec.ofChange rollJoinSpec)

/-- ITS FALSE NEIGHBOUR: 'it returns false'. Refute it at one input. -/
def rollJoinWrong : ChangeSpec := { name := "rollJoin", fn := fun _ => fun
  | [d1, d2] => { results := [.lit (.bool false)], args := [d1, d2] }
  | _ => none }
def RollJoinWrongFalsely : Prop := rollJoinRow.holds Try.pinned (OpenSpec.ofChange rollJoinWrong)

/-- 'rolodexlaw09.RollBack': WHATEVER THE INPUT: true; the input reads as it did. -/
def rollBackSpec : ChangeSpec := { name := "rollBack", fn := fun _ => fun
  | [d1, d2] => { results := [.lit (.bool true)], args := [d1, d2] }
  | _ => none }
def rollBackRow : OpenClaim := { program := "ytmhdidnahikmbaa", sum := "e755c0d839a9d6b44358b36955c224183a7194ea7d87eaf45688b0cf5b46c6b0", func := "rolodex/rolodexlaw09.RollBack", spec := "rollBack", unfollowed := true, recurses := true, apart := false }
def RollBackSaid : Prop := rollBackRow.holds Try.pinned (OpenSpec.ofChange rollBackSpec)

/-- ITS FALSE NEIGHBOUR: 'it returns false'. Refute it at one input. -/
def rollBackWrong : ChangeSpec := { name := "rollBack", fn := fun _ => fun
  | [d1, d2] => { results := [.lit (.bool false)], args := [d1, d2] }
  | _ => none }
def RollBackWrongFalsely : Prop := rollBackRow.holds Try.pinned (OpenSpec.ofChange rollBackWrong)

/-- 'rolodexlaw09.RollOrder': WHATEVER THE INPUT: true; the input reads as it did. -/
def rollOrderSpec : ChangeSpec := { name := "rollOrder", fn := fun _ => fun
  | [d1, d2, d3] => { results := [.lit (.bool true)], args := [d1, d2, d3] }
  | _ => none }
def rollOrderRow : OpenClaim := { program := "ytmhdidnahikmbaa", sum := "e755c0d839a9d6b44358b36955c224183a7194ea7d87eaf45688b0cf5b46c6b0", func := "rolodex/rolodexlaw09.RollOrder", spec := "rollOrder", unfollowed := true, recurses := true, apart := false }
def RollOrderSaid : Prop := rollOrderRow.holds Try.pinned (OpenSpec.ofChange rollOrderSpec)

/-- ITS FALSE NEIGHBOUR: 'it returns false'. Refute it at one input. -/
def rollOrderWrong : ChangeSpec := { name := "rollOrder", fn := fun _ => fun
  | [d1, d2, d3] => { results := [.lit (.bool false)], args := [d1, d2, d3] }
  | _ => none }
def RollOrderWrongFalsely : Prop := rollOrderRow.holds Try.pinned (OpenSpec.ofChange rollOrderWrong)

/- THE SECOND FORM. 'bulk': how many values and letters a reading holds, each counted each time it is reached (what is shared counts as often as it is met; a slice's spare places count too). A statement '..UptoSaid' is the law's where the arguments, and the package variables that the reading takes, are together of bulk at most 1048576: NARROWER than '..Said'. Prove '..Said' where nothing that the law and all that it calls make is longer than what came in: it says more and counts as full. Else prove '..UptoSaid'. A law counts once. -/
mutual
def uptoBulk {H : Type} : DataW H → Nat
  | .lit (.string bytes) => bytes.length + 1
  | .lit _ => 1
  | .nil => 1
  | .ptr d => uptoBulk d + 1
  | .slice elems spare => uptoBulkAll elems + uptoBulkAll spare + 1
  | .agg parts => uptoBulkAll parts + 1
  | .iface _ d => uptoBulk d + 1
  | .map entries => uptoBulkEntries entries + 1
  | .held _ => 1
def uptoBulkAll {H : Type} : List (DataW H) → Nat
  | [] => 0
  | d :: r => uptoBulk d + uptoBulkAll r
def uptoBulkEntries {H : Type} : List (Lit × DataW H) → Nat
  | [] => 0
  | x :: r => uptoBulkEntry x + uptoBulkEntries r
def uptoBulkEntry {H : Type} : Lit × DataW H → Nat
  | (.string bytes, d) => bytes.length + uptoBulk d + 1
  | (_, d) => uptoBulk d + 1
 end
def uptoSmall : (H : Type) → List (DataW H) → Bool := fun _ ds => decide (uptoBulkAll ds ≤ 1048576)
def OpenSpec.upto (s : _root_.Go.ChangeSpec) : _root_.Go.OpenSpec := { _root_.Go.OpenSpec.ofChange s with cond := some uptoSmall }

/-- 'rolodexlaw09.RollTells', WHERE WHAT IT READS IS OF BULK AT MOST 1048576: true; the input reads as it did. -/
def rollTellsUptoRow : OpenClaim := { program := "ytmhdidnahikmbaa", sum := "e755c0d839a9d6b44358b36955c224183a7194ea7d87eaf45688b0cf5b46c6b0", func := "rolodex/rolodexlaw09.RollTells", spec := "rollTells", unfollowed := true, recurses := true, apart := false, narrowed := true }
def RollTellsUptoSaid : Prop := rollTellsUptoRow.holds Try.pinned (OpenSpec.upto rollTellsSpec)

/-- 'rolodexlaw09.RollNext', WHERE WHAT IT READS IS OF BULK AT MOST 1048576: true; the input reads as it did. -/
def rollNextUptoRow : OpenClaim := { program := "ytmhdidnahikmbaa", sum := "e755c0d839a9d6b44358b36955c224183a7194ea7d87eaf45688b0cf5b46c6b0", func := "rolodex/rolodexlaw09.RollNext", spec := "rollNext", unfollowed := true, recurses := true, apart := false, narrowed := true }
def RollNextUptoSaid : Prop := rollNextUptoRow.holds Try.pinned (OpenSpec.upto rollNextSpec)

/-- 'rolodexlaw09.RollAll', WHERE WHAT IT READS IS OF BULK AT MOST 1048576: true; the input reads as it did. -/
def rollAllUptoRow : OpenClaim := { program := "ytmhdidnahikmbaa", sum := "e755c0d839a9d6b44358b36955c224183a7194ea7d87eaf45688b0cf5b46c6b0", func := "rolodex/rolodexlaw09.RollAll", spec := "rollAll", unfollowed := true, recurses := true, apart := false, narrowed := true }
def RollAllUptoSaid : Prop := rollAllUptoRow.holds Try.pinned (OpenSpec.upto rollAllSpec)

/-- 'rolodexlaw09.RollJoin', WHERE WHAT IT READS IS OF BULK AT MOST 1048576: true; the input reads as it did. -/
def rollJoinUptoRow : OpenClaim := { program := "ytmhdidnahikmbaa", sum := "e755c0d839a9d6b44358b36955c224183a7194ea7d87eaf45688b0cf5b46c6b0", func := "rolodex/rolodexlaw09.RollJoin", spec := "rollJoin", unfollowed := true, recurses := true, apart := false, narrowed := true }
def RollJoinUptoSaid : Prop := rollJoinUptoRow.holds Try.pinned (OpenSpec.upto rollJoinSpec)

/-- 'rolodexlaw09.RollBack', WHERE WHAT IT READS IS OF BULK AT MOST 1048576: true; the input reads as it did. -/
def rollBackUptoRow : OpenClaim := { program := "ytmhdidnahikmbaa", sum := "e755c0d839a9d6b44358b36955c224183a7194ea7d87eaf45688b0cf5b46c6b0", func := "rolodex/rolodexlaw09.RollBack", spec := "rollBack", unfollowed := true, recurses := true, apart := false, narrowed := true }
def RollBackUptoSaid : Prop := rollBackUptoRow.holds Try.pinned (OpenSpec.upto rollBackSpec)

/-- 'rolodexlaw09.RollOrder', WHERE WHAT IT READS IS OF BULK AT MOST 1048576: true; the input reads as it did. -/
def rollOrderUptoRow : OpenClaim := { program := "ytmhdidnahikmbaa", sum := "e755c0d839a9d6b44358b36955c224183a7194ea7d87eaf45688b0cf5b46c6b0", func := "rolodex/rolodexlaw09.RollOrder", spec := "rollOrder", unfollowed := true, recurses := true, apart := false, narrowed := true }
def RollOrderUptoSaid : Prop := rollOrderUptoRow.holds Try.pinned (OpenSpec.upto rollOrderSpec)

end Rows
end Go.Proofs.Ytmhdidnahikmbaa
