/-
  NARROWER THAN 'FOR EVERY INPUT', by the rows' own cells (each row's printed sentence says how): DeltaTells: laid · DeltaBytes: laid · DeltaMakes: laid · DeltaBack: laid · DeltaParts: laid · DeltaOwn: laid · DeltaLeast: laid · DeltaNone: laid.
  DERIVED. THE GIVEN ROWS OF THIS SEAT. 8 by the template 'for every input the law returns true; each argument reads behind the call as it read before'; 0 by the template 'total and deterministic' (their statements: YtnencoainacpoaaDoorTotals.lean).
  GIVEN WITH THE SEED: the statements are not yours to turn. If you find one false, say at which input.
  Laid BY PROGRAM, IN A SANDBOX (cutbox-rows.mjs): the forced cells as the released guide's own fill.sh prints them over the translation 85da5edc6e7fd82b… (all of the seat's roots in one cut). By AI agents, Wed Nov 11 2026. No macro, syntax, notation, axiom, sorry.
-/
import Derived.Test.YtnencoainacpoaaDoorChecked
import GoSem.Claim
import GoSem.ClaimJoined
import GoSem.ClaimMapViews
import Derived.JoinedTies
import Derived.KernelRfl
namespace Go.Proofs.YtnencoainacpoaaDoor
/- THE CELL 'sum', in the pinned program and in every row, IS THE sha256 OF THE DUMP (.gsa) THAT YtnencoainacpoaaDoorProg.lean LOADS. Nothing in Lean hashes anything: it is a label: what it is worth is what the hold of that sum in a sandbox is worth. -/
noncomputable def Tryd.pinned : Pinned := { name := "ytnencoainacpoaadoor", sum := "85da5edc6e7fd82b43700ed03e65bf7ef48a35967a25d923e4f4b991902d422e", checked := Tryd.checked }
namespace Rows
def none {H : Type} : Left H := { results := [], args := [] }

/- WHAT THE LISTED PACKAGE-LEVEL VARIABLES READ AS WHEN THE CALL BEGINS. Each datum BY PROGRAM (the guide's laid-datum.mjs) off the statement by which the dump's own 'gosem.cut.vars' lays the variable. In a bare row this is a premise. The card (YtnencoainacpoaaDoorCards.lean) ties it to the program's text. -/
def laid_rolodex_sha_squareRoots {H : Type} : DataW H := .agg [.lit (.int .u32 1779033703), .lit (.int .u32 3144134277), .lit (.int .u32 1013904242), .lit (.int .u32 2773480762), .lit (.int .u32 1359893119), .lit (.int .u32 2600822924), .lit (.int .u32 528734635), .lit (.int .u32 1541459225)]
def laid_rolodex_sha_cubeRoots {H : Type} : DataW H := .agg [.lit (.int .u32 1116352408), .lit (.int .u32 1899447441), .lit (.int .u32 3049323471), .lit (.int .u32 3921009573), .lit (.int .u32 961987163), .lit (.int .u32 1508970993), .lit (.int .u32 2453635748), .lit (.int .u32 2870763221), .lit (.int .u32 3624381080), .lit (.int .u32 310598401), .lit (.int .u32 607225278), .lit (.int .u32 1426881987), .lit (.int .u32 1925078388), .lit (.int .u32 2162078206), .lit (.int .u32 2614888103), .lit (.int .u32 3248222580), .lit (.int .u32 3835390401), .lit (.int .u32 4022224774), .lit (.int .u32 264347078), .lit (.int .u32 604807628), .lit (.int .u32 770255983), .lit (.int .u32 1249150122), .lit (.int .u32 1555081692), .lit (.int .u32 1996064986), .lit (.int .u32 2554220882), .lit (.int .u32 2821834349), .lit (.int .u32 2952996808), .lit (.int .u32 3210313671), .lit (.int .u32 3336571891), .lit (.int .u32 3584528711), .lit (.int .u32 113926993), .lit (.int .u32 338241895), .lit (.int .u32 666307205), .lit (.int .u32 773529912), .lit (.int .u32 1294757372), .lit (.int .u32 1396182291), .lit (.int .u32 1695183700), .lit (.int .u32 1986661051), .lit (.int .u32 2177026350), .lit (.int .u32 2456956037), .lit (.int .u32 2730485921), .lit (.int .u32 2820302411), .lit (.int .u32 3259730800), .lit (.int .u32 3345764771), .lit (.int .u32 3516065817), .lit (.int .u32 3600352804), .lit (.int .u32 4094571909), .lit (.int .u32 275423344), .lit (.int .u32 430227734), .lit (.int .u32 506948616), .lit (.int .u32 659060556), .lit (.int .u32 883997877), .lit (.int .u32 958139571), .lit (.int .u32 1322822218), .lit (.int .u32 1537002063), .lit (.int .u32 1747873779), .lit (.int .u32 1955562222), .lit (.int .u32 2024104815), .lit (.int .u32 2227730452), .lit (.int .u32 2361852424), .lit (.int .u32 2428436474), .lit (.int .u32 2756734187), .lit (.int .u32 3204031479), .lit (.int .u32 3329325298)]

/-- 'rolodexlaw11.DeltaTells': WHATEVER THE INPUT: true; the input reads as it did. -/
def deltaTellsSpec : ChangeSpec := { name := "deltaTells", fn := fun _ => fun
  | [d1, d2, d3, d4, d5] => { results := [.lit (.bool true)], args := [d1, d2, d3, d4, d5] }
  | _ => none }
def deltaTellsRow : OpenClaim := { program := "ytnencoainacpoaadoor", sum := "85da5edc6e7fd82b43700ed03e65bf7ef48a35967a25d923e4f4b991902d422e", func := "rolodex/rolodexlaw11.DeltaTells", spec := "deltaTells", inPlace := ["internal/abi.NoEscape"], unfollowed := true, recurses := true, named := ["rolodex/sha.squareRoots", "rolodex/sha.cubeRoots"], plainKeys := false, apart := false, laid := [("rolodex/sha.squareRoots", laid_rolodex_sha_squareRoots), ("rolodex/sha.cubeRoots", laid_rolodex_sha_cubeRoots)] }
def DeltaTellsSaid : Prop := deltaTellsRow.holds Tryd.pinned (OpenSpec.ofChange deltaTellsSpec)

/-- ITS FALSE NEIGHBOUR: 'it returns false'. Refute it at one input. -/
def deltaTellsWrong : ChangeSpec := { name := "deltaTells", fn := fun _ => fun
  | [d1, d2, d3, d4, d5] => { results := [.lit (.bool false)], args := [d1, d2, d3, d4, d5] }
  | _ => none }
def DeltaTellsWrongFalsely : Prop := deltaTellsRow.holds Tryd.pinned (OpenSpec.ofChange deltaTellsWrong)

/-- 'rolodexlaw11.DeltaBytes': WHATEVER THE INPUT: true; the input reads as it did. -/
def deltaBytesSpec : ChangeSpec := { name := "deltaBytes", fn := fun _ => fun
  | [d1, d2] => { results := [.lit (.bool true)], args := [d1, d2] }
  | _ => none }
def deltaBytesRow : OpenClaim := { program := "ytnencoainacpoaadoor", sum := "85da5edc6e7fd82b43700ed03e65bf7ef48a35967a25d923e4f4b991902d422e", func := "rolodex/rolodexlaw11.DeltaBytes", spec := "deltaBytes", inPlace := ["internal/abi.NoEscape"], unfollowed := true, recurses := true, named := ["rolodex/sha.squareRoots", "rolodex/sha.cubeRoots"], plainKeys := false, apart := false, laid := [("rolodex/sha.squareRoots", laid_rolodex_sha_squareRoots), ("rolodex/sha.cubeRoots", laid_rolodex_sha_cubeRoots)] }
def DeltaBytesSaid : Prop := deltaBytesRow.holds Tryd.pinned (OpenSpec.ofChange deltaBytesSpec)

/-- ITS FALSE NEIGHBOUR: 'it returns false'. Refute it at one input. -/
def deltaBytesWrong : ChangeSpec := { name := "deltaBytes", fn := fun _ => fun
  | [d1, d2] => { results := [.lit (.bool false)], args := [d1, d2] }
  | _ => none }
def DeltaBytesWrongFalsely : Prop := deltaBytesRow.holds Tryd.pinned (OpenSpec.ofChange deltaBytesWrong)

/-- 'rolodexlaw11.DeltaMakes': WHATEVER THE INPUT: true; the input reads as it did. -/
def deltaMakesSpec : ChangeSpec := { name := "deltaMakes", fn := fun _ => fun
  | [d1, d2] => { results := [.lit (.bool true)], args := [d1, d2] }
  | _ => none }
def deltaMakesRow : OpenClaim := { program := "ytnencoainacpoaadoor", sum := "85da5edc6e7fd82b43700ed03e65bf7ef48a35967a25d923e4f4b991902d422e", func := "rolodex/rolodexlaw11.DeltaMakes", spec := "deltaMakes", inPlace := ["internal/abi.NoEscape"], unfollowed := true, recurses := true, named := ["rolodex/sha.squareRoots", "rolodex/sha.cubeRoots"], plainKeys := false, apart := false, laid := [("rolodex/sha.squareRoots", laid_rolodex_sha_squareRoots), ("rolodex/sha.cubeRoots", laid_rolodex_sha_cubeRoots)] }
def DeltaMakesSaid : Prop := deltaMakesRow.holds Tryd.pinned (OpenSpec.ofChange deltaMakesSpec)

/-- ITS FALSE NEIGHBOUR: 'it returns false'. Refute it at one input. -/
def deltaMakesWrong : ChangeSpec := { name := "deltaMakes", fn := fun _ => fun
  | [d1, d2] => { results := [.lit (.bool false)], args := [d1, d2] }
  | _ => none }
def DeltaMakesWrongFalsely : Prop := deltaMakesRow.holds Tryd.pinned (OpenSpec.ofChange deltaMakesWrong)

/-- 'rolodexlaw11.DeltaBack': WHATEVER THE INPUT: true; the input reads as it did. -/
def deltaBackSpec : ChangeSpec := { name := "deltaBack", fn := fun _ => fun
  | [d1, d2] => { results := [.lit (.bool true)], args := [d1, d2] }
  | _ => none }
def deltaBackRow : OpenClaim := { program := "ytnencoainacpoaadoor", sum := "85da5edc6e7fd82b43700ed03e65bf7ef48a35967a25d923e4f4b991902d422e", func := "rolodex/rolodexlaw11.DeltaBack", spec := "deltaBack", inPlace := ["internal/abi.NoEscape"], unfollowed := true, recurses := true, named := ["rolodex/sha.squareRoots", "rolodex/sha.cubeRoots"], plainKeys := false, apart := false, laid := [("rolodex/sha.squareRoots", laid_rolodex_sha_squareRoots), ("rolodex/sha.cubeRoots", laid_rolodex_sha_cubeRoots)] }
def DeltaBackSaid : Prop := deltaBackRow.holds Tryd.pinned (OpenSpec.ofChange deltaBackSpec)

/-- ITS FALSE NEIGHBOUR: 'it returns false'. Refute it at one input. -/
def deltaBackWrong : ChangeSpec := { name := "deltaBack", fn := fun _ => fun
  | [d1, d2] => { results := [.lit (.bool false)], args := [d1, d2] }
  | _ => none }
def DeltaBackWrongFalsely : Prop := deltaBackRow.holds Tryd.pinned (OpenSpec.ofChange deltaBackWrong)

/-- 'rolodexlaw11.DeltaParts': WHATEVER THE INPUT: true; the input reads as it did. -/
def deltaPartsSpec : ChangeSpec := { name := "deltaParts", fn := fun _ => fun
  | [d1, d2, d3] => { results := [.lit (.bool true)], args := [d1, d2, d3] }
  | _ => none }
def deltaPartsRow : OpenClaim := { program := "ytnencoainacpoaadoor", sum := "85da5edc6e7fd82b43700ed03e65bf7ef48a35967a25d923e4f4b991902d422e", func := "rolodex/rolodexlaw11.DeltaParts", spec := "deltaParts", inPlace := ["internal/abi.NoEscape"], unfollowed := true, recurses := true, named := ["rolodex/sha.squareRoots", "rolodex/sha.cubeRoots"], plainKeys := false, apart := false, laid := [("rolodex/sha.squareRoots", laid_rolodex_sha_squareRoots), ("rolodex/sha.cubeRoots", laid_rolodex_sha_cubeRoots)] }
def DeltaPartsSaid : Prop := deltaPartsRow.holds Tryd.pinned (OpenSpec.ofChange deltaPartsSpec)

/-- ITS FALSE NEIGHBOUR: 'it returns false'. Refute it at one input. -/
def deltaPartsWrong : ChangeSpec := { name := "deltaParts", fn := fun _ => fun
  | [d1, d2, d3] => { results := [.lit (.bool false)], args := [d1, d2, d3] }
  | _ => none }
def DeltaPartsWrongFalsely : Prop := deltaPartsRow.holds Tryd.pinned (OpenSpec.ofChange deltaPartsWrong)

/-- 'rolodexlaw11.DeltaOwn': WHATEVER THE INPUT: true; the input reads as it did. -/
def deltaOwnSpec : ChangeSpec := { name := "deltaOwn", fn := fun _ => fun
  | [d] => { results := [.lit (.bool true)], args := [d] }
  | _ => none }
def deltaOwnRow : OpenClaim := { program := "ytnencoainacpoaadoor", sum := "85da5edc6e7fd82b43700ed03e65bf7ef48a35967a25d923e4f4b991902d422e", func := "rolodex/rolodexlaw11.DeltaOwn", spec := "deltaOwn", inPlace := ["internal/abi.NoEscape"], unfollowed := true, recurses := true, named := ["rolodex/sha.squareRoots", "rolodex/sha.cubeRoots"], plainKeys := false, apart := false, laid := [("rolodex/sha.squareRoots", laid_rolodex_sha_squareRoots), ("rolodex/sha.cubeRoots", laid_rolodex_sha_cubeRoots)] }
def DeltaOwnSaid : Prop := deltaOwnRow.holds Tryd.pinned (OpenSpec.ofChange deltaOwnSpec)

/-- ITS FALSE NEIGHBOUR: 'it returns false'. Refute it at one input. -/
def deltaOwnWrong : ChangeSpec := { name := "deltaOwn", fn := fun _ => fun
  | [d] => { results := [.lit (.bool false)], args := [d] }
  | _ => none }
def DeltaOwnWrongFalsely : Prop := deltaOwnRow.holds Tryd.pinned (OpenSpec.ofChange deltaOwnWrong)

/-- 'rolodexlaw11.DeltaLeast': WHATEVER THE INPUT: true; the input reads as it did. -/
def deltaLeastSpec : ChangeSpec := { name := "deltaLeast", fn := fun _ => fun
  | [d1, d2] => { results := [.lit (.bool true)], args := [d1, d2] }
  | _ => none }
def deltaLeastRow : OpenClaim := { program := "ytnencoainacpoaadoor", sum := "85da5edc6e7fd82b43700ed03e65bf7ef48a35967a25d923e4f4b991902d422e", func := "rolodex/rolodexlaw11.DeltaLeast", spec := "deltaLeast", inPlace := ["internal/abi.NoEscape"], unfollowed := true, recurses := true, named := ["rolodex/sha.squareRoots", "rolodex/sha.cubeRoots"], plainKeys := false, apart := false, laid := [("rolodex/sha.squareRoots", laid_rolodex_sha_squareRoots), ("rolodex/sha.cubeRoots", laid_rolodex_sha_cubeRoots)] }
def DeltaLeastSaid : Prop := deltaLeastRow.holds Tryd.pinned (OpenSpec.ofChange deltaLeastSpec)

/-- ITS FALSE NEIGHBOUR: 'it returns false'. Refute it at one input. -/
def deltaLeastWrong : ChangeSpec := { name := "deltaLeast", fn := fun _ => fun
  | [d1, d2] => { results := [.lit (.bool false)], args := [d1, d2] }
  | _ => none }
def DeltaLeastWrongFalsely : Prop := deltaLeastRow.holds Tryd.pinned (OpenSpec.ofChange deltaLeastWrong)

/-- 'rolodexlaw11.DeltaNone': WHATEVER THE INPUT: true; the input reads as it did. -/
def deltaNoneSpec : ChangeSpec := { name := "deltaNone", fn := fun _ => fun
  | [d1, d2] => { results := [.lit (.bool true)], args := [d1, d2] }
  | _ => none }
def deltaNoneRow : OpenClaim := { program := "ytnencoainacpoaadoor", sum := "85da5edc6e7fd82b43700ed03e65bf7ef48a35967a25d923e4f4b991902d422e", func := "rolodex/rolodexlaw11.DeltaNone", spec := "deltaNone", inPlace := ["internal/abi.NoEscape"], unfollowed := true, recurses := true, named := ["rolodex/sha.squareRoots", "rolodex/sha.cubeRoots"], plainKeys := false, apart := false, laid := [("rolodex/sha.squareRoots", laid_rolodex_sha_squareRoots), ("rolodex/sha.cubeRoots", laid_rolodex_sha_cubeRoots)] }
def DeltaNoneSaid : Prop := deltaNoneRow.holds Tryd.pinned (OpenSpec.ofChange deltaNoneSpec)

/-- ITS FALSE NEIGHBOUR: 'it returns false'. Refute it at one input. -/
def deltaNoneWrong : ChangeSpec := { name := "deltaNone", fn := fun _ => fun
  | [d1, d2] => { results := [.lit (.bool false)], args := [d1, d2] }
  | _ => none }
def DeltaNoneWrongFalsely : Prop := deltaNoneRow.holds Tryd.pinned (OpenSpec.ofChange deltaNoneWrong)

/- THE SECOND FORM. 'bulk': how many values and letters a reading holds, each counted each time it is reached (what is shared counts as often as it is met; a slice's spare places count too). A statement '..UptoSaid' is the law's where the arguments, and the package variables that the reading takes, are together of bulk at most 1048576: NARROWER than '..Said'. Prove '..Said' where nothing that the law and all that it calls make is longer than what came in: it says more and counts as full. Else prove '..UptoSaid'. A law counts once. -/
mutual
def uptoBulk {H : Type} : DataW H → Nat
  | .lit (.string bytes) => bytes.length + 1
  | .lit _ => 1
  | .nil => 1
  | .ptr d => uptoBulk d + 1
  | .slice elems spare => uptoBulkAll elems + uptoBulkAll spare + 1
  | .agg parts => uptoBulkAll parts + 1
  | .iface _ d => uptoBulk d + 1
  | .map entries => uptoBulkEntries entries + 1
  | .held _ => 1
def uptoBulkAll {H : Type} : List (DataW H) → Nat
  | [] => 0
  | d :: r => uptoBulk d + uptoBulkAll r
def uptoBulkEntries {H : Type} : List (Lit × DataW H) → Nat
  | [] => 0
  | x :: r => uptoBulkEntry x + uptoBulkEntries r
def uptoBulkEntry {H : Type} : Lit × DataW H → Nat
  | (.string bytes, d) => bytes.length + uptoBulk d + 1
  | (_, d) => uptoBulk d + 1
 end
def uptoSmall : (H : Type) → List (DataW H) → Bool := fun _ ds => decide (uptoBulkAll ds ≤ 1048576)
def OpenSpec.upto (s : _root_.Go.ChangeSpec) : _root_.Go.OpenSpec := { _root_.Go.OpenSpec.ofChange s with cond := some uptoSmall }

/-- 'rolodexlaw11.DeltaTells', WHERE WHAT IT READS IS OF BULK AT MOST 1048576: true; the input reads as it did. -/
def deltaTellsUptoRow : OpenClaim := { program := "ytnencoainacpoaadoor", sum := "85da5edc6e7fd82b43700ed03e65bf7ef48a35967a25d923e4f4b991902d422e", func := "rolodex/rolodexlaw11.DeltaTells", spec := "deltaTells", inPlace := ["internal/abi.NoEscape"], unfollowed := true, recurses := true, named := ["rolodex/sha.squareRoots", "rolodex/sha.cubeRoots"], plainKeys := false, apart := false, laid := [("rolodex/sha.squareRoots", laid_rolodex_sha_squareRoots), ("rolodex/sha.cubeRoots", laid_rolodex_sha_cubeRoots)], narrowed := true }
def DeltaTellsUptoSaid : Prop := deltaTellsUptoRow.holds Tryd.pinned (OpenSpec.upto deltaTellsSpec)

/-- 'rolodexlaw11.DeltaBytes', WHERE WHAT IT READS IS OF BULK AT MOST 1048576: true; the input reads as it did. -/
def deltaBytesUptoRow : OpenClaim := { program := "ytnencoainacpoaadoor", sum := "85da5edc6e7fd82b43700ed03e65bf7ef48a35967a25d923e4f4b991902d422e", func := "rolodex/rolodexlaw11.DeltaBytes", spec := "deltaBytes", inPlace := ["internal/abi.NoEscape"], unfollowed := true, recurses := true, named := ["rolodex/sha.squareRoots", "rolodex/sha.cubeRoots"], plainKeys := false, apart := false, laid := [("rolodex/sha.squareRoots", laid_rolodex_sha_squareRoots), ("rolodex/sha.cubeRoots", laid_rolodex_sha_cubeRoots)], narrowed := true }
def DeltaBytesUptoSaid : Prop := deltaBytesUptoRow.holds Tryd.pinned (OpenSpec.upto deltaBytesSpec)

/-- 'rolodexlaw11.DeltaMakes', WHERE WHAT IT READS IS OF BULK AT MOST 1048576: true; the input reads as it did. -/
def deltaMakesUptoRow : OpenClaim := { program := "ytnencoainacpoaadoor", sum := "85da5edc6e7fd82b43700ed03e65bf7ef48a35967a25d923e4f4b991902d422e", func := "rolodex/rolodexlaw11.DeltaMakes", spec := "deltaMakes", inPlace := ["internal/abi.NoEscape"], unfollowed := true, recurses := true, named := ["rolodex/sha.squareRoots", "rolodex/sha.cubeRoots"], plainKeys := false, apart := false, laid := [("rolodex/sha.squareRoots", laid_rolodex_sha_squareRoots), ("rolodex/sha.cubeRoots", laid_rolodex_sha_cubeRoots)], narrowed := true }
def DeltaMakesUptoSaid : Prop := deltaMakesUptoRow.holds Tryd.pinned (OpenSpec.upto deltaMakesSpec)

/-- 'rolodexlaw11.DeltaBack', WHERE WHAT IT READS IS OF BULK AT MOST 1048576: true; the input reads as it did. -/
def deltaBackUptoRow : OpenClaim := { program := "ytnencoainacpoaadoor", sum := "85da5edc6e7fd82b43700ed03e65bf7ef48a35967a25d923e4f4b991902d422e", func := "rolodex/rolodexlaw11.DeltaBack", spec := "deltaBack", inPlace := ["internal/abi.NoEscape"], unfollowed := true, recurses := true, named := ["rolodex/sha.squareRoots", "rolodex/sha.cubeRoots"], plainKeys := false, apart := false, laid := [("rolodex/sha.squareRoots", laid_rolodex_sha_squareRoots), ("rolodex/sha.cubeRoots", laid_rolodex_sha_cubeRoots)], narrowed := true }
def DeltaBackUptoSaid : Prop := deltaBackUptoRow.holds Tryd.pinned (OpenSpec.upto deltaBackSpec)

/-- 'rolodexlaw11.DeltaParts', WHERE WHAT IT READS IS OF BULK AT MOST 1048576: true; the input reads as it did. -/
def deltaPartsUptoRow : OpenClaim := { program := "ytnencoainacpoaadoor", sum := "85da5edc6e7fd82b43700ed03e65bf7ef48a35967a25d923e4f4b991902d422e", func := "rolodex/rolodexlaw11.DeltaParts", spec := "deltaParts", inPlace := ["internal/abi.NoEscape"], unfollowed := true, recurses := true, named := ["rolodex/sha.squareRoots", "rolodex/sha.cubeRoots"], plainKeys := false, apart := false, laid := [("rolodex/sha.squareRoots", laid_rolodex_sha_squareRoots), ("rolodex/sha.cubeRoots", laid_rolodex_sha_cubeRoots)], narrowed := true }
def DeltaPartsUptoSaid : Prop := deltaPartsUptoRow.holds Tryd.pinned (OpenSpec.upto deltaPartsSpec)

/-- 'rolodexlaw11.DeltaOwn', WHERE WHAT IT READS IS OF BULK AT MOST 1048576: true; the input reads as it did. -/
def deltaOwnUptoRow : OpenClaim := { program := "ytnencoainacpoaadoor", sum := "85da5edc6e7fd82b43700ed03e65bf7ef48a35967a25d923e4f4b991902d422e", func := "rolodex/rolodexlaw11.DeltaOwn", spec := "deltaOwn", inPlace := ["internal/abi.NoEscape"], unfollowed := true, recurses := true, named := ["rolodex/sha.squareRoots", "rolodex/sha.cubeRoots"], plainKeys := false, apart := false, laid := [("rolodex/sha.squareRoots", laid_rolodex_sha_squareRoots), ("rolodex/sha.cubeRoots", laid_rolodex_sha_cubeRoots)], narrowed := true }
def DeltaOwnUptoSaid : Prop := deltaOwnUptoRow.holds Tryd.pinned (OpenSpec.upto deltaOwnSpec)

/-- 'rolodexlaw11.DeltaLeast', WHERE WHAT IT READS IS OF BULK AT MOST 1048576: true; the input reads as it did. -/
def deltaLeastUptoRow : OpenClaim := { program := "ytnencoainacpoaadoor", sum := "85da5edc6e7fd82b43700ed03e65bf7ef48a35967a25d923e4f4b991902d422e", func := "rolodex/rolodexlaw11.DeltaLeast", spec := "deltaLeast", inPlace := ["internal/abi.NoEscape"], unfollowed := true, recurses := true, named := ["rolodex/sha.squareRoots", "rolodex/sha.cubeRoots"], plainKeys := false, apart := false, laid := [("rolodex/sha.squareRoots", laid_rolodex_sha_squareRoots), ("rolodex/sha.cubeRoots", laid_rolodex_sha_cubeRoots)], narrowed := true }
def DeltaLeastUptoSaid : Prop := deltaLeastUptoRow.holds Tryd.pinned (OpenSpec.upto deltaLeastSpec)

/-- 'rolodexlaw11.DeltaNone', WHERE WHAT IT READS IS OF BULK AT MOST 1048576: true; the input reads as it did. -/
def deltaNoneUptoRow : OpenClaim := { program := "ytnencoainacpoaadoor", sum := "85da5edc6e7fd82b43700ed03e65bf7ef48a35967a25d923e4f4b991902d422e", func := "rolodex/rolodexlaw11.DeltaNone", spec := "deltaNone", inPlace := ["internal/abi.NoEscape"], unfollowed := true, recurses := true, named := ["rolodex/sha.squareRoots", "rolodex/sha.cubeRoots"], plainKeys := false, apart := false, laid := [("rolodex/sha.squareRoots", laid_rolodex_sha_squareRoots), ("rolodex/sha.cubeRoots", laid_rolodex_sha_cubeRoots)], narrowed := true }
def DeltaNoneUptoSaid : Prop := deltaNoneUptoRow.holds Tryd.pinned (OpenSpec.upto deltaNoneSpec)

end Rows
end Go.Proofs.YtnencoainacpoaaDoor
