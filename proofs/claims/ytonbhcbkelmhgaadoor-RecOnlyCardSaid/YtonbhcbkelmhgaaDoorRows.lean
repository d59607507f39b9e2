/-
  NARROWER THAN 'FOR EVERY INPUT', by the rows' own cells (each row's printed sentence says how): CellTells: laid · CellBack: laid · CellLists: laid · RecTells: laid · RecJoins: laid · RecOrder: laid · RecCells: laid · RecDead: laid · RecOnly: laid · RecWrong: laid.
  DERIVED. THE GIVEN ROWS OF THIS SEAT. 10 by the template 'for every input the law returns true; each argument reads behind the call as it read before'; 0 by the template 'total and deterministic' (their statements: YtonbhcbkelmhgaaDoorTotals.lean).
  GIVEN WITH THE SEED: the statements are not yours to turn. If you find one false, say at which input.
  Laid BY PROGRAM, IN A SANDBOX (cutbox-rows.mjs): the forced cells as the released guide's own fill.sh prints them over the translation daabec7204b8241d… (all of the seat's roots in one cut). By AI agents, Wed Nov 11 2026. No macro, syntax, notation, axiom, sorry.
-/
import Derived.Test.YtonbhcbkelmhgaaDoorChecked
import GoSem.Claim
import GoSem.ClaimJoined
import GoSem.ClaimMapViews
import Derived.JoinedTies
import Derived.KernelRfl
namespace Go.Proofs.YtonbhcbkelmhgaaDoor
/- THE CELL 'sum', in the pinned program and in every row, IS THE sha256 OF THE DUMP (.gsa) THAT YtonbhcbkelmhgaaDoorProg.lean LOADS. Nothing in Lean hashes anything: it is a label: what it is worth is what the hold of that sum in a sandbox is worth. -/
noncomputable def Tryd.pinned : Pinned := { name := "ytonbhcbkelmhgaadoor", sum := "daabec7204b8241dbabb43a1828ea390aeb261c66bf48074e659d472217476fe", checked := Tryd.checked }
namespace Rows
def none {H : Type} : Left H := { results := [], args := [] }

/- WHAT THE LISTED PACKAGE-LEVEL VARIABLES READ AS WHEN THE CALL BEGINS. Each datum BY PROGRAM (the guide's laid-datum.mjs) off the statement by which the dump's own 'gosem.cut.vars' lays the variable. In a bare row this is a premise. The card (YtonbhcbkelmhgaaDoorCards.lean) ties it to the program's text. -/
def laid_rolodex_sha_squareRoots {H : Type} : DataW H := .agg [.lit (.int .u32 1779033703), .lit (.int .u32 3144134277), .lit (.int .u32 1013904242), .lit (.int .u32 2773480762), .lit (.int .u32 1359893119), .lit (.int .u32 2600822924), .lit (.int .u32 528734635), .lit (.int .u32 1541459225)]
def laid_rolodex_sha_cubeRoots {H : Type} : DataW H := .agg [.lit (.int .u32 1116352408), .lit (.int .u32 1899447441), .lit (.int .u32 3049323471), .lit (.int .u32 3921009573), .lit (.int .u32 961987163), .lit (.int .u32 1508970993), .lit (.int .u32 2453635748), .lit (.int .u32 2870763221), .lit (.int .u32 3624381080), .lit (.int .u32 310598401), .lit (.int .u32 607225278), .lit (.int .u32 1426881987), .lit (.int .u32 1925078388), .lit (.int .u32 2162078206), .lit (.int .u32 2614888103), .lit (.int .u32 3248222580), .lit (.int .u32 3835390401), .lit (.int .u32 4022224774), .lit (.int .u32 264347078), .lit (.int .u32 604807628), .lit (.int .u32 770255983), .lit (.int .u32 1249150122), .lit (.int .u32 1555081692), .lit (.int .u32 1996064986), .lit (.int .u32 2554220882), .lit (.int .u32 2821834349), .lit (.int .u32 2952996808), .lit (.int .u32 3210313671), .lit (.int .u32 3336571891), .lit (.int .u32 3584528711), .lit (.int .u32 113926993), .lit (.int .u32 338241895), .lit (.int .u32 666307205), .lit (.int .u32 773529912), .lit (.int .u32 1294757372), .lit (.int .u32 1396182291), .lit (.int .u32 1695183700), .lit (.int .u32 1986661051), .lit (.int .u32 2177026350), .lit (.int .u32 2456956037), .lit (.int .u32 2730485921), .lit (.int .u32 2820302411), .lit (.int .u32 3259730800), .lit (.int .u32 3345764771), .lit (.int .u32 3516065817), .lit (.int .u32 3600352804), .lit (.int .u32 4094571909), .lit (.int .u32 275423344), .lit (.int .u32 430227734), .lit (.int .u32 506948616), .lit (.int .u32 659060556), .lit (.int .u32 883997877), .lit (.int .u32 958139571), .lit (.int .u32 1322822218), .lit (.int .u32 1537002063), .lit (.int .u32 1747873779), .lit (.int .u32 1955562222), .lit (.int .u32 2024104815), .lit (.int .u32 2227730452), .lit (.int .u32 2361852424), .lit (.int .u32 2428436474), .lit (.int .u32 2756734187), .lit (.int .u32 3204031479), .lit (.int .u32 3329325298)]

/-- 'rolodexlaw05.CellTells': WHATEVER THE INPUT: true; the input reads as it did. -/
def cellTellsSpec : ChangeSpec := { name := "cellTells", fn := fun _ => fun
  | [d1, d2, d3] => { results := [.lit (.bool true)], args := [d1, d2, d3] }
  | _ => none }
def cellTellsRow : OpenClaim := { program := "ytonbhcbkelmhgaadoor", sum := "daabec7204b8241dbabb43a1828ea390aeb261c66bf48074e659d472217476fe", func := "rolodex/rolodexlaw05.CellTells", spec := "cellTells", unfollowed := true, recurses := true, named := ["rolodex/sha.squareRoots", "rolodex/sha.cubeRoots"], apart := false, laid := [("rolodex/sha.squareRoots", laid_rolodex_sha_squareRoots), ("rolodex/sha.cubeRoots", laid_rolodex_sha_cubeRoots)] }
def CellTellsSaid : Prop := cellTellsRow.holds Tryd.pinned (OpenSpec.ofChange cellTellsSpec)

/-- ITS FALSE NEIGHBOUR: 'it returns false'. Refute it at one input. -/
def cellTellsWrong : ChangeSpec := { name := "cellTells", fn := fun _ => fun
  | [d1, d2, d3] => { results := [.lit (.bool false)], args := [d1, d2, d3] }
  | _ => none }
def CellTellsWrongFalsely : Prop := cellTellsRow.holds Tryd.pinned (OpenSpec.ofChange cellTellsWrong)

/-- 'rolodexlaw05.CellBack': WHATEVER THE INPUT: true; the input reads as it did. -/
def cellBackSpec : ChangeSpec := { name := "cellBack", fn := fun _ => fun
  | [d1, d2] => { results := [.lit (.bool true)], args := [d1, d2] }
  | _ => none }
def cellBackRow : OpenClaim := { program := "ytonbhcbkelmhgaadoor", sum := "daabec7204b8241dbabb43a1828ea390aeb261c66bf48074e659d472217476fe", func := "rolodex/rolodexlaw05.CellBack", spec := "cellBack", unfollowed := true, recurses := true, named := ["rolodex/sha.squareRoots", "rolodex/sha.cubeRoots"], apart := false, laid := [("rolodex/sha.squareRoots", laid_rolodex_sha_squareRoots), ("rolodex/sha.cubeRoots", laid_rolodex_sha_cubeRoots)] }
def CellBackSaid : Prop := cellBackRow.holds Tryd.pinned (OpenSpec.ofChange cellBackSpec)

/-- ITS FALSE NEIGHBOUR: 'it returns false'. Refute it at one input. -/
def cellBackWrong : ChangeSpec := { name := "cellBack", fn := fun _ => fun
  | [d1, d2] => { results := [.lit (.bool false)], args := [d1, d2] }
  | _ => none }
def CellBackWrongFalsely : Prop := cellBackRow.holds Tryd.pinned (OpenSpec.ofChange cellBackWrong)

/-- 'rolodexlaw05.CellLists': WHATEVER THE INPUT: true; the input reads as it did. -/
def cellListsSpec : ChangeSpec := { name := "cellLists", fn := fun _ => fun
  | [d] => { results := [.lit (.bool true)], args := [d] }
  | _ => none }
def cellListsRow : OpenClaim := { program := "ytonbhcbkelmhgaadoor", sum := "daabec7204b8241dbabb43a1828ea390aeb261c66bf48074e659d472217476fe", func := "rolodex/rolodexlaw05.CellLists", spec := "cellLists", unfollowed := true, recurses := true, named := ["rolodex/sha.squareRoots", "rolodex/sha.cubeRoots"], apart := false, laid := [("rolodex/sha.squareRoots", laid_rolodex_sha_squareRoots), ("rolodex/sha.cubeRoots", laid_rolodex_sha_cubeRoots)] }
def CellListsSaid : Prop := cellListsRow.holds Tryd.pinned (OpenSpec.ofChange cellListsSpec)

/-- ITS FALSE NEIGHBOUR: 'it returns false'. Refute it at one input. -/
def cellListsWrong : ChangeSpec := { name := "cellLists", fn := fun _ => fun
  | [d] => { results := [.lit (.bool false)], args := [d] }
  | _ => none }
def CellListsWrongFalsely : Prop := cellListsRow.holds Tryd.pinned (OpenSpec.ofChange cellListsWrong)

/-- 'rolodexlaw06.RecTells': WHATEVER THE INPUT: true; the input reads as it did. -/
def recTellsSpec : ChangeSpec := { name := "recTells", fn := fun _ => fun
  | [d1, d2, d3] => { results := [.lit (.bool true)], args := [d1, d2, d3] }
  | _ => none }
def recTellsRow : OpenClaim := { program := "ytonbhcbkelmhgaadoor", sum := "daabec7204b8241dbabb43a1828ea390aeb261c66bf48074e659d472217476fe", func := "rolodex/rolodexlaw06.RecTells", spec := "recTells", unfollowed := true, recurses := true, named := ["rolodex/sha.squareRoots", "rolodex/sha.cubeRoots"], apart := false, laid := [("rolodex/sha.squareRoots", laid_rolodex_sha_squareRoots), ("rolodex/sha.cubeRoots", laid_rolodex_sha_cubeRoots)] }
def RecTellsSaid : Prop := recTellsRow.holds Tryd.pinned (OpenSpec.ofChange recTellsSpec)

/-- ITS FALSE NEIGHBOUR: 'it returns false'. Refute it at one input. -/
def recTellsWrong : ChangeSpec := { name := "recTells", fn := fun _ => fun
  | [d1, d2, d3] => { results := [.lit (.bool false)], args := [d1, d2, d3] }
  | _ => none }
def RecTellsWrongFalsely : Prop := recTellsRow.holds Tryd.pinned (OpenSpec.ofChange recTellsWrong)

/-- 'rolodexlaw06.RecJoins': WHATEVER THE INPUT: true; the input reads as it did. -/
def recJoinsSpec : ChangeSpec := { name := "recJoins", fn := fun _ => fun
  | [d1, d2, d3] => { results := [.lit (.bool true)], args := [d1, d2, d3] }
  | _ => none }
def recJoinsRow : OpenClaim := { program := "ytonbhcbkelmhgaadoor", sum := "daabec7204b8241dbabb43a1828ea390aeb261c66bf48074e659d472217476fe", func := "rolodex/rolodexlaw06.RecJoins", spec := "recJoins", unfollowed := true, recurses := true, named := ["rolodex/sha.squareRoots", "rolodex/sha.cubeRoots"], apart := false, laid := [("rolodex/sha.squareRoots", laid_rolodex_sha_squareRoots), ("rolodex/sha.cubeRoots", laid_rolodex_sha_cubeRoots)] }
def RecJoinsSaid : Prop := recJoinsRow.holds Tryd.pinned (OpenSpec.ofChange recJoinsSpec)

/-- ITS FALSE NEIGHBOUR: 'it returns false'. Refute it at one input. -/
def recJoinsWrong : ChangeSpec := { name := "recJoins", fn := fun _ => fun
  | [d1, d2, d3] => { results := [.lit (.bool false)], args := [d1, d2, d3] }
  | _ => none }
def RecJoinsWrongFalsely : Prop := recJoinsRow.holds Tryd.pinned (OpenSpec.ofChange recJoinsWrong)

/-- 'rolodexlaw06.RecOrder': WHATEVER THE INPUT: true; the input reads as it did. -/
def recOrderSpec : ChangeSpec := { name := "recOrder", fn := fun _ => fun
  | [d1, d2, d3] => { results := [.lit (.bool true)], args := [d1, d2, d3] }
  | _ => none }
def recOrderRow : OpenClaim := { program := "ytonbhcbkelmhgaadoor", sum := "daabec7204b8241dbabb43a1828ea390aeb261c66bf48074e659d472217476fe", func := "rolodex/rolodexlaw06.RecOrder", spec := "recOrder", unfollowed := true, recurses := true, named := ["rolodex/sha.squareRoots", "rolodex/sha.cubeRoots"], apart := false, laid := [("rolodex/sha.squareRoots", laid_rolodex_sha_squareRoots), ("rolodex/sha.cubeRoots", laid_rolodex_sha_cubeRoots)] }
def RecOrderSaid : Prop := recOrderRow.holds Tryd.pinned (OpenSpec.ofChange recOrderSpec)

/-- ITS FALSE NEIGHBOUR: 'it returns false'. Refute it at one input. -/
def recOrderWrong : ChangeSpec := { name := "recOrder", fn := fun _ => fun
  | [d1, d2, d3] => { results := [.lit (.bool false)], args := [d1, d2, d3] }
  | _ => none }
def RecOrderWrongFalsely : Prop := recOrderRow.holds Tryd.pinned (OpenSpec.ofChange recOrderWrong)

/-- 'rolodexlaw06.RecCells': WHATEVER THE INPUT: true; the input reads as it did. -/
def recCellsSpec : ChangeSpec := { name := "recCells", fn := fun _ => fun
  | [d1, d2, d3] => { results := [.lit (.bool true)], args := [d1, d2, d3] }
  | _ => none }
def recCellsRow : OpenClaim := { program := "ytonbhcbkelmhgaadoor", sum := "daabec7204b8241dbabb43a1828ea390aeb261c66bf48074e659d472217476fe", func := "rolodex/rolodexlaw06.RecCells", spec := "recCells", unfollowed := true, recurses := true, named := ["rolodex/sha.squareRoots", "rolodex/sha.cubeRoots"], apart := false, laid := [("rolodex/sha.squareRoots", laid_rolodex_sha_squareRoots), ("rolodex/sha.cubeRoots", laid_rolodex_sha_cubeRoots)] }
def RecCellsSaid : Prop := recCellsRow.holds Tryd.pinned (OpenSpec.ofChange recCellsSpec)

/-- ITS FALSE NEIGHBOUR: 'it returns false'. Refute it at one input. -/
def recCellsWrong : ChangeSpec := { name := "recCells", fn := fun _ => fun
  | [d1, d2, d3] => { results := [.lit (.bool false)], args := [d1, d2, d3] }
  | _ => none }
def RecCellsWrongFalsely : Prop := recCellsRow.holds Tryd.pinned (OpenSpec.ofChange recCellsWrong)

/-- 'rolodexlaw06.RecDead': WHATEVER THE INPUT: true; the input reads as it did. -/
def recDeadSpec : ChangeSpec := { name := "recDead", fn := fun _ => fun
  | [d1, d2, d3] => { results := [.lit (.bool true)], args := [d1, d2, d3] }
  | _ => none }
def recDeadRow : OpenClaim := { program := "ytonbhcbkelmhgaadoor", sum := "daabec7204b8241dbabb43a1828ea390aeb261c66bf48074e659d472217476fe", func := "rolodex/rolodexlaw06.RecDead", spec := "recDead", unfollowed := true, recurses := true, named := ["rolodex/sha.squareRoots", "rolodex/sha.cubeRoots"], apart := false, laid := [("rolodex/sha.squareRoots", laid_rolodex_sha_squareRoots), ("rolodex/sha.cubeRoots", laid_rolodex_sha_cubeRoots)] }
def RecDeadSaid : Prop := recDeadRow.holds Tryd.pinned (OpenSpec.ofChange recDeadSpec)

/-- ITS FALSE NEIGHBOUR: 'it returns false'. Refute it at one input. -/
def recDeadWrong : ChangeSpec := { name := "recDead", fn := fun _ => fun
  | [d1, d2, d3] => { results := [.lit (.bool false)], args := [d1, d2, d3] }
  | _ => none }
def RecDeadWrongFalsely : Prop := recDeadRow.holds Tryd.pinned (OpenSpec.ofChange recDeadWrong)

/-- 'rolodexlaw06.RecOnly': WHATEVER THE INPUT: true; the input reads as it did. -/
def recOnlySpec : ChangeSpec := { name := "recOnly", fn := fun _ => fun
  | [d] => { results := [.lit (.bool true)], args := [d] }
  | _ => none }
def recOnlyRow : OpenClaim := { program := "ytonbhcbkelmhgaadoor", sum := "daabec7204b8241dbabb43a1828ea390aeb261c66bf48074e659d472217476fe", func := "rolodex/rolodexlaw06.RecOnly", spec := "recOnly", unfollowed := true, recurses := true, named := ["rolodex/sha.squareRoots", "rolodex/sha.cubeRoots"], apart := false, laid := [("rolodex/sha.squareRoots", laid_rolodex_sha_squareRoots), ("rolodex/sha.cubeRoots", laid_rolodex_sha_cubeRoots)] }
def RecOnlySaid : Prop := recOnlyRow.holds Tryd.pinned (OpenSpec.ofChange recOnlySpec)

/-- ITS FALSE NEIGHBOUR: 'it returns false'. Refute it at one input. -/
def recOnlyWrong : ChangeSpec := { name := "recOnly", fn := fun _ => fun
  | [d] => { results := [.lit (.bool false)], args := [d] }
  | _ => none }
def RecOnlyWrongFalsely : Prop := recOnlyRow.holds Tryd.pinned (OpenSpec.ofChange recOnlyWrong)

/-- 'rolodexlaw06.RecWrong': WHATEVER THE INPUT: true; the input reads as it did. -/
def recWrongSpec : ChangeSpec := { name := "recWrong", fn := fun _ => fun
  | [d1, d2] => { results := [.lit (.bool true)], args := [d1, d2] }
  | _ => none }
def recWrongRow : OpenClaim := { program := "ytonbhcbkelmhgaadoor", sum := "daabec7204b8241dbabb43a1828ea390aeb261c66bf48074e659d472217476fe", func := "rolodex/rolodexlaw06.RecWrong", spec := "recWrong", unfollowed := true, recurses := true, named := ["rolodex/sha.squareRoots", "rolodex/sha.cubeRoots"], apart := false, laid := [("rolodex/sha.squareRoots", laid_rolodex_sha_squareRoots), ("rolodex/sha.cubeRoots", laid_rolodex_sha_cubeRoots)] }
def RecWrongSaid : Prop := recWrongRow.holds Tryd.pinned (OpenSpec.ofChange recWrongSpec)

/-- ITS FALSE NEIGHBOUR: 'it returns false'. Refute it at one input. -/
def recWrongWrong : ChangeSpec := { name := "recWrong", fn := fun _ => fun
  | [d1, d2] => { results := [.lit (.bool false)], args := [d1, d2] }
  | _ => none }
def RecWrongWrongFalsely : Prop := recWrongRow.holds Tryd.pinned (OpenSpec.ofChange recWrongWrong)

/- THE SECOND FORM. 'bulk': how many values and letters a reading holds, each counted each time it is reached (what is shared counts as often as it is met; a slice's spare places count too). A statement '..UptoSaid' is the law's where the arguments, and the package variables that the reading takes, are together of bulk at most 1048576: NARROWER than '..Said'. Prove '..Said' where nothing that the law and all that it calls make is longer than what came in: it says more and counts as full. Else prove '..UptoSaid'. A law counts once. -/
mutual
def uptoBulk {H : Type} : DataW H → Nat
  | .lit (.string bytes) => bytes.length + 1
  | .lit _ => 1
  | .nil => 1
  | .ptr d => uptoBulk d + 1
  | .slice elems spare => uptoBulkAll elems + uptoBulkAll spare + 1
  | .agg parts => uptoBulkAll parts + 1
  | .iface _ d => uptoBulk d + 1
  | .map entries => uptoBulkEntries entries + 1
  | .held _ => 1
def uptoBulkAll {H : Type} : List (DataW H) → Nat
  | [] => 0
  | d :: r => uptoBulk d + uptoBulkAll r
def uptoBulkEntries {H : Type} : List (Lit × DataW H) → Nat
  | [] => 0
  | x :: r => uptoBulkEntry x + uptoBulkEntries r
def uptoBulkEntry {H : Type} : Lit × DataW H → Nat
  | (.string bytes, d) => bytes.length + uptoBulk d + 1
  | (_, d) => uptoBulk d + 1
 end
def uptoSmall : (H : Type) → List (DataW H) → Bool := fun _ ds => decide (uptoBulkAll ds ≤ 1048576)
def OpenSpec.upto (s : _root_.Go.ChangeSpec) : _root_.Go.OpenSpec := { _root_.Go.OpenSpec.ofChange s with cond := some uptoSmall }

/-- 'rolodexlaw05.CellTells', WHERE WHAT IT READS IS OF BULK AT MOST 1048576: true; the input reads as it did. -/
def cellTellsUptoRow : OpenClaim := { program := "ytonbhcbkelmhgaadoor", sum := "daabec7204b8241dbabb43a1828ea390aeb261c66bf48074e659d472217476fe", func := "rolodex/rolodexlaw05.CellTells", spec := "cellTells", unfollowed := true, recurses := true, named := ["rolodex/sha.squareRoots", "rolodex/sha.cubeRoots"], apart := false, laid := [("rolodex/sha.squareRoots", laid_rolodex_sha_squareRoots), ("rolodex/sha.cubeRoots", laid_rolodex_sha_cubeRoots)], narrowed := true }
def CellTellsUptoSaid : Prop := cellTellsUptoRow.holds Tryd.pinned (OpenSpec.upto cellTellsSpec)

/-- 'rolodexlaw05.CellBack', WHERE WHAT IT READS IS OF BULK AT MOST 1048576: true; the input reads as it did. -/
def cellBackUptoRow : OpenClaim := { program := "ytonbhcbkelmhgaadoor", sum := "daabec7204b8241dbabb43a1828ea390aeb261c66bf48074e659d472217476fe", func := "rolodex/rolodexlaw05.CellBack", spec := "cellBack", unfollowed := true, recurses := true, named := ["rolodex/sha.squareRoots", "rolodex/sha.cubeRoots"], apart := false, laid := [("rolodex/sha.squareRoots", laid_rolodex_sha_squareRoots), ("rolodex/sha.cubeRoots", laid_rolodex_sha_cubeRoots)], narrowed := true }
def CellBackUptoSaid : Prop := cellBackUptoRow.holds Tryd.pinned (OpenSpec.upto cellBackSpec)

/-- 'rolodexlaw05.CellLists', WHERE WHAT IT READS IS OF BULK AT MOST 1048576: true; the input reads as it did. -/
def cellListsUptoRow : OpenClaim := { program := "ytonbhcbkelmhgaadoor", sum := "daabec7204b8241dbabb43a1828ea390aeb261c66bf48074e659d472217476fe", func := "rolodex/rolodexlaw05.CellLists", spec := "cellLists", unfollowed := true, recurses := true, named := ["rolodex/sha.squareRoots", "rolodex/sha.cubeRoots"], apart := false, laid := [("rolodex/sha.squareRoots", laid_rolodex_sha_squareRoots), ("rolodex/sha.cubeRoots", laid_rolodex_sha_cubeRoots)], narrowed := true }
def CellListsUptoSaid : Prop := cellListsUptoRow.holds Tryd.pinned (OpenSpec.upto cellListsSpec)

/-- 'rolodexlaw06.RecTells', WHERE WHAT IT READS IS OF BULK AT MOST 1048576: true; the input reads as it did. -/
def recTellsUptoRow : OpenClaim := { program := "ytonbhcbkelmhgaadoor", sum := "daabec7204b8241dbabb43a1828ea390aeb261c66bf48074e659d472217476fe", func := "rolodex/rolodexlaw06.RecTells", spec := "recTells", unfollowed := true, recurses := true, named := ["rolodex/sha.squareRoots", "rolodex/sha.cubeRoots"], apart := false, laid := [("rolodex/sha.squareRoots", laid_rolodex_sha_squareRoots), ("rolodex/sha.cubeRoots", laid_rolodex_sha_cubeRoots)], narrowed := true }
def RecTellsUptoSaid : Prop := recTellsUptoRow.holds Tryd.pinned (OpenSpec.upto recTellsSpec)

/-- 'rolodexlaw06.RecJoins', WHERE WHAT IT READS IS OF BULK AT MOST 1048576: true; the input reads as it did. -/
def recJoinsUptoRow : OpenClaim := { program := "ytonbhcbkelmhgaadoor", sum := "daabec7204b8241dbabb43a1828ea390aeb261c66bf48074e659d472217476fe", func := "rolodex/rolodexlaw06.RecJoins", spec := "recJoins", unfollowed := true, recurses := true, named := ["rolodex/sha.squareRoots", "rolodex/sha.cubeRoots"], apart := false, laid := [("rolodex/sha.squareRoots", laid_rolodex_sha_squareRoots), ("rolodex/sha.cubeRoots", laid_rolodex_sha_cubeRoots)], narrowed := true }
def RecJoinsUptoSaid : Prop := recJoinsUptoRow.holds Tryd.pinned (OpenSpec.upto recJoinsSpec)

/-- 'rolodexlaw06.RecOrder', WHERE WHAT IT READS IS OF BULK AT MOST 1048576: true; the input reads as it did. -/
def recOrderUptoRow : OpenClaim := { program := "ytonbhcbkelmhgaadoor", sum := "daabec7204b8241dbabb43a1828ea390aeb261c66bf48074e659d472217476fe", func := "rolodex/rolodexlaw06.RecOrder", spec := "recOrder", unfollowed := true, recurses := true, named := ["rolodex/sha.squareRoots", "rolodex/sha.cubeRoots"], apart := false, laid := [("rolodex/sha.squareRoots", laid_rolodex_sha_squareRoots), ("rolodex/sha.cubeRoots", laid_rolodex_sha_cubeRoots)], narrowed := true }
def RecOrderUptoSaid : Prop := recOrderUptoRow.holds Tryd.pinned (OpenSpec.upto recOrderSpec)

/-- 'rolodexlaw06.RecCells', WHERE WHAT IT READS IS OF BULK AT MOST 1048576: true; the input reads as it did. -/
def recCellsUptoRow : OpenClaim := { program := "ytonbhcbkelmhgaadoor", sum := "daabec7204b8241dbabb43a1828ea390aeb261c66bf48074e659d472217476fe", func := "rolodex/rolodexlaw06.RecCells", spec := "recCells", unfollowed := true, recurses := true, named := ["rolodex/sha.squareRoots", "rolodex/sha.cubeRoots"], apart := false, laid := [("rolodex/sha.squareRoots", laid_rolodex_sha_squareRoots), ("rolodex/sha.cubeRoots", laid_rolodex_sha_cubeRoots)], narrowed := true }
def RecCellsUptoSaid : Prop := recCellsUptoRow.holds Tryd.pinned (OpenSpec.upto recCellsSpec)

/-- 'rolodexlaw06.RecDead', WHERE WHAT IT READS IS OF BULK AT MOST 1048576: true; the input reads as it did. -/
def recDeadUptoRow : OpenClaim := { program := "ytonbhcbkelmhgaadoor", sum := "daabec7204b8241dbabb43a1828ea390aeb261c66bf48074e659d472217476fe", func := "rolodex/rolodexlaw06.RecDead", spec := "recDead", unfollowed := true, recurses := true, named := ["rolodex/sha.squareRoots", "rolodex/sha.cubeRoots"], apart := false, laid := [("rolodex/sha.squareRoots", laid_rolodex_sha_squareRoots), ("rolodex/sha.cubeRoots", laid_rolodex_sha_cubeRoots)], narrowed := true }
def RecDeadUptoSaid : Prop := recDeadUptoRow.holds Tryd.pinned (OpenSpec.upto recDeadSpec)

/-- 'rolodexlaw06.RecOnly', WHERE WHAT IT READS IS OF BULK AT MOST 1048576: true; the input reads as it did. -/
def recOnlyUptoRow : OpenClaim := { program := "ytonbhcbkelmhgaadoor", sum := "daabec7204b8241dbabb43a1828ea390aeb261c66bf48074e659d472217476fe", func := "rolodex/rolodexlaw06.RecOnly", spec := "recOnly", unfollowed := true, recurses := true, named := ["rolodex/sha.squareRoots", "rolodex/sha.cubeRoots"], apart := false, laid := [("rolodex/sha.squareRoots", laid_rolodex_sha_squareRoots), ("rolodex/sha.cubeRoots", laid_rolodex_sha_cubeRoots)], narrowed := true }
def RecOnlyUptoSaid : Prop := recOnlyUptoRow.holds Tryd.pinned (OpenSpec.upto recOnlySpec)

/-- 'rolodexlaw06.RecWrong', WHERE WHAT IT READS IS OF BULK AT MOST 1048576: true; the input reads as it did. -/
def recWrongUptoRow : OpenClaim := { program := "ytonbhcbkelmhgaadoor", sum := "daabec7204b8241dbabb43a1828ea390aeb261c66bf48074e659d472217476fe", func := "rolodex/rolodexlaw06.RecWrong", spec := "recWrong", unfollowed := true, recurses := true, named := ["rolodex/sha.squareRoots", "rolodex/sha.cubeRoots"], apart := false, laid := [("rolodex/sha.squareRoots", laid_rolodex_sha_squareRoots), ("rolodex/sha.cubeRoots", laid_rolodex_sha_cubeRoots)], narrowed := true }
def RecWrongUptoSaid : Prop := recWrongUptoRow.holds Tryd.pinned (OpenSpec.upto recWrongSpec)

end Rows
end Go.Proofs.YtonbhcbkelmhgaaDoor
