/-
  The laws' own 'awake' answers true, whatever the world in which the tables are laid, and writes nothing that was there.
-/
import Derived.Test.YtojmmjecfpdmoaaDoorShaLess
namespace Go.Proofs.YtojmmjecfpdmoaaDoor
open Go.RowKit WM
set_option linter.unusedVariables false
def dabc : List Int := [186, 120, 22, 191, 143, 1, 207, 234, 65, 65, 64, 222, 93, 174, 34, 35, 176, 3, 97, 163, 150, 23, 122, 156, 180, 16, 255, 97, 242, 0, 21, 173]
def dnone : List Int := [227, 176, 196, 66, 152, 252, 28, 20, 154, 251, 244, 200, 153, 111, 185, 36, 39, 174, 65, 228, 100, 155, 147, 76, 164, 149, 153, 27, 120, 82, 184, 85]
theorem abc_sum : SH.sum (nums ⟨#[97, 98, 99]⟩) = dabc := SH.sum_abc
theorem none_sum : SH.sum (nums ⟨#[]⟩) = dnone := SH.sum_none
theorem dabc_bytes : AllBytes dabc := by unfold AllBytes dabc; decide
theorem dnone_bytes : AllBytes dnone := by unfold AllBytes dnone; decide
theorem putD (w : World) (c c' : Array Value) : (w.alloc (.cells c 24)).setRow w.heap.size c' = w.alloc (.cells c' 24) := World.setRow_alloc_new w _ _ _
/-- A whole row read where a guard lets it. -/
theorem wpList_load_row_if {P : Program} {ops : Array Oper} {rest : List Oper} {o : Oper} {a : Act} {w : World} {Q : Exit → Act → World → Prop} (hw : Region.wanted o (yielded ops a.tmps) = true) (ty : TypeId) (x : Operand) (ho : o.op = .load ty x)
    (g : Nat) (hx : a.eval x = .pointer (some ⟨g, 0, none⟩)) (t : TypeId) (cs : Array Value) (fr : Nat × Nat) (d : TypeDesc) (hg : w.heap[g]? = some (.cells cs t fr))
    (hu : P.underlying ty = some d) (hd : (match d with | .struct _ | .array _ _ => true | _ => false) = true) (hi : (P.info? ty).map (·.size) = some cs.size)
    (h : wpList P ops Q rest (a.put o.dst (.agg cs)) w) : wpList P ops Q (o :: rest) a w :=
  BigFrame.wpList_want hw fun _ hK => wp_load_row ty x ho g hx t cs fr d hg hu hd hi (hK _ _ h)
set_option maxHeartbeats 1000000 in
theorem awake_any (w : World) (hlaid : Laid w) : Calls Tryd.prog 8 #[] w fun e w' => e = .returned (.bool true) ∧ Below w.heap.size w w' := by
  have hz := zeroD
  have CA := Lib.hid (fun (X : World) (hX : Below w.heap.size w X) => of_any ⟨#[97, 98, 99]⟩ X (hlaid.below hX (Nat.le_refl _)) (by decide))
  have CN := Lib.hid (fun (X : World) (hX : Below w.heap.size w X) => of_any ⟨#[]⟩ X (hlaid.below hX (Nat.le_refl _)) (by decide))
  unfold DSumPost at CA CN
  rw [abc_sum] at CA
  rw [none_sum] at CN
  have CL := Lib.hid (fun (X : World) => less_any dabc dnone X dabc_bytes dnone_bytes rfl rfl)
  have CS := Lib.hid (fun (X : World) => less_any dabc dabc X dabc_bytes dabc_bytes rfl rfl)
  rw [show lessL dabc dnone = true by decide] at CL
  rw [show lessL dabc dabc = false by decide] at CS
  have HI := Lib.hid (show (Tryd.prog.info? 24).map (·.size) = some (bvals dabc).size by rw [sizeD, bvals_size]; rfl)
  have HZ := Lib.hid (show (bvals (List.replicate 32 0)).size = (bvals dabc).size by rw [bvals_size, bvals_size]; rfl)
  have HO := Lib.hid (bvals_one dabc)
  have HR := Lib.hid (fun (X : World) => BRow.new X 24 dabc)
  have HC := Lib.hid (fun (X : World) (g : Nat) (h : BRow X g 24 dabc) => (⟨h.cell (j := 0) (by decide), h.cell (j := 1) (by decide), h.cell (j := 2) (by decide), h.cell (j := 3) (by decide), h.cell (j := 31) (by decide)⟩ : X.cell? ⟨g, 0, none⟩ = some (.int .u8 186) ∧ X.cell? ⟨g, 1, none⟩ = some (.int .u8 120) ∧ X.cell? ⟨g, 2, none⟩ = some (.int .u8 22) ∧ X.cell? ⟨g, 3, none⟩ = some (.int .u8 191) ∧ X.cell? ⟨g, 31, none⟩ = some (.int .u8 173)))
  have HBL := Lib.hid (fun (X X' : World) (g : Nat) (h : BRow X g 24 dabc) (hb : Below X.heap.size X X') => h.below hb h.lt)
  unfold BRow at HR HC HBL
  generalize bvals dabc = VA at *
  generalize bvals dnone = VN at *
  generalize bvals (List.replicate 32 0) = Z32 at *
  clear hlaid
  go_enter Tryd.func8, Tryd.ntmps8
  go_wp2_with fail
  refine (CA.out _ (Below.refl _ _)).mono ?_
  rintro e w1 ⟨rfl, hb1⟩
  have hput := Lib.hid (putD w1 Z32 VA)
  have hnew := Lib.hid (heap_alloc_new w1 (.cells Z32 24))
  have hr1 := HR.out w1
  obtain ⟨k0, k1, k2, k3, k31⟩ := HC.out _ _ hr1
  have hB1 : Below w.heap.size w (w1.alloc (.cells VA 24)) := hb1.alloc hb1.size _
  have Hr1 := Lib.hid hr1
  clear hr1
  have HB1 := Lib.hid hB1
  clear hB1 hb1
  go_wp2_with (first | ((with_reducible refine wpList_store_row (o := ⟨none, .store 24 (.tmp 1) (.tmp 2), _, _, _, _⟩) ?e1 24 (.tmp 1) (.tmp 2) ?e2 w1.heap.size VA ?e3 ?e4 24 Z32 hnew.out HI.out HZ.out HO.out ?_); (case e1 => rfl); (case e2 => rfl); (case e3 => rfl); (case e4 => rfl); rw [hput.out]))
  refine (CA.out _ HB1.out).mono ?_
  rintro e w2 ⟨rfl, hb2⟩
  have hB2 := Lib.hid (HB1.out.trans (hb2.mono HB1.out.size))
  have hr2 := Lib.hid (HBL.out _ _ _ Hr1.out hb2)
  clear hb2
  go_wp2_with fail
  refine (CN.out _ hB2.out).mono ?_
  rintro e w3 ⟨rfl, hb3⟩
  have hB3 := Lib.hid (hB2.out.trans (hb3.mono hB2.out.size))
  have hr3 := Lib.hid (HBL.out _ _ _ hr2.out hb3)
  clear hb3
  go_wp2_with fail
  refine (CL.out _).mono ?_
  rintro e w4 ⟨rfl, hb4⟩
  have hB4 := Lib.hid (hB3.out.trans (hb4.mono hB3.out.size))
  have hr4 := Lib.hid (HBL.out _ _ _ hr3.out hb4)
  clear hb4
  go_wp2_with (first | ((with_reducible refine wpList_load_row_if (o := ⟨some 32, .load 24 (.tmp 1), _, _, _, _⟩) ?e1 24 (.tmp 1) ?e2 w1.heap.size ?e3 24 VA (0, 0) _ hr4.out Tryd.underlying24 ?e4 HI.out ?_); (case e1 => rfl); (case e2 => rfl); (case e3 => rfl); (case e4 => rfl)) | ((with_reducible refine wpList_load_row_if (o := ⟨some 33, .load 24 (.tmp 1), _, _, _, _⟩) ?e1 24 (.tmp 1) ?e2 w1.heap.size ?e3 24 VA (0, 0) _ hr4.out Tryd.underlying24 ?e4 HI.out ?_); (case e1 => rfl); (case e2 => rfl); (case e3 => rfl); (case e4 => rfl)))
  refine (CS.out _).mono ?_
  rintro e w5 ⟨rfl, hb5⟩
  have hB5 := Lib.hid (hB4.out.trans (hb5.mono hB4.out.size))
  clear hb5
  go_wp2
  go_ret
  exact ⟨rfl, hB5.out⟩
end Go.Proofs.YtojmmjecfpdmoaaDoor
