/-
  What rec.Same answers. Nothing that was there is written.
-/
import Derived.Test.YtonbhcbkelmhgaaDoorRcEqual
namespace Go.Proofs.YtonbhcbkelmhgaaDoor
open Go.RowKit WM
set_option linter.unusedVariables false
theorem same_pair {n r m s : Int} (w : World) : (Op.equalIn 10000 23 (.agg #[.int .i64 n, .int .i64 r]) (.agg #[.int .i64 m, .int .i64 s])).run Tryd.prog w = .ok (decide (n = m ∧ r = s)) w := by
  by_cases h1 : n = m
  · subst h1
    by_cases h2 : r = s
    · subst h2
      go_simp
    · go_simp
  · go_simp
noncomputable def rsame (z1 : List Int) (n1 r1 : Int) (f1 : List Fld) (z2 : List Int) (n2 r2 : Int) (f2 : List Fld) : Bool := (z1 == z2) && decide (n1 = n2 ∧ r1 = r2) && decide (f1 = f2)
set_option maxHeartbeats 2000000 in
theorem rsame_any (z1 : List Int) (n1 r1 : Int) (A1 : Option Addr) (l1 c1 : Nat) (f1 : List Fld) (z2 : List Int) (n2 r2 : Int) (A2 : Option Addr) (l2 c2 : Nat) (f2 : List Fld) (w : World)
    (hz1 : z1.length = 16) (hz2 : z2.length = 16) (hb1 : AllBytes z1) (hb2 : AllBytes z2) (hl1 : f1.length = l1) (hl2 : f2.length = l2) (h1 : FsAt w A1 c1 f1) (h2 : FsAt w A2 c2 f2) :
    Calls Tryd.prog 35 #[rv z1 n1 r1 (.slice A1 l1 c1), rv z2 n2 r2 (.slice A2 l2 c2)] w fun e w' => e = .returned (.bool (rsame z1 n1 r1 f1 z2 n2 r2 f2)) ∧ Below w.heap.size w w' := by
  have S1 := (RcAt.new w hz1 n1 r1 (.slice A1 l1 c1)).old (.cells (rcells z2 n2 r2 (.slice A2 l2 c2)) 43)
  have S2 := RcAt.new (w.alloc (.cells (rcells z1 n1 r1 (.slice A1 l1 c1)) 43)) hz2 n2 r2 (.slice A2 l2 c2)
  rw [World.size_alloc] at S2
  have HB := ((Below.refl w.heap.size w).alloc (Nat.le_refl _) (.cells (rcells z1 n1 r1 (.slice A1 l1 c1)) 43)).alloc (by simp) (.cells (rcells z2 n2 r2 (.slice A2 l2 c2)) 43)
  have HC := Lib.hid (equal_any A1 A2 l1 l2 c1 c2 f1 f2 _ hl1 hl2 (h1.below HB (Nat.le_refl _)) (h2.below HB (Nat.le_refl _)))
  have HE := eq_id hb1 hb2 hz1 hz2
  have L1 := Lib.hid (load_id S1)
  have L2 := Lib.hid (load_id S2)
  have a6 := S1.c16
  have a7 := S1.c17
  have a8 := S1.c18
  have b6 := S2.c16
  have b7 := S2.c17
  have b8 := S2.c18
  have HB := Lib.hid HB
  clear S1 S2 h1 h2 hl1 hl2
  have SP := @same_pair n1 r1 n2 r2
  have HV : Hid (rsame z1 n1 r1 f1 z2 n2 r2 f2 = ((z1 == z2) && decide (n1 = n2 ∧ r1 = r2) && decide (f1 = f2))) := Lib.hid rfl
  generalize rsame z1 n1 r1 f1 z2 n2 r2 f2 = V at *
  unfold rv
  cases hz : (z1 == z2)
  · rw [hz] at HE HV
    simp only [Bool.false_and] at HV
    clear hz
    go_enter Tryd.func35, Tryd.ntmps35
    go_wp2_with (first | ((with_reducible refine wpList_load_by (o := ⟨some 6, .load 40 (.tmp 5), _, _, _, _⟩) ?e1 40 (.tmp 5) ?e2 ⟨w.heap.size, 0, none⟩ ?e3 _ L1.out ?_); (case e1 => rfl); (case e2 => rfl); (case e3 => rfl)) | ((with_reducible refine wpList_load_by (o := ⟨some 8, .load 40 (.tmp 7), _, _, _, _⟩) ?e1 40 (.tmp 7) ?e2 ⟨w.heap.size + 1, 0, none⟩ ?e3 _ L2.out ?_); (case e1 => rfl); (case e2 => rfl); (case e3 => rfl)))
    go_ret
    exact ⟨by rw [HV.out]; rfl, HB.out⟩
  · rw [hz] at HE HV
    simp only [Bool.true_and] at HV
    clear hz
    cases hd : decide (n1 = n2 ∧ r1 = r2)
    · rw [hd] at SP HV
      simp only [Bool.false_and] at HV
      clear hd
      go_enter Tryd.func35, Tryd.ntmps35
      go_wp2_with (first | ((with_reducible refine wpList_load_by (o := ⟨some 6, .load 40 (.tmp 5), _, _, _, _⟩) ?e1 40 (.tmp 5) ?e2 ⟨w.heap.size, 0, none⟩ ?e3 _ L1.out ?_); (case e1 => rfl); (case e2 => rfl); (case e3 => rfl)) | ((with_reducible refine wpList_load_by (o := ⟨some 8, .load 40 (.tmp 7), _, _, _, _⟩) ?e1 40 (.tmp 7) ?e2 ⟨w.heap.size + 1, 0, none⟩ ?e3 _ L2.out ?_); (case e1 => rfl); (case e2 => rfl); (case e3 => rfl)))
      go_ret
      exact ⟨by rw [HV.out]; rfl, HB.out⟩
    · rw [hd] at SP HV
      simp only [Bool.true_and] at HV
      clear hd
      go_enter Tryd.func35, Tryd.ntmps35
      go_wp2_with (first | ((with_reducible refine wpList_load_by (o := ⟨some 6, .load 40 (.tmp 5), _, _, _, _⟩) ?e1 40 (.tmp 5) ?e2 ⟨w.heap.size, 0, none⟩ ?e3 _ L1.out ?_); (case e1 => rfl); (case e2 => rfl); (case e3 => rfl)) | ((with_reducible refine wpList_load_by (o := ⟨some 8, .load 40 (.tmp 7), _, _, _, _⟩) ?e1 40 (.tmp 7) ?e2 ⟨w.heap.size + 1, 0, none⟩ ?e3 _ L2.out ?_); (case e1 => rfl); (case e2 => rfl); (case e3 => rfl)))
      refine HC.out.mono ?_
      rintro e w2 ⟨rfl, hb⟩
      have bw := Lib.hid (HB.out.trans (hb.mono HB.out.size))
      clear hb
      go_wp2
      go_ret
      exact ⟨by rw [HV.out]; rfl, bw.out⟩
end Go.Proofs.YtonbhcbkelmhgaaDoor
