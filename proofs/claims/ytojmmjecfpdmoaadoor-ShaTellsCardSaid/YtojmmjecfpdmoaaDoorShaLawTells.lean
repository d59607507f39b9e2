/-
  The law ShaTells (the stage's theorem): for all bytes, every text and every two digests it answers true, and nothing that was there is written.
-/
import Derived.Test.YtojmmjecfpdmoaaDoorShaAwake
import Derived.Test.YtojmmjecfpdmoaaDoorShaRLess
import Derived.Test.YtojmmjecfpdmoaaDoorShaArgs
namespace Go.Proofs.YtojmmjecfpdmoaaDoor
open Go.RowKit WM
set_option linter.unusedVariables false
set_option maxHeartbeats 4000000 in
set_option maxRecDepth 100000 in
theorem walk_shaTells (a0 : Option Addr) (len0 cap0 : Nat) (z0 : List Int) (s : ByteArray) (xs ys : List Int) (w : World) (hlaid : Laid w) (w0 : IsRow .u8 w a0 len0 cap0 z0) (w1 : s.size ≤ maxLen) (hx : IsDig xs) (hy : IsDig ys) :
    Calls Tryd.prog 3 #[.slice a0 len0 cap0, .string s, .agg (bvals xs), .agg (bvals ys)] w fun e w' => e = .returned (.bool true) ∧ Below w.heap.size w w' := by
  obtain ⟨y0, l0, bb0, c0, m0⟩ := w0.byt
  have n0 := row_nil w0
  clear w0
  have p0 := (BRow.new w 24 xs).old (.cells (bvals ys) 24)
  have p1 := BRow.new (w.alloc (.cells (bvals xs) 24)) 24 ys
  rw [World.size_alloc] at p1
  have b0 : Below w.heap.size w ((w.alloc (.cells (bvals xs) 24)).alloc (.cells (bvals ys) 24)) := ((Below.refl _ _).alloc (Nat.le_refl _) _).alloc (by simp) _
  have AW := Lib.hid (awake_any _ (hlaid.below b0 (Nat.le_refl _)))
  have B0 := Lib.hid b0
  have KEEP := Lib.hid (fun (X X' : World) (h : BRow X w.heap.size 24 xs ∧ BRow X (w.heap.size + 1) 24 ys) (hbx : Below X.heap.size X X') => (⟨h.1.below hbx h.1.lt, h.2.below hbx h.2.lt⟩ : BRow X' w.heap.size 24 xs ∧ BRow X' (w.heap.size + 1) 24 ys))
  have R0 := Lib.hid (⟨p0, p1⟩ : _ ∧ _)
  have IX := Lib.hid (show (Tryd.prog.info? 24).map (·.size) = some (bvals xs).size by rw [sizeD, bvals_size, hx.1])
  have IY := Lib.hid (show (Tryd.prog.info? 24).map (·.size) = some (bvals ys).size by rw [sizeD, bvals_size, hy.1])
  have RL := Lib.hid (fun (X : World) => rless_dig xs ys X hx.2 hy.2 hx.1 hy.1)
  have PL := Lib.hid (fun (X : World) => less_any xs ys X hx.2 hy.2 hx.1 hy.1)
  unfold BRow at KEEP R0
  unfold maxLen at w1
  clear p0 p1 b0 hx hy
  generalize bvals xs = VX at *
  generalize bvals ys = VY at *
  generalize lessL xs ys = ll at *
  have hm0 : len0 ≤ 9223372036854775807 := by unfold maxLen at m0; omega
  by_cases h3 : 300 < len0
  · go_enter Tryd.func3, Tryd.ntmps3
    go_wp2_with fail
    refine AW.out.mono ?_
    rintro e w1 ⟨rfl, hb1⟩
    go_wp2
    go_ret
    exact ⟨rfl, B0.out.trans (hb1.mono B0.out.size)⟩
  · by_cases h4 : 300 < s.size
    · clear m0 y0 l0 bb0 n0
      go_enter Tryd.func3, Tryd.ntmps3
      go_wp2_with fail
      refine AW.out.mono ?_
      rintro e w1 ⟨rfl, hb1⟩
      go_wp2
      go_ret
      exact ⟨rfl, B0.out.trans (hb1.mono B0.out.size)⟩
    · have S1 := Lib.hid (fun (X : World) (hX : Below w.heap.size w X) => dsum_any a0 len0 cap0 (z0.take len0) X (hlaid.below hX (Nat.le_refl _)) (y0.below hX) l0 c0 m0 (by omega) n0 bb0 hX.size)
      have S2 := Lib.hid (fun (X : World) (hX : Below w.heap.size w X) => rsum_dig a0 len0 cap0 (z0.take len0) X (y0.below hX) l0 (by omega) n0 bb0 hX.size)
      have O1 := Lib.hid (fun (X : World) (hX : Below w.heap.size w X) => of_any s X (hlaid.below hX (Nat.le_refl _)) (by omega))
      have O2 := Lib.hid (fun (X : World) (hX : Below w.heap.size w X) => rof_dig s X (by omega))
      unfold DSumPost at S1 S2 O1 O2
      have EB := Lib.hid (eq_dig (SH.sum_bytes (z0.take len0)) (SH.sum_bytes (z0.take len0)) (SH.sum_len _) (SH.sum_len _))
      rw [show (SH.sum (z0.take len0) == SH.sum (z0.take len0)) = true by simp] at EB
      have ES := Lib.hid (eq_dig (SH.sum_bytes (nums s)) (SH.sum_bytes (nums s)) (SH.sum_len _) (SH.sum_len _))
      rw [show (SH.sum (nums s) == SH.sum (nums s)) = true by simp] at ES
      clear y0 l0 bb0 n0 m0 hlaid
      generalize bvals (SH.sum (z0.take len0)) = VB at *
      generalize bvals (SH.sum (nums s)) = VS at *
      go_enter Tryd.func3, Tryd.ntmps3
      go_wp2_with fail
      refine AW.out.mono ?_
      rintro e w1 ⟨rfl, hb1⟩
      have b1 := Lib.hid (B0.out.trans (hb1.mono B0.out.size))
      have r1 := Lib.hid (KEEP.out _ w1 R0.out hb1)
      clear hb1
      go_wp2_with (first | ((with_reducible refine wpList_load_row_if (o := ⟨some 25, .load 24 (.tmp 6), _, _, _, _⟩) ?e1 24 (.tmp 6) ?e2 w.heap.size ?e3 24 VX (0, 0) _ r1.out.1 Tryd.underlying24 ?e4 IX.out ?_); (case e1 => rfl); (case e2 => rfl); (case e3 => rfl); (case e4 => rfl)) | ((with_reducible refine wpList_load_row_if (o := ⟨some 26, .load 24 (.tmp 7), _, _, _, _⟩) ?e1 24 (.tmp 7) ?e2 (w.heap.size + 1) ?e3 24 VY (0, 0) _ r1.out.2 Tryd.underlying24 ?e4 IY.out ?_); (case e1 => rfl); (case e2 => rfl); (case e3 => rfl); (case e4 => rfl)))
      refine (RL.out _).mono ?_
      rintro e w2 ⟨rfl, hb2⟩
      have b2 := Lib.hid (b1.out.trans (hb2.mono b1.out.size))
      have r2 := Lib.hid (KEEP.out w1 w2 r1.out hb2)
      clear hb2
      go_wp2_with fail
      refine (S1.out _ b2.out).mono ?_
      rintro e w3 ⟨rfl, hb3⟩
      have b3 := Lib.hid (b2.out.trans (hb3.mono b2.out.size))
      have r3 := Lib.hid (KEEP.out w2 w3 r2.out hb3)
      clear hb3
      go_wp2_with fail
      refine (S2.out _ b3.out).mono ?_
      rintro e w4 ⟨rfl, hb4⟩
      have b4 := Lib.hid (b3.out.trans (hb4.mono b3.out.size))
      have r4 := Lib.hid (KEEP.out w3 w4 r3.out hb4)
      clear hb4
      have q1 := EB.out
      go_wp2_with fail
      refine (O1.out _ b4.out).mono ?_
      rintro e w5 ⟨rfl, hb5⟩
      have b5 := Lib.hid (b4.out.trans (hb5.mono b4.out.size))
      have r5 := Lib.hid (KEEP.out w4 w5 r4.out hb5)
      clear hb5
      go_wp2_with fail
      refine (O2.out _ b5.out).mono ?_
      rintro e w6 ⟨rfl, hb6⟩
      have b6 := Lib.hid (b5.out.trans (hb6.mono b5.out.size))
      have r6 := Lib.hid (KEEP.out w5 w6 r5.out hb6)
      clear hb6
      clear q1
      have q2 := ES.out
      go_wp2_with (first | ((with_reducible refine wpList_load_row_if (o := ⟨some 41, .load 24 (.tmp 6), _, _, _, _⟩) ?e1 24 (.tmp 6) ?e2 w.heap.size ?e3 24 VX (0, 0) _ r6.out.1 Tryd.underlying24 ?e4 IX.out ?_); (case e1 => rfl); (case e2 => rfl); (case e3 => rfl); (case e4 => rfl)) | ((with_reducible refine wpList_load_row_if (o := ⟨some 42, .load 24 (.tmp 7), _, _, _, _⟩) ?e1 24 (.tmp 7) ?e2 (w.heap.size + 1) ?e3 24 VY (0, 0) _ r6.out.2 Tryd.underlying24 ?e4 IY.out ?_); (case e1 => rfl); (case e2 => rfl); (case e3 => rfl); (case e4 => rfl)))
      refine (PL.out _).mono ?_
      rintro e w7 ⟨rfl, hb7⟩
      have b7 := Lib.hid (b6.out.trans (hb7.mono b6.out.size))
      have r7 := Lib.hid (KEEP.out w6 w7 r6.out hb7)
      clear hb7
      go_wp2
      go_ret
      exact ⟨rfl, b7.out⟩
end Go.Proofs.YtojmmjecfpdmoaaDoor
