/-
  What the document's own Of and Less answer; nothing that was there is written.
-/
import Derived.Test.YtonbhcbkelmhgaaDoorShaRSum
import Derived.Test.YtonbhcbkelmhgaaDoorShaLess
namespace Go.Proofs.YtonbhcbkelmhgaaDoor
open Go.RowKit WM
set_option linter.unusedVariables false
set_option maxHeartbeats 1000000 in
theorem rof_dig (s : ByteArray) (w : World) (hs : s.size ≤ 100000000) :
    Calls Tryd.prog 52 #[.string s] w (DSumPost (nums s) w) := by
  have hz := zeroD
  have hcv := fun (w9 : World) => Lib.run_convert_string_bytes (P := Tryd.prog) w9 9 26 5 s Tryd.underlying9 Tryd.underlying26 Tryd.underlying5
  have hbA : Below w.heap.size w (w.alloc (.cells (bvals (List.replicate 32 0)) 69)) := (Below.refl _ _).alloc (Nat.le_refl _) _
  have hrA := BRow.new w 69 (List.replicate 32 0)
  have hszA : (w.alloc (.cells (bvals (List.replicate 32 0)) 69)).heap.size = w.heap.size + 1 := World.size_alloc _ _
  have HIs := Lib.hid (show (Tryd.prog.info? 69).map (·.size) = some (bvals (SH.sum (nums s))).size by rw [sizeD, bvals_size, SH.sum_len])
  have HZs := Lib.hid (show (bvals (List.replicate 32 0)).size = (bvals (SH.sum (nums s))).size by rw [bvals_size, bvals_size, SH.sum_len, List.length_replicate])
  have HOs := Lib.hid (bvals_one (SH.sum (nums s)))
  have HP : Hid (∀ e w', e = .returned (.agg (bvals (SH.sum (nums s)))) → Below w.heap.size w w' → DSumPost (nums s) w e w') := Lib.hid (fun _ _ h1 h2 => ⟨h1, h2⟩)
  have HC := Lib.hid (fun (X : World) (hX : Below w.heap.size w X) => rsum_dig (some ⟨X.heap.size, 0, none⟩) s.size (grownCap X s.size 0 5) (nums s) (Lib.bytesWorld X 5 s) (byt_bytes X 5 s) (nums_len s) hs (fun e => by cases e) (nums_bytes s) (Nat.le_refl _))
  have HC := Lib.hid (HC.out _ hbA)
  rw [hszA] at HC
  unfold DSumPost at HC
  have FIN := Lib.hid (fun (X : World) (hX : Below (w.heap.size + 1) (w.alloc (.cells (bvals (List.replicate 32 0)) 69)) X) => (⟨hrA.below hX (by omega), (hrA.below hX (by omega)).put (SH.sum (nums s)), below_setRow (hbA.trans (hX.mono (by omega))) (Nat.le_refl _) (bvals (SH.sum (nums s)))⟩ : BRow X w.heap.size 69 (List.replicate 32 0) ∧ BRow (X.setRow w.heap.size (bvals (SH.sum (nums s)))) w.heap.size 69 (SH.sum (nums s)) ∧ Below w.heap.size w (X.setRow w.heap.size (bvals (SH.sum (nums s))))))
  unfold BRow at FIN
  have HBA := Lib.hid hbA
  have HSZ := Lib.hid hszA
  clear hrA hbA hszA
  generalize bvals (List.replicate 32 0) = Z32 at *
  generalize bvals (SH.sum (nums s)) = VS at *
  go_enter Tryd.func52, Tryd.ntmps52
  go_wp2_with fail
  refine HC.out.mono ?_
  rintro e x ⟨rfl, hbx⟩
  have hX : Below (w.heap.size + 1) (w.alloc (.cells Z32 69)) x := by
    have h1 := below_bytes (w.alloc (.cells Z32 69)) 5 s
    rw [HSZ.out] at h1
    exact h1.trans (hbx.mono (by rw [Lib.bytesWorld_size, HSZ.out]; omega))
  obtain ⟨f1, f2, f3⟩ := FIN.out x hX
  have F1 := Lib.hid f1
  have F2 := Lib.hid f2
  have F3 := Lib.hid f3
  clear f1 f2 f3 hX hbx
  go_wp2_with (first | ((with_reducible refine wpList_store_row (o := ⟨none, .store 69 (.tmp 2) (.tmp 5), _, _, _, _⟩) ?e1 69 (.tmp 2) (.tmp 5) ?e2 w.heap.size VS ?e3 ?e4 69 _ F1.out HIs.out HZs.out HOs.out ?_); (case e1 => rfl); (case e2 => rfl); (case e3 => rfl); (case e4 => rfl)))
  exact bodyPost_ret (v := .agg VS) (by exact results_cell_row Tryd.results52 _ _ w.heap.size 69 VS (0, 0) _ rfl F2.out Tryd.underlying69 rfl HIs.out) (by rfl) (HP.out _ _ rfl F3.out)
set_option maxHeartbeats 1000000 in
theorem rless_dig (xs ys : List Int) (w : World) (hx : AllBytes xs) (hy : AllBytes ys) (lx : xs.length = 32) (ly : ys.length = 32) :
    Calls Tryd.prog 53 #[.agg (bvals xs), .agg (bvals ys)] w fun e w' => e = .returned (.bool (lessL xs ys)) ∧ Below w.heap.size w w' := by
  have hr0 := (BRow.new w 69 xs).old (.cells (bvals ys) 69)
  have hr1 := BRow.new (w.alloc (.cells (bvals xs) 69)) 69 ys
  rw [World.size_alloc] at hr1
  have hb0 : Below w.heap.size w ((w.alloc (.cells (bvals xs) 69)).alloc (.cells (bvals ys) 69)) := ((Below.refl _ _).alloc (Nat.le_refl _) _).alloc (by simp) _
  have LX := Lib.hid lx
  have LY := Lib.hid ly
  have R0 := Lib.hid hr0
  have R1 := Lib.hid hr1
  have HB0 := Lib.hid hb0
  clear lx ly hx hy hr0 hr1 hb0
  generalize hVX : bvals xs = VX at *
  generalize hVY : bvals ys = VY at *
  go_enter Tryd.func53, Tryd.ntmps53
  go_wp2_with fail
  go_loopw [5] (fun i wr => ∃ k : Nat, k ≤ 32 ∧ i = .int .i64 (k : Int) ∧ (∀ j, j < k → xs.getD j 0 = ys.getD j 0) ∧ BRow wr w.heap.size 69 xs ∧ BRow wr (w.heap.size + 1) 69 ys ∧ Below w.heap.size w wr) (fun i _ => 33 - (intOf i).toNat)
  case atStart =>
    subst hVX hVY
    exact ⟨0, by omega, rfl, fun j hj => by omega, R0.out, R1.out, HB0.out⟩
  case round =>
    obtain ⟨k, hk, rfl, hpre, hr0, hr1, hbel⟩ := hrel
    have HPre := Lib.hid hpre
    have Hr0 := Lib.hid hr0
    have Hr1 := Lib.hid hr1
    have Hbel := Lib.hid hbel
    by_cases hlt : k < 32
    · have c0 := hr0.cell (j := k) (by rw [LX.out]; omega)
      have c1 := hr1.cell (j := k) (by rw [LY.out]; omega)
      clear hpre hr0 hr1 hbel R0 R1 HB0
      by_cases hkk : xs.getD k 0 = ys.getD k 0
      · have HNX := Lib.hid (show ∀ j, j < k + 1 → xs.getD j 0 = ys.getD j 0 from fun j hj => by
          rcases Nat.lt_or_ge j k with h3 | h3
          · exact HPre.out j h3
          · rw [show j = k by omega]; exact hkk)
        have ht : (xs.getD k 0 != ys.getD k 0) = false := by rw [hkk]; simp
        clear hkk
        generalize xs.getD k 0 = x at *
        generalize ys.getD k 0 = y at *
        go_wp2_with fail
        go_quiet (fail)
        go_wp2
        go_roundw
        case rel => exact ⟨k + 1, by omega, by go_num, HNX.out, Hr0.out, Hr1.out, below_drewN Hbel.out _⟩
        case measure => simp [intOf]; omega
      · have HV := Lib.hid (lessL_at k (by rw [LX.out, LY.out]) (by rw [LX.out]; omega) HPre.out hkk)
        have ht : (xs.getD k 0 != ys.getD k 0) = true := bne_iff_ne.2 hkk
        clear hkk
        generalize xs.getD k 0 = x at *
        generalize ys.getD k 0 = y at *
        go_wp2_with fail
        go_quiet (fail)
        go_wp2_with fail
        go_quiet (fail)
        go_wp2
        go_ret
        exact ⟨by rw [HV.out]; rfl, below_drewN (below_drewN Hbel.out _) _⟩
    · have he : xs = ys := lists_eq (by rw [LX.out, LY.out]) fun j hj => HPre.out j (by rw [LX.out] at hj; omega)
      have HV := Lib.hid (show lessL xs ys = false by rw [he]; exact lessL_self _)
      clear hpre hr0 hr1 hbel R0 R1 HB0 he
      go_wp2
      go_ret
      exact ⟨by rw [HV.out]; rfl, Hbel.out⟩
end Go.Proofs.YtonbhcbkelmhgaaDoor
