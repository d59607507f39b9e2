/-
  What sha.Of and sha.Less answer; nothing that was there is written.
-/
import Derived.Test.YtonbhcbkelmhgaaDoorShaSum
import Derived.Test.YtonbhcbkelmhgaaDoorTexts
import Derived.Stop.BytesEq
import Derived.Lib.ConvBytes
namespace Go.Proofs.YtonbhcbkelmhgaaDoor
open Go.RowKit WM
set_option linter.unusedVariables false
/-! ### Of -/
theorem below_bytes (w : World) (e : TypeId) (s : ByteArray) : Below w.heap.size w (Lib.bytesWorld w e s) :=
  ⟨by simp [Lib.bytesWorld, World.freeze, World.alloc, World.drew, -World.alloc_eq, -World.drew_eq], by simp [Lib.bytesWorld, World.freeze, World.alloc, World.drew, -World.alloc_eq, -World.drew_eq], by simp [Lib.bytesWorld, World.freeze, World.alloc, World.drew, -World.alloc_eq, -World.drew_eq], by rw [Lib.bytesWorld_size]; omega, fun k hk => Lib.bytesWorld_at_old w e s k hk⟩
theorem byt_bytes (w : World) (e : TypeId) (s : ByteArray) : Byt (Lib.bytesWorld w e s) (Lib.bytesWorld w e s).heap.size (some ⟨w.heap.size, 0, none⟩) (nums s) := fun _ => by
  refine ⟨_, _, rfl, by rw [Lib.bytesWorld_size]; omega, fun i hi => ?_⟩
  rw [nums_len] at hi
  rw [Nat.zero_add, Lib.bytesWorld_cell w e s i hi]
  have hi' : i < s.data.toList.length := by rw [Array.length_toList]; exact hi
  simp [nums, List.getD, List.getElem?_eq_getElem hi']
set_option maxHeartbeats 1000000 in
theorem of_any (s : ByteArray) (w : World) (hlaid : Laid w) (hs : s.size ≤ 1152921504606846975) :
    Calls Tryd.prog 68 #[.string s] w (DSumPost (nums s) w) := by
  have hz := zeroD
  have hcv := fun (w9 : World) => Lib.run_convert_string_bytes (P := Tryd.prog) w9 9 26 5 s Tryd.underlying9 Tryd.underlying26 Tryd.underlying5
  have hbA : Below w.heap.size w (w.alloc (.cells (bvals (List.replicate 32 0)) 69)) := (Below.refl _ _).alloc (Nat.le_refl _) _
  have hrA := BRow.new w 69 (List.replicate 32 0)
  have hszA : (w.alloc (.cells (bvals (List.replicate 32 0)) 69)).heap.size = w.heap.size + 1 := World.size_alloc _ _
  have HIs := Lib.hid (show (Tryd.prog.info? 69).map (·.size) = some (bvals (SH.sum (nums s))).size by rw [sizeD, bvals_size, SH.sum_len])
  have HZs := Lib.hid (show (bvals (List.replicate 32 0)).size = (bvals (SH.sum (nums s))).size by rw [bvals_size, bvals_size, SH.sum_len, List.length_replicate])
  have HOs := Lib.hid (bvals_one (SH.sum (nums s)))
  have HP : Hid (∀ e w', e = .returned (.agg (bvals (SH.sum (nums s)))) → Below w.heap.size w w' → DSumPost (nums s) w e w') := Lib.hid (fun _ _ h1 h2 => ⟨h1, h2⟩)
  have HC := Lib.hid (fun (X : World) (hX : Below w.heap.size w X) => dsum_any (some ⟨X.heap.size, 0, none⟩) s.size (grownCap X s.size 0 5) (nums s) (Lib.bytesWorld X 5 s) (hlaid.below (hX.trans ((below_bytes X 5 s).mono hX.size)) (Nat.le_refl _)) (byt_bytes X 5 s) (nums_len s) (grownCap_ge _ _ _ _) (grownCap_le_maxLen _ _ _ _ (by unfold maxLen; omega)) hs (fun e => by cases e) (nums_bytes s) (Nat.le_refl _))
  have HC := Lib.hid (HC.out _ hbA)
  rw [hszA] at HC
  unfold DSumPost at HC
  have FIN := Lib.hid (fun (X : World) (hX : Below (w.heap.size + 1) (w.alloc (.cells (bvals (List.replicate 32 0)) 69)) X) => (⟨hrA.below hX (by omega), (hrA.below hX (by omega)).put (SH.sum (nums s)), below_setRow (hbA.trans (hX.mono (by omega))) (Nat.le_refl _) (bvals (SH.sum (nums s)))⟩ : BRow X w.heap.size 69 (List.replicate 32 0) ∧ BRow (X.setRow w.heap.size (bvals (SH.sum (nums s)))) w.heap.size 69 (SH.sum (nums s)) ∧ Below w.heap.size w (X.setRow w.heap.size (bvals (SH.sum (nums s))))))
  unfold BRow at FIN
  have HBA := Lib.hid hbA
  have HSZ := Lib.hid hszA
  clear hrA hbA hszA hlaid
  generalize bvals (List.replicate 32 0) = Z32 at *
  generalize bvals (SH.sum (nums s)) = VS at *
  go_enter Tryd.func68, Tryd.ntmps68
  go_wp2_with fail
  refine HC.out.mono ?_
  rintro e x ⟨rfl, hbx⟩
  have hX : Below (w.heap.size + 1) (w.alloc (.cells Z32 69)) x := by
    have h1 := below_bytes (w.alloc (.cells Z32 69)) 5 s
    rw [HSZ.out] at h1
    exact h1.trans (hbx.mono (by rw [Lib.bytesWorld_size, HSZ.out]; omega))
  obtain ⟨f1, f2, f3⟩ := FIN.out x hX
  have F1 := Lib.hid f1
  have F2 := Lib.hid f2
  have F3 := Lib.hid f3
  clear f1 f2 f3 hX hbx
  go_wp2_with (first | ((with_reducible refine wpList_store_row (o := ⟨none, .store 69 (.tmp 2) (.tmp 5), _, _, _, _⟩) ?e1 69 (.tmp 2) (.tmp 5) ?e2 w.heap.size VS ?e3 ?e4 69 _ F1.out HIs.out HZs.out HOs.out ?_); (case e1 => rfl); (case e2 => rfl); (case e3 => rfl); (case e4 => rfl)))
  exact bodyPost_ret (v := .agg VS) (by exact results_cell_row Tryd.results68 _ _ w.heap.size 69 VS (0, 0) _ rfl F2.out Tryd.underlying69 rfl HIs.out) (by rfl) (HP.out _ _ rfl F3.out)

/-! ### Less -/
theorem bvals_u8 {xs : List Int} (h : AllBytes xs) : bvals xs = ((xs.map fun z => UInt8.ofNat z.toNat).map Extern.Stop.cell).toArray := by
  unfold bvals
  congr 1
  rw [List.map_map]
  refine List.map_congr_left fun z hz => ?_
  have := h z hz
  simp [Extern.Stop.cell, UInt8.toNat_ofNat']
  omega
theorem u8_inj {xs ys : List Int} (hx : AllBytes xs) (hy : AllBytes ys) : ((xs.map fun z => UInt8.ofNat z.toNat) == (ys.map fun z => UInt8.ofNat z.toNat)) = (xs == ys) := by
  rw [Bool.eq_iff_iff, beq_iff_eq, beq_iff_eq]
  constructor
  · intro h
    have := (strOfNums_inj hx hy).1 (by rw [show strOfNums xs = ⟨(xs.map fun z => UInt8.ofNat z.toNat).toArray⟩ from rfl, show strOfNums ys = ⟨(ys.map fun z => UInt8.ofNat z.toNat).toArray⟩ from rfl, h])
    exact this
  · rintro rfl; rfl
theorem eq_dig {xs ys : List Int} (hx : AllBytes xs) (hy : AllBytes ys) (lx : xs.length = 32) (ly : ys.length = 32) (w : World) : (Op.equalIn 10000 69 (.agg (bvals xs)) (.agg (bvals ys))).run Tryd.prog w = .ok (xs == ys) w := by
  rw [bvals_u8 hx, bvals_u8 hy, ← u8_inj hx hy]
  exact run_equalIn_bytes w 9998 69 5 32 Tryd.underlying69 Tryd.underlying5 (fun w => sizeByte w) _ _ (by rw [List.length_map, lx]) (by rw [List.length_map, ly])
theorem lessL_at : ∀ (k : Nat) {xs ys : List Int}, xs.length = ys.length → k < xs.length → (∀ j, j < k → xs.getD j 0 = ys.getD j 0) → xs.getD k 0 ≠ ys.getD k 0 → lessL xs ys = decide (xs.getD k 0 < ys.getD k 0)
  | 0, x :: xs, y :: ys, _, _, _, hne => by
    have : x ≠ y := by simpa using hne
    simp [lessL, this]
  | k + 1, x :: xs, y :: ys, hl, hk, hj, hne => by
    have h0 : x = y := by simpa using hj 0 (by omega)
    have ih := lessL_at k (xs := xs) (ys := ys) (by simpa using hl) (by simpa using hk) (fun j hj' => by have := hj (j + 1) (by omega); simpa using this) (by simpa using hne)
    rw [lessL, ih, h0]
    simp
  | 0, [], _, _, h, _, _ => by simp at h
  | _ + 1, [], _, _, h, _, _ => by simp at h
  | 0, _ :: _, [], h, _, _, _ => by simp at h
  | _ + 1, _ :: _, [], h, _, _, _ => by simp at h
theorem lists_eq {xs ys : List Int} (hl : xs.length = ys.length) (h : ∀ j, j < xs.length → xs.getD j 0 = ys.getD j 0) : xs = ys := by
  apply List.ext_getElem hl
  intro j h1 h2
  have := h j h1
  simpa [List.getD, List.getElem?_eq_getElem h1, List.getElem?_eq_getElem h2] using this
theorem lessL_self : ∀ xs : List Int, lessL xs xs = false
  | [] => rfl
  | x :: xs => by rw [lessL, lessL_self xs]; simp
set_option maxHeartbeats 1000000 in
theorem less_any (xs ys : List Int) (w : World) (hx : AllBytes xs) (hy : AllBytes ys) (lx : xs.length = 32) (ly : ys.length = 32) :
    Calls Tryd.prog 67 #[.agg (bvals xs), .agg (bvals ys)] w fun e w' => e = .returned (.bool (lessL xs ys)) ∧ Below w.heap.size w w' := by
  have heq := eq_dig hx hy lx ly
  have HI1 := Lib.hid (show (Tryd.prog.info? 69).map (·.size) = some (bvals xs).size by rw [sizeD, bvals_size, lx])
  have HI2 := Lib.hid (show (Tryd.prog.info? 69).map (·.size) = some (bvals ys).size by rw [sizeD, bvals_size, ly])
  have hr0 := (BRow.new w 69 xs).old (.cells (bvals ys) 69)
  have hr1 := BRow.new (w.alloc (.cells (bvals xs) 69)) 69 ys
  rw [World.size_alloc] at hr1
  have hb0 : Below w.heap.size w ((w.alloc (.cells (bvals xs) 69)).alloc (.cells (bvals ys) 69)) := ((Below.refl _ _).alloc (Nat.le_refl _) _).alloc (by simp) _
  have LX := Lib.hid lx
  have LY := Lib.hid ly
  have R0 := Lib.hid hr0
  have R1 := Lib.hid hr1
  have HB0 := Lib.hid hb0
  unfold BRow at hr0 hr1
  have G0 := Lib.hid hr0
  have G1 := Lib.hid hr1
  clear lx ly hx hy hr0 hr1 hb0
  by_cases he : xs = ys
  · have h1 : (xs == ys) = true := by simp [he]
    have HL := Lib.hid (show lessL xs ys = false by rw [he]; exact lessL_self _)
    rw [h1] at heq
    clear he h1
    generalize bvals xs = VX at *
    generalize bvals ys = VY at *
    go_enter Tryd.func67, Tryd.ntmps67
    go_wp2_with (first | ((with_reducible refine wpList_load_row (o := ⟨some 6, .load 69 (.tmp 2), _, _, _, _⟩) ?e1 69 (.tmp 2) ?e2 w.heap.size ?e3 69 VX (0, 0) _ G0.out Tryd.underlying69 ?e4 HI1.out ?_); (case e1 => rfl); (case e2 => rfl); (case e3 => rfl); (case e4 => rfl)) | ((with_reducible refine wpList_load_row (o := ⟨some 7, .load 69 (.tmp 3), _, _, _, _⟩) ?e1 69 (.tmp 3) ?e2 (w.heap.size + 1) ?e3 69 VY (0, 0) _ G1.out Tryd.underlying69 ?e4 HI2.out ?_); (case e1 => rfl); (case e2 => rfl); (case e3 => rfl); (case e4 => rfl)))
    go_ret
    exact ⟨by rw [HL.out]; rfl, HB0.out⟩
  · have h1 : (xs == ys) = false := by simp [he]
    have HNE := Lib.hid he
    rw [h1] at heq
    clear he h1
    generalize hVX : bvals xs = VX at *
    generalize hVY : bvals ys = VY at *
    go_enter Tryd.func67, Tryd.ntmps67
    go_wp2_with (first | ((with_reducible refine wpList_load_row (o := ⟨some 6, .load 69 (.tmp 2), _, _, _, _⟩) ?e1 69 (.tmp 2) ?e2 w.heap.size ?e3 69 VX (0, 0) _ G0.out Tryd.underlying69 ?e4 HI1.out ?_); (case e1 => rfl); (case e2 => rfl); (case e3 => rfl); (case e4 => rfl)) | ((with_reducible refine wpList_load_row (o := ⟨some 7, .load 69 (.tmp 3), _, _, _, _⟩) ?e1 69 (.tmp 3) ?e2 (w.heap.size + 1) ?e3 69 VY (0, 0) _ G1.out Tryd.underlying69 ?e4 HI2.out ?_); (case e1 => rfl); (case e2 => rfl); (case e3 => rfl); (case e4 => rfl)))
    clear heq
    go_loopw [5] (fun i wr => ∃ k : Nat, k ≤ 31 ∧ i = .int .i64 (k : Int) ∧ (∀ j, j < k → xs.getD j 0 = ys.getD j 0) ∧ BRow wr w.heap.size 69 xs ∧ BRow wr (w.heap.size + 1) 69 ys ∧ Below w.heap.size w wr) (fun i _ => 32 - (intOf i).toNat)
    case atStart =>
      subst hVX hVY
      exact ⟨0, by omega, rfl, fun j hj => by omega, R0.out, R1.out, HB0.out⟩
    case round =>
      obtain ⟨k, hk, rfl, hpre, hr0, hr1, hbel⟩ := hrel
      have c0 := hr0.cell (j := k) (by rw [LX.out]; omega)
      have c1 := hr1.cell (j := k) (by rw [LY.out]; omega)
      have HPre := Lib.hid hpre
      have Hr0 := Lib.hid hr0
      have Hr1 := Lib.hid hr1
      have Hbel := Lib.hid hbel
      clear hpre hr0 hr1 hbel R0 R1 HB0 G0 G1
      by_cases hkk : xs.getD k 0 = ys.getD k 0
      · have hk30 : k ≤ 30 := by
          rcases Nat.lt_or_ge k 31 with h2 | h2
          · omega
          · exfalso
            apply HNE.out
            refine lists_eq (by rw [LX.out, LY.out]) fun j hj => ?_
            rw [LX.out] at hj
            rcases Nat.lt_or_ge j k with h3 | h3
            · exact HPre.out j h3
            · rw [show j = k by omega]; exact hkk
        have HNX := Lib.hid (show ∀ j, j < k + 1 → xs.getD j 0 = ys.getD j 0 from fun j hj => by
          rcases Nat.lt_or_ge j k with h3 | h3
          · exact HPre.out j h3
          · rw [show j = k by omega]; exact hkk)
        have ht : (xs.getD k 0 == ys.getD k 0) = true := beq_iff_eq.2 hkk
        clear hkk
        generalize xs.getD k 0 = x at *
        generalize ys.getD k 0 = y at *
        go_wp2_with fail
        go_quiet (fail)
        go_wp2
        go_roundw
        case rel =>
          exact ⟨k + 1, by omega, by go_num, HNX.out, Hr0.out, Hr1.out, below_drewN Hbel.out _⟩
        case measure => simp [intOf]; omega
      · have HV := Lib.hid (lessL_at k (by rw [LX.out, LY.out]) (by rw [LX.out]; omega) HPre.out hkk)
        have ht : (xs.getD k 0 == ys.getD k 0) = false := beq_eq_false_iff_ne.2 hkk
        clear hkk
        generalize xs.getD k 0 = x at *
        generalize ys.getD k 0 = y at *
        go_wp2_with fail
        go_quiet (fail)
        go_wp2_with fail
        go_quiet (fail)
        go_wp2
        go_ret
        exact ⟨by rw [HV.out]; rfl, below_drewN (below_drewN Hbel.out _) _⟩
end Go.Proofs.YtonbhcbkelmhgaaDoor
