/-
  The law ShaKnown: for every two numbers it answers true, and nothing that was there is written.
-/
import Derived.Test.YtojmmjecfpdmoaaDoorShaAwake
namespace Go.Proofs.YtojmmjecfpdmoaaDoor
open Go.RowKit WM
set_option linter.unusedVariables false
def kA : Obj := .cells #[.string ⟨#[]⟩, .string ⟨#[97, 98, 99]⟩, .string ⟨#[97, 98, 99, 100, 98, 99, 100, 101, 99, 100, 101, 102, 100, 101, 102, 103, 101, 102, 103, 104, 102, 103, 104, 105, 103, 104, 105, 106, 104, 105, 106, 107, 105, 106, 107, 108, 106, 107, 108, 109, 107, 108, 109, 110, 108, 109, 110, 111, 109, 110, 111, 112, 110, 111, 112, 113]⟩] 9
def kB0 : Obj := .cells #[.int .u8 227, .int .u8 176, .int .u8 196, .int .u8 66, .int .u8 152, .int .u8 252, .int .u8 28, .int .u8 20] 5
def kB1 : Obj := .cells #[.int .u8 186, .int .u8 120, .int .u8 22, .int .u8 191, .int .u8 143, .int .u8 1, .int .u8 207, .int .u8 234] 5
def kB2 : Obj := .cells #[.int .u8 36, .int .u8 141, .int .u8 106, .int .u8 97, .int .u8 210, .int .u8 6, .int .u8 56, .int .u8 184] 5
def kE (w : World) : Obj := .cells #[.slice (some ⟨w.heap.size + 1, 0, none⟩) 8 8, .slice (some ⟨w.heap.size + 1 + 1, 0, none⟩) 8 8, .slice (some ⟨w.heap.size + 1 + 1 + 1, 0, none⟩) 8 8] 22
def kw (w : World) : World := ((((w.alloc kA).alloc kB0).alloc kB1).alloc kB2).alloc (kE w)
theorem kw_size (w : World) : (kw w).heap.size = w.heap.size + 5 := by simp [kw]
theorem kw_below (w : World) : Below w.heap.size w (kw w) := (((((Below.refl _ _).alloc (Nat.le_refl _) _).alloc (by simp) _).alloc (by simp; omega) _).alloc (by simp; omega) _).alloc (by simp; omega) _
theorem kw_E (w : World) : (kw w).heap[w.heap.size + 1 + 1 + 1 + 1]? = some (kE w) := by
  have := heap_alloc_new ((((w.alloc kA).alloc kB0).alloc kB1).alloc kB2) (kE w)
  rw [World.size_alloc, World.size_alloc, World.size_alloc, World.size_alloc] at this
  exact this
theorem kw_0 (w : World) : (kw w).heap[w.heap.size + 1]? = some kB0 := by
  have := heap_alloc_new (w.alloc kA) kB0
  rw [World.size_alloc] at this
  rw [kw, Below.heap_alloc _ _ _ (by simp only [World.size_alloc]; omega), Below.heap_alloc _ _ _ (by simp only [World.size_alloc]; omega), Below.heap_alloc _ _ _ (by simp only [World.size_alloc]; omega)]
  exact this
theorem kw_1 (w : World) : (kw w).heap[w.heap.size + 1 + 1]? = some kB1 := by
  have := heap_alloc_new ((w.alloc kA).alloc kB0) kB1
  rw [World.size_alloc, World.size_alloc] at this
  rw [kw, Below.heap_alloc _ _ _ (by simp only [World.size_alloc]; omega), Below.heap_alloc _ _ _ (by simp only [World.size_alloc]; omega)]
  exact this
theorem kw_2 (w : World) : (kw w).heap[w.heap.size + 1 + 1 + 1]? = some kB2 := by
  have := heap_alloc_new (((w.alloc kA).alloc kB0).alloc kB1) kB2
  rw [World.size_alloc, World.size_alloc, World.size_alloc] at this
  rw [kw, Below.heap_alloc _ _ _ (by simp only [World.size_alloc]; omega)]
  exact this
def kD0 : List Int := [227, 176, 196, 66, 152, 252, 28, 20]
theorem kS0 : ∀ k, k < 8 → (SH.sum (nums ⟨#[]⟩)).getD k 0 = kD0.getD k 0 := by decide +kernel
theorem kR0 : kB0 = .cells (bvals kD0) 5 := rfl
set_option maxHeartbeats 2000000 in
set_option maxRecDepth 100000 in
theorem known_0 (m : Nat) (w : World) (hlaid : Laid w) (hm : m ≤ 8) : Calls Tryd.prog 7 #[.int .i64 0, .int .i64 m] w fun e w' => e = .returned (.bool true) ∧ Below w.heap.size w w' := by
  have hz := zeroD
  have HA := Lib.hid (awake_any w hlaid)
  have HLA := Lib.hid hlaid
  clear hlaid
  go_enter Tryd.func7, Tryd.ntmps7
  go_wp2_with fail
  refine HA.out.mono ?_
  rintro e w1 ⟨rfl, hb1⟩
  go_wp2_with fail
  change Calls _ _ _ (kw w1) _
  have hb5 : Below w.heap.size w (kw w1) := hb1.trans ((kw_below w1).mono hb1.size)
  refine (of_any ⟨#[]⟩ (kw w1) (HLA.out.below hb5 (Nat.le_refl _)) (by decide)).mono ?_
  rintro e w6 ⟨rfl, hb6⟩
  rw [kw_size] at hb6
  have hb6' := hb5.trans (hb6.mono (by have := hb1.size; omega))
  have hD := BRow.new w6 24 (SH.sum (nums ⟨#[]⟩))
  have hbD : Below w.heap.size w (w6.alloc (.cells (bvals (SH.sum (nums ⟨#[]⟩))) 24)) := hb6'.alloc hb6'.size _
  have hs6 : w1.heap.size + 5 ≤ w6.heap.size := by have := hb6.size; rw [kw_size] at this; exact this
  have h7 : ∀ k, k < w1.heap.size + 5 → (w6.alloc (.cells (bvals (SH.sum (nums ⟨#[]⟩))) 24)).heap[k]? = (kw w1).heap[k]? := fun k hk => by rw [Below.heap_alloc _ _ _ (by omega), hb6.block k hk]
  have hE := (h7 (w1.heap.size + 1 + 1 + 1 + 1) (by omega)).trans (kw_E w1)
  have hR := (h7 (w1.heap.size + 1) (by omega)).trans (kw_0 w1)
  have hput := Lib.hid (putD w6 (bvals (List.replicate 32 0)) (bvals (SH.sum (nums ⟨#[]⟩))))
  have hnew := Lib.hid (heap_alloc_new w6 (.cells (bvals (List.replicate 32 0)) 24))
  have HI := Lib.hid (show (Tryd.prog.info? 24).map (·.size) = some (bvals (SH.sum (nums ⟨#[]⟩))).size by rw [sizeD, bvals_size, SH.sum_len])
  have HZ := Lib.hid (show (bvals (List.replicate 32 0)).size = (bvals (SH.sum (nums ⟨#[]⟩))).size by rw [bvals_size, bvals_size, SH.sum_len, List.length_replicate])
  have HO := Lib.hid (bvals_one (SH.sum (nums ⟨#[]⟩)))
  have HC : ∀ X : World, Below (w6.heap.size + 1) (w6.alloc (.cells (bvals (SH.sum (nums ⟨#[]⟩))) 24)) X → ∀ k, k < 8 → X.cell? ⟨w6.heap.size, k, none⟩ = some (.int .u8 (kD0.getD k 0)) ∧ X.cell? ⟨w1.heap.size + 1 + 1 + 1 + 1, 0, none⟩ = some (.slice (some ⟨w1.heap.size + 1, 0, none⟩) 8 8) ∧ X.cell? ⟨w1.heap.size + 1, k, none⟩ = some (.int .u8 (kD0.getD k 0)) := fun X hX k hk => by
    refine ⟨?_, ?_, ?_⟩
    · have h1 := hD.cell (j := k) (by rw [SH.sum_len]; omega)
      rw [kS0 k hk] at h1
      exact (hX.cell (by simp)).trans h1
    · exact (hX.cell (by simp only; omega)).trans ((cell_of_row _ _ _ _ _ _ (show _ = some (Obj.cells _ _ (0, 0)) from hE)).trans rfl)
    · rw [kR0] at hR
      refine (hX.cell (by simp only; omega)).trans ((cell_of_row _ _ _ _ _ _ hR).trans (bvals_get hk))
  have HC := Lib.hid HC
  have HBD := Lib.hid hbD
  have hsz7 : (w6.alloc (.cells (bvals (SH.sum (nums ⟨#[]⟩))) 24)).heap.size = w6.heap.size + 1 := World.size_alloc _ _
  have HSZ := Lib.hid hsz7
  clear h7 hE hR hD hbD hb6 hb6' hb5 hb1 hsz7 hs6
  generalize bvals (SH.sum (nums ⟨#[]⟩)) = V at *
  generalize bvals (List.replicate 32 0) = Z32 at *
  go_wp2_with (first | ((with_reducible refine wpList_store_row (o := ⟨none, .store 24 (.tmp 8) (.tmp 39), _, _, _, _⟩) ?e1 24 (.tmp 8) (.tmp 39) ?e2 w6.heap.size V ?e3 ?e4 24 Z32 hnew.out HI.out HZ.out HO.out ?_); (case e1 => rfl); (case e2 => rfl); (case e3 => rfl); (case e4 => rfl); rw [hput.out]))
  have HB7 := Lib.hid (show Below (w6.heap.size + 1) (w6.alloc (.cells V 24)) (w6.alloc (.cells V 24)) from Below.refl _ _)
  generalize w6.alloc (.cells V 24) = W7 at *
  go_loopw [9] (fun i wr => ∃ k : Nat, k ≤ m ∧ i = .int .i64 (k : Int) ∧ Below (w6.heap.size + 1) W7 wr) (fun i _ => m - (intOf i).toNat)
  case atStart => exact ⟨0, by omega, rfl, HB7.out⟩
  case round =>
    obtain ⟨k, hk, rfl, hbel⟩ := hrel
    have Hbel := Lib.hid hbel
    by_cases hlt : k < m
    · obtain ⟨c0, cF, cw⟩ := HC.out wr hbel k (by omega)
      have hk8 : k < 8 := by omega
      clear hbel
      generalize kD0.getD k 0 = x at *
      go_wp2_with fail
      go_quiet (fail)
      go_wp2
      go_roundw
      case rel => exact ⟨k + 1, by omega, by go_num, below_drewN Hbel.out _⟩
      case measure => simp [intOf]; omega
    · clear hbel
      go_wp2
      go_ret
      exact ⟨rfl, HBD.out.trans (Hbel.out.mono (by have := HBD.out.size; rw [HSZ.out] at this; exact this))⟩
def kD1 : List Int := [186, 120, 22, 191, 143, 1, 207, 234]
theorem kS1 : ∀ k, k < 8 → (SH.sum (nums ⟨#[97, 98, 99]⟩)).getD k 0 = kD1.getD k 0 := by decide +kernel
theorem kR1 : kB1 = .cells (bvals kD1) 5 := rfl
set_option maxHeartbeats 2000000 in
set_option maxRecDepth 100000 in
theorem known_1 (m : Nat) (w : World) (hlaid : Laid w) (hm : m ≤ 8) : Calls Tryd.prog 7 #[.int .i64 1, .int .i64 m] w fun e w' => e = .returned (.bool true) ∧ Below w.heap.size w w' := by
  have hz := zeroD
  have HA := Lib.hid (awake_any w hlaid)
  have HLA := Lib.hid hlaid
  clear hlaid
  go_enter Tryd.func7, Tryd.ntmps7
  go_wp2_with fail
  refine HA.out.mono ?_
  rintro e w1 ⟨rfl, hb1⟩
  go_wp2_with fail
  change Calls _ _ _ (kw w1) _
  have hb5 : Below w.heap.size w (kw w1) := hb1.trans ((kw_below w1).mono hb1.size)
  refine (of_any ⟨#[97, 98, 99]⟩ (kw w1) (HLA.out.below hb5 (Nat.le_refl _)) (by decide)).mono ?_
  rintro e w6 ⟨rfl, hb6⟩
  rw [kw_size] at hb6
  have hb6' := hb5.trans (hb6.mono (by have := hb1.size; omega))
  have hD := BRow.new w6 24 (SH.sum (nums ⟨#[97, 98, 99]⟩))
  have hbD : Below w.heap.size w (w6.alloc (.cells (bvals (SH.sum (nums ⟨#[97, 98, 99]⟩))) 24)) := hb6'.alloc hb6'.size _
  have hs6 : w1.heap.size + 5 ≤ w6.heap.size := by have := hb6.size; rw [kw_size] at this; exact this
  have h7 : ∀ k, k < w1.heap.size + 5 → (w6.alloc (.cells (bvals (SH.sum (nums ⟨#[97, 98, 99]⟩))) 24)).heap[k]? = (kw w1).heap[k]? := fun k hk => by rw [Below.heap_alloc _ _ _ (by omega), hb6.block k hk]
  have hE := (h7 (w1.heap.size + 1 + 1 + 1 + 1) (by omega)).trans (kw_E w1)
  have hR := (h7 (w1.heap.size + 1 + 1) (by omega)).trans (kw_1 w1)
  have hput := Lib.hid (putD w6 (bvals (List.replicate 32 0)) (bvals (SH.sum (nums ⟨#[97, 98, 99]⟩))))
  have hnew := Lib.hid (heap_alloc_new w6 (.cells (bvals (List.replicate 32 0)) 24))
  have HI := Lib.hid (show (Tryd.prog.info? 24).map (·.size) = some (bvals (SH.sum (nums ⟨#[97, 98, 99]⟩))).size by rw [sizeD, bvals_size, SH.sum_len])
  have HZ := Lib.hid (show (bvals (List.replicate 32 0)).size = (bvals (SH.sum (nums ⟨#[97, 98, 99]⟩))).size by rw [bvals_size, bvals_size, SH.sum_len, List.length_replicate])
  have HO := Lib.hid (bvals_one (SH.sum (nums ⟨#[97, 98, 99]⟩)))
  have HC : ∀ X : World, Below (w6.heap.size + 1) (w6.alloc (.cells (bvals (SH.sum (nums ⟨#[97, 98, 99]⟩))) 24)) X → ∀ k, k < 8 → X.cell? ⟨w6.heap.size, k, none⟩ = some (.int .u8 (kD1.getD k 0)) ∧ X.cell? ⟨w1.heap.size + 1 + 1 + 1 + 1, 1, none⟩ = some (.slice (some ⟨w1.heap.size + 1 + 1, 0, none⟩) 8 8) ∧ X.cell? ⟨w1.heap.size + 1 + 1, k, none⟩ = some (.int .u8 (kD1.getD k 0)) := fun X hX k hk => by
    refine ⟨?_, ?_, ?_⟩
    · have h1 := hD.cell (j := k) (by rw [SH.sum_len]; omega)
      rw [kS1 k hk] at h1
      exact (hX.cell (by simp)).trans h1
    · exact (hX.cell (by simp only; omega)).trans ((cell_of_row _ _ _ _ _ _ (show _ = some (Obj.cells _ _ (0, 0)) from hE)).trans rfl)
    · rw [kR1] at hR
      refine (hX.cell (by simp only; omega)).trans ((cell_of_row _ _ _ _ _ _ hR).trans (bvals_get hk))
  have HC := Lib.hid HC
  have HBD := Lib.hid hbD
  have hsz7 : (w6.alloc (.cells (bvals (SH.sum (nums ⟨#[97, 98, 99]⟩))) 24)).heap.size = w6.heap.size + 1 := World.size_alloc _ _
  have HSZ := Lib.hid hsz7
  clear h7 hE hR hD hbD hb6 hb6' hb5 hb1 hsz7 hs6
  generalize bvals (SH.sum (nums ⟨#[97, 98, 99]⟩)) = V at *
  generalize bvals (List.replicate 32 0) = Z32 at *
  go_wp2_with (first | ((with_reducible refine wpList_store_row (o := ⟨none, .store 24 (.tmp 8) (.tmp 39), _, _, _, _⟩) ?e1 24 (.tmp 8) (.tmp 39) ?e2 w6.heap.size V ?e3 ?e4 24 Z32 hnew.out HI.out HZ.out HO.out ?_); (case e1 => rfl); (case e2 => rfl); (case e3 => rfl); (case e4 => rfl); rw [hput.out]))
  have HB7 := Lib.hid (show Below (w6.heap.size + 1) (w6.alloc (.cells V 24)) (w6.alloc (.cells V 24)) from Below.refl _ _)
  generalize w6.alloc (.cells V 24) = W7 at *
  go_loopw [9] (fun i wr => ∃ k : Nat, k ≤ m ∧ i = .int .i64 (k : Int) ∧ Below (w6.heap.size + 1) W7 wr) (fun i _ => m - (intOf i).toNat)
  case atStart => exact ⟨0, by omega, rfl, HB7.out⟩
  case round =>
    obtain ⟨k, hk, rfl, hbel⟩ := hrel
    have Hbel := Lib.hid hbel
    by_cases hlt : k < m
    · obtain ⟨c0, cF, cw⟩ := HC.out wr hbel k (by omega)
      have hk8 : k < 8 := by omega
      clear hbel
      generalize kD1.getD k 0 = x at *
      go_wp2_with fail
      go_quiet (fail)
      go_wp2
      go_roundw
      case rel => exact ⟨k + 1, by omega, by go_num, below_drewN Hbel.out _⟩
      case measure => simp [intOf]; omega
    · clear hbel
      go_wp2
      go_ret
      exact ⟨rfl, HBD.out.trans (Hbel.out.mono (by have := HBD.out.size; rw [HSZ.out] at this; exact this))⟩
def kD2 : List Int := [36, 141, 106, 97, 210, 6, 56, 184]
theorem kS2 : ∀ k, k < 8 → (SH.sum (nums ⟨#[97, 98, 99, 100, 98, 99, 100, 101, 99, 100, 101, 102, 100, 101, 102, 103, 101, 102, 103, 104, 102, 103, 104, 105, 103, 104, 105, 106, 104, 105, 106, 107, 105, 106, 107, 108, 106, 107, 108, 109, 107, 108, 109, 110, 108, 109, 110, 111, 109, 110, 111, 112, 110, 111, 112, 113]⟩)).getD k 0 = kD2.getD k 0 := by decide +kernel
theorem kR2 : kB2 = .cells (bvals kD2) 5 := rfl
set_option maxHeartbeats 2000000 in
set_option maxRecDepth 100000 in
theorem known_2 (m : Nat) (w : World) (hlaid : Laid w) (hm : m ≤ 8) : Calls Tryd.prog 7 #[.int .i64 2, .int .i64 m] w fun e w' => e = .returned (.bool true) ∧ Below w.heap.size w w' := by
  have hz := zeroD
  have HA := Lib.hid (awake_any w hlaid)
  have HLA := Lib.hid hlaid
  clear hlaid
  go_enter Tryd.func7, Tryd.ntmps7
  go_wp2_with fail
  refine HA.out.mono ?_
  rintro e w1 ⟨rfl, hb1⟩
  go_wp2_with fail
  change Calls _ _ _ (kw w1) _
  have hb5 : Below w.heap.size w (kw w1) := hb1.trans ((kw_below w1).mono hb1.size)
  refine (of_any ⟨#[97, 98, 99, 100, 98, 99, 100, 101, 99, 100, 101, 102, 100, 101, 102, 103, 101, 102, 103, 104, 102, 103, 104, 105, 103, 104, 105, 106, 104, 105, 106, 107, 105, 106, 107, 108, 106, 107, 108, 109, 107, 108, 109, 110, 108, 109, 110, 111, 109, 110, 111, 112, 110, 111, 112, 113]⟩ (kw w1) (HLA.out.below hb5 (Nat.le_refl _)) (by decide)).mono ?_
  rintro e w6 ⟨rfl, hb6⟩
  rw [kw_size] at hb6
  have hb6' := hb5.trans (hb6.mono (by have := hb1.size; omega))
  have hD := BRow.new w6 24 (SH.sum (nums ⟨#[97, 98, 99, 100, 98, 99, 100, 101, 99, 100, 101, 102, 100, 101, 102, 103, 101, 102, 103, 104, 102, 103, 104, 105, 103, 104, 105, 106, 104, 105, 106, 107, 105, 106, 107, 108, 106, 107, 108, 109, 107, 108, 109, 110, 108, 109, 110, 111, 109, 110, 111, 112, 110, 111, 112, 113]⟩))
  have hbD : Below w.heap.size w (w6.alloc (.cells (bvals (SH.sum (nums ⟨#[97, 98, 99, 100, 98, 99, 100, 101, 99, 100, 101, 102, 100, 101, 102, 103, 101, 102, 103, 104, 102, 103, 104, 105, 103, 104, 105, 106, 104, 105, 106, 107, 105, 106, 107, 108, 106, 107, 108, 109, 107, 108, 109, 110, 108, 109, 110, 111, 109, 110, 111, 112, 110, 111, 112, 113]⟩))) 24)) := hb6'.alloc hb6'.size _
  have hs6 : w1.heap.size + 5 ≤ w6.heap.size := by have := hb6.size; rw [kw_size] at this; exact this
  have h7 : ∀ k, k < w1.heap.size + 5 → (w6.alloc (.cells (bvals (SH.sum (nums ⟨#[97, 98, 99, 100, 98, 99, 100, 101, 99, 100, 101, 102, 100, 101, 102, 103, 101, 102, 103, 104, 102, 103, 104, 105, 103, 104, 105, 106, 104, 105, 106, 107, 105, 106, 107, 108, 106, 107, 108, 109, 107, 108, 109, 110, 108, 109, 110, 111, 109, 110, 111, 112, 110, 111, 112, 113]⟩))) 24)).heap[k]? = (kw w1).heap[k]? := fun k hk => by rw [Below.heap_alloc _ _ _ (by omega), hb6.block k hk]
  have hE := (h7 (w1.heap.size + 1 + 1 + 1 + 1) (by omega)).trans (kw_E w1)
  have hR := (h7 (w1.heap.size + 1 + 1 + 1) (by omega)).trans (kw_2 w1)
  have hput := Lib.hid (putD w6 (bvals (List.replicate 32 0)) (bvals (SH.sum (nums ⟨#[97, 98, 99, 100, 98, 99, 100, 101, 99, 100, 101, 102, 100, 101, 102, 103, 101, 102, 103, 104, 102, 103, 104, 105, 103, 104, 105, 106, 104, 105, 106, 107, 105, 106, 107, 108, 106, 107, 108, 109, 107, 108, 109, 110, 108, 109, 110, 111, 109, 110, 111, 112, 110, 111, 112, 113]⟩))))
  have hnew := Lib.hid (heap_alloc_new w6 (.cells (bvals (List.replicate 32 0)) 24))
  have HI := Lib.hid (show (Tryd.prog.info? 24).map (·.size) = some (bvals (SH.sum (nums ⟨#[97, 98, 99, 100, 98, 99, 100, 101, 99, 100, 101, 102, 100, 101, 102, 103, 101, 102, 103, 104, 102, 103, 104, 105, 103, 104, 105, 106, 104, 105, 106, 107, 105, 106, 107, 108, 106, 107, 108, 109, 107, 108, 109, 110, 108, 109, 110, 111, 109, 110, 111, 112, 110, 111, 112, 113]⟩))).size by rw [sizeD, bvals_size, SH.sum_len])
  have HZ := Lib.hid (show (bvals (List.replicate 32 0)).size = (bvals (SH.sum (nums ⟨#[97, 98, 99, 100, 98, 99, 100, 101, 99, 100, 101, 102, 100, 101, 102, 103, 101, 102, 103, 104, 102, 103, 104, 105, 103, 104, 105, 106, 104, 105, 106, 107, 105, 106, 107, 108, 106, 107, 108, 109, 107, 108, 109, 110, 108, 109, 110, 111, 109, 110, 111, 112, 110, 111, 112, 113]⟩))).size by rw [bvals_size, bvals_size, SH.sum_len, List.length_replicate])
  have HO := Lib.hid (bvals_one (SH.sum (nums ⟨#[97, 98, 99, 100, 98, 99, 100, 101, 99, 100, 101, 102, 100, 101, 102, 103, 101, 102, 103, 104, 102, 103, 104, 105, 103, 104, 105, 106, 104, 105, 106, 107, 105, 106, 107, 108, 106, 107, 108, 109, 107, 108, 109, 110, 108, 109, 110, 111, 109, 110, 111, 112, 110, 111, 112, 113]⟩)))
  have HC : ∀ X : World, Below (w6.heap.size + 1) (w6.alloc (.cells (bvals (SH.sum (nums ⟨#[97, 98, 99, 100, 98, 99, 100, 101, 99, 100, 101, 102, 100, 101, 102, 103, 101, 102, 103, 104, 102, 103, 104, 105, 103, 104, 105, 106, 104, 105, 106, 107, 105, 106, 107, 108, 106, 107, 108, 109, 107, 108, 109, 110, 108, 109, 110, 111, 109, 110, 111, 112, 110, 111, 112, 113]⟩))) 24)) X → ∀ k, k < 8 → X.cell? ⟨w6.heap.size, k, none⟩ = some (.int .u8 (kD2.getD k 0)) ∧ X.cell? ⟨w1.heap.size + 1 + 1 + 1 + 1, 2, none⟩ = some (.slice (some ⟨w1.heap.size + 1 + 1 + 1, 0, none⟩) 8 8) ∧ X.cell? ⟨w1.heap.size + 1 + 1 + 1, k, none⟩ = some (.int .u8 (kD2.getD k 0)) := fun X hX k hk => by
    refine ⟨?_, ?_, ?_⟩
    · have h1 := hD.cell (j := k) (by rw [SH.sum_len]; omega)
      rw [kS2 k hk] at h1
      exact (hX.cell (by simp)).trans h1
    · exact (hX.cell (by simp only; omega)).trans ((cell_of_row _ _ _ _ _ _ (show _ = some (Obj.cells _ _ (0, 0)) from hE)).trans rfl)
    · rw [kR2] at hR
      refine (hX.cell (by simp only; omega)).trans ((cell_of_row _ _ _ _ _ _ hR).trans (bvals_get hk))
  have HC := Lib.hid HC
  have HBD := Lib.hid hbD
  have hsz7 : (w6.alloc (.cells (bvals (SH.sum (nums ⟨#[97, 98, 99, 100, 98, 99, 100, 101, 99, 100, 101, 102, 100, 101, 102, 103, 101, 102, 103, 104, 102, 103, 104, 105, 103, 104, 105, 106, 104, 105, 106, 107, 105, 106, 107, 108, 106, 107, 108, 109, 107, 108, 109, 110, 108, 109, 110, 111, 109, 110, 111, 112, 110, 111, 112, 113]⟩))) 24)).heap.size = w6.heap.size + 1 := World.size_alloc _ _
  have HSZ := Lib.hid hsz7
  clear h7 hE hR hD hbD hb6 hb6' hb5 hb1 hsz7 hs6
  generalize bvals (SH.sum (nums ⟨#[97, 98, 99, 100, 98, 99, 100, 101, 99, 100, 101, 102, 100, 101, 102, 103, 101, 102, 103, 104, 102, 103, 104, 105, 103, 104, 105, 106, 104, 105, 106, 107, 105, 106, 107, 108, 106, 107, 108, 109, 107, 108, 109, 110, 108, 109, 110, 111, 109, 110, 111, 112, 110, 111, 112, 113]⟩)) = V at *
  generalize bvals (List.replicate 32 0) = Z32 at *
  go_wp2_with (first | ((with_reducible refine wpList_store_row (o := ⟨none, .store 24 (.tmp 8) (.tmp 39), _, _, _, _⟩) ?e1 24 (.tmp 8) (.tmp 39) ?e2 w6.heap.size V ?e3 ?e4 24 Z32 hnew.out HI.out HZ.out HO.out ?_); (case e1 => rfl); (case e2 => rfl); (case e3 => rfl); (case e4 => rfl); rw [hput.out]))
  have HB7 := Lib.hid (show Below (w6.heap.size + 1) (w6.alloc (.cells V 24)) (w6.alloc (.cells V 24)) from Below.refl _ _)
  generalize w6.alloc (.cells V 24) = W7 at *
  go_loopw [9] (fun i wr => ∃ k : Nat, k ≤ m ∧ i = .int .i64 (k : Int) ∧ Below (w6.heap.size + 1) W7 wr) (fun i _ => m - (intOf i).toNat)
  case atStart => exact ⟨0, by omega, rfl, HB7.out⟩
  case round =>
    obtain ⟨k, hk, rfl, hbel⟩ := hrel
    have Hbel := Lib.hid hbel
    by_cases hlt : k < m
    · obtain ⟨c0, cF, cw⟩ := HC.out wr hbel k (by omega)
      have hk8 : k < 8 := by omega
      clear hbel
      generalize kD2.getD k 0 = x at *
      go_wp2_with fail
      go_quiet (fail)
      go_wp2
      go_roundw
      case rel => exact ⟨k + 1, by omega, by go_num, below_drewN Hbel.out _⟩
      case measure => simp [intOf]; omega
    · clear hbel
      go_wp2
      go_ret
      exact ⟨rfl, HBD.out.trans (Hbel.out.mono (by have := HBD.out.size; rw [HSZ.out] at this; exact this))⟩
set_option maxHeartbeats 1000000 in
theorem known_out (i m : Int) (w : World) (hlaid : Laid w) (h : i < 0 ∨ 2 < i ∨ m < 0 ∨ 8 < m) : Calls Tryd.prog 7 #[.int .i64 i, .int .i64 m] w fun e w' => e = .returned (.bool true) ∧ Below w.heap.size w w' := by
  have HA := Lib.hid (awake_any w hlaid)
  clear hlaid
  by_cases h1 : i < 0
  · clear h
    go_enter Tryd.func7, Tryd.ntmps7
    go_wp2_with fail
    refine HA.out.mono ?_
    rintro e w1 ⟨rfl, hb1⟩
    go_wp2
    go_ret
    exact ⟨rfl, hb1⟩
  · by_cases h2 : 2 < i
    · clear h
      go_enter Tryd.func7, Tryd.ntmps7
      go_wp2_with fail
      refine HA.out.mono ?_
      rintro e w1 ⟨rfl, hb1⟩
      go_wp2
      go_ret
      exact ⟨rfl, hb1⟩
    · by_cases h3 : m < 0
      · clear h
        go_enter Tryd.func7, Tryd.ntmps7
        go_wp2_with fail
        refine HA.out.mono ?_
        rintro e w1 ⟨rfl, hb1⟩
        go_wp2
        go_ret
        exact ⟨rfl, hb1⟩
      · have h4 : 8 < m := by omega
        clear h
        go_enter Tryd.func7, Tryd.ntmps7
        go_wp2_with fail
        refine HA.out.mono ?_
        rintro e w1 ⟨rfl, hb1⟩
        go_wp2
        go_ret
        exact ⟨rfl, hb1⟩
theorem walk_shaKnown (i m : Int) (w : World) (hlaid : Laid w) (w0 : (Lit.int .i64 i).wf = true) (w1 : (Lit.int .i64 m).wf = true) : Calls Tryd.prog 7 #[.int .i64 i, .int .i64 m] w fun e w' => e = .returned (.bool true) ∧ Below w.heap.size w w' := by
  by_cases h : i < 0 ∨ 2 < i ∨ m < 0 ∨ 8 < m
  · exact known_out i m w hlaid h
  · obtain ⟨n, rfl⟩ : ∃ n : Nat, m = n := ⟨m.toNat, by omega⟩
    have hi : i = 0 ∨ i = 1 ∨ i = 2 := by omega
    rcases hi with rfl | rfl | rfl
    · exact known_0 n w hlaid (by omega)
    · exact known_1 n w hlaid (by omega)
    · exact known_2 n w hlaid (by omega)
end Go.Proofs.YtojmmjecfpdmoaaDoor
