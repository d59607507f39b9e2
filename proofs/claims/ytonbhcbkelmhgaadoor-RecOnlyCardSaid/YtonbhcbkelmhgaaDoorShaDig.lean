/-
  What sha.firstState and sha.digestOf answer; nothing that was there is written.
-/
import Derived.Test.YtonbhcbkelmhgaaDoorShaBase
namespace Go.Proofs.YtonbhcbkelmhgaaDoor
open Go.RowKit WM
set_option linter.unusedVariables false
/-- The block g of a world holds these bytes. -/
def BRow (w : World) (g : Nat) (t : TypeId) (l : List Int) : Prop := w.heap[g]? = some (.cells (bvals l) t (0, 0))
theorem BRow.cell {w : World} {g : Nat} {t : TypeId} {l : List Int} (h : BRow w g t l) {j : Nat} (hj : j < l.length) : w.cell? ⟨g, j, none⟩ = some (.int .u8 (l.getD j 0)) :=
  (cell_of_row w g j _ _ _ h).trans (bvals_get hj)
theorem BRow.frozen {w : World} {g : Nat} {t : TypeId} {l : List Int} (h : BRow w g t l) (j : Nat) : w.frozen? ⟨g, j, none⟩ = false := frozen_of_row w g j _ _ h
theorem BRow.set {w : World} {g : Nat} {t : TypeId} {l : List Int} (h : BRow w g t l) (j : Nat) (x : Int) : BRow (w.setCell ⟨g, j, none⟩ (.int .u8 x)) g t (l.set j x) := by
  unfold BRow
  rw [heap_setCell_same w g j _ _ _ h, bvals_set]
theorem BRow.other {w : World} {g : Nat} {t : TypeId} {l : List Int} (h : BRow w g t l) {a : Addr} (ha : g ≠ a.block) (v : Value) : BRow (w.setCell a v) g t l := by
  unfold BRow
  rw [heap_setCell_other w a g v ha]; exact h
theorem BRow.lt {w : World} {g : Nat} {t : TypeId} {l : List Int} (h : BRow w g t l) : g < w.heap.size := by
  rcases Nat.lt_or_ge g w.heap.size with h1 | h1
  · exact h1
  · unfold BRow at h; rw [Array.getElem?_eq_none h1] at h; cases h
theorem BRow.below {w w' : World} {g B : Nat} {t : TypeId} {l : List Int} (h : BRow w g t l) (hb : Below B w w') (hg : g < B) : BRow w' g t l := by
  unfold BRow
  rw [hb.block g hg]; exact h
theorem BRow.new (w : World) (t : TypeId) (l : List Int) : BRow (w.alloc (.cells (bvals l) t)) w.heap.size t l := heap_alloc_new w _
theorem BRow.old {w : World} {g : Nat} {t : TypeId} {l : List Int} (h : BRow w g t l) (o : Obj) : BRow (w.alloc o) g t l := by
  unfold BRow
  rw [Below.heap_alloc w o g h.lt]; exact h
theorem BRow.put {w : World} {g : Nat} {t : TypeId} {l : List Int} (h : BRow w g t l) (l' : List Int) : BRow (w.setRow g (bvals l')) g t l' := setRow_heap w g _ _ _ _ h
theorem BRow.putOther {w : World} {g : Nat} {t : TypeId} {l : List Int} (h : BRow w g t l) {k : Nat} (hk : g ≠ k) (cs : Array Value) : BRow (w.setRow k cs) g t l := by
  unfold BRow
  rw [setRow_other w k g cs hk]; exact h

/-! ### The first state -/
def fpre (k : Nat) : List Nat := SH.H0.list.take k ++ List.replicate (8 - k) 0
theorem fpre_next : ∀ k, k < 8 → (fpre k).set k (SH.H0.list.getD k 0) = fpre (k + 1) := by decide
theorem fpre_len : ∀ k, k ≤ 8 → (fpre k).length = 8 := by decide
def FirstPost (w : World) (e : Ending) (w' : World) : Prop := e = .returned (.agg (vals SH.H0.list)) ∧ Below w.heap.size w w'
set_option maxHeartbeats 1000000 in
set_option maxRecDepth 100000 in
theorem first_any (w : World) (hlaid : Laid w) : Calls Tryd.prog 79 #[] w (FirstPost w) := by
  have hz8 := zeroW8
  have HLA := Lib.hid hlaid
  have HP : Hid (∀ e w', e = .returned (.agg (vals SH.H0.list)) → Below w.heap.size w w' → FirstPost w e w') := Lib.hid (fun _ _ h1 h2 => ⟨h1, h2⟩)
  clear hlaid
  generalize hZ8 : vals (List.replicate 8 0) = Z8 at *
  go_enter Tryd.func79, Tryd.ntmps79
  go_wp2_with fail
  go_loopw [3] (fun i wr => ∃ k : Nat, k ≤ 8 ∧ i = .int .i64 (k : Int) ∧ Row wr (w.heap.size + 1) 96 (fpre k) ∧ Row wr w.heap.size 96 (List.replicate 8 0) ∧ Below w.heap.size w wr) (fun i _ => 8 - (intOf i).toNat)
  case atStart =>
    subst hZ8
    refine ⟨0, by omega, rfl, ?_, (Row.new w _ _).old _, ((Below.refl _ _).alloc (Nat.le_refl _) _).alloc (by simp) _⟩
    have := Row.new (w.alloc (.cells (vals (List.replicate 8 0)) 96)) 96 (List.replicate 8 0)
    rw [World.size_alloc] at this
    exact this
  case round =>
    clear hz8
    obtain ⟨k, hk, rfl, hr1, hr0, hbel⟩ := hrel
    by_cases hlt : k < 8
    · have hq : wr.cell? ⟨0, k, none⟩ = some (.int .u32 (SH.H0.list.getD k 0 : Nat)) := (HLA.out.below hbel (Nat.le_refl _)).1 k hlt
      have hf := hr1.frozen k
      obtain ⟨old, hold⟩ : ∃ old, wr.cell? ⟨w.heap.size + 1, k, none⟩ = some old := ⟨_, hr1.cell (by rw [fpre_len k hk]; exact hlt)⟩
      have HS := Lib.hid (hr1.set k (SH.H0.list.getD k 0))
      rw [fpre_next k hlt] at HS
      have HR := Lib.hid (hr0.other (a := ⟨w.heap.size + 1, k, none⟩) (by simp only; omega) (.int .u32 (SH.H0.list.getD k 0 : Nat)))
      have HBE := Lib.hid (hbel.setCell (p := ⟨w.heap.size + 1, k, none⟩) (by simp only; omega) (.int .u32 (SH.H0.list.getD k 0 : Nat)))
      clear hr0 hr1 hbel
      generalize SH.H0.list.getD k 0 = x at *
      go_wp2
      go_roundw
      case rel => first | exact ⟨k + 1, by omega, by go_num, HS.out, HR.out, HBE.out⟩ | ((repeat apply Exists.intro); exact ⟨⟨k + 1, by omega, by go_num, HS.out, HR.out, HBE.out⟩, rfl⟩)
      case measure => simp [intOf]; omega
    · obtain rfl : k = 8 := by omega
      have hr1' : Row wr (w.heap.size + 1) 96 SH.H0.list := hr1
      have hI8 := Lib.hid (show (Tryd.prog.info? 96).map (·.size) = some (vals SH.H0.list).size by rw [sizeW8, vals_size]; rfl)
      have hZT8 := Lib.hid (show (vals (List.replicate 8 0)).size = (vals SH.H0.list).size by rw [vals_size, vals_size]; rfl)
      have hput := Lib.hid (hr0.put SH.H0.list)
      have hbp := Lib.hid (below_setRow hbel (Nat.le_refl _) (vals SH.H0.list))
      have h18 := Lib.hid (vals_one SH.H0.list)
      unfold Row at hr1' hr0 hput
      have Hr1 := Lib.hid hr1'
      have Hr0 := Lib.hid hr0
      clear hr1 hr1' hr0 hbel
      generalize vals SH.H0.list = R at *
      go_wp2_with (first | ((with_reducible refine wpList_load_row (o := ⟨some 12, .load 96 (.tmp 1), _, _, _, _⟩) ?e1 96 (.tmp 1) ?e2 (w.heap.size + 1) ?e3 96 R (0, 0) _ Hr1.out Tryd.underlying96 ?e4 hI8.out ?_); (case e1 => rfl); (case e2 => rfl); (case e3 => rfl); (case e4 => rfl)) | ((with_reducible refine wpList_store_row (o := ⟨none, .store 96 (.tmp 0) (.tmp 12), _, _, _, _⟩) ?e1 96 (.tmp 0) (.tmp 12) ?e2 w.heap.size R ?e3 ?e4 96 _ Hr0.out hI8.out hZT8.out h18.out ?_); (case e1 => rfl); (case e2 => rfl); (case e3 => rfl); (case e4 => rfl)))
      exact bodyPost_ret (v := .agg R) (by exact results_cell_row Tryd.results79 _ _ w.heap.size 96 R (0, 0) _ rfl hput.out Tryd.underlying96 rfl hI8.out) (by rfl) (HP.out _ _ rfl hbp.out)

/-! ### The digest -/
def dpre (s : SH.St) (k : Nat) : List Int := (SH.dig s).take k ++ List.replicate (32 - k) 0
theorem dpre_len (s : SH.St) {k : Nat} (hk : k ≤ 32) : (dpre s k).length = 32 := by simp [dpre, SH.dig_len]; omega
theorem dpre_next (s : SH.St) {k : Nat} (hk : k < 32) : (dpre s k).set k ((SH.dig s).getD k 0) = dpre s (k + 1) := by
  have hl := SH.dig_len s
  unfold dpre
  rw [List.set_append, if_neg (by rw [List.length_take]; omega), List.length_take, Nat.min_eq_left (by omega), Nat.sub_self, show 32 - k = (32 - (k + 1)) + 1 by omega, List.replicate_succ, List.set_cons_zero,
    List.take_succ_eq_append_getElem (by omega), List.getD, List.getElem?_eq_getElem (by omega), List.append_assoc]
  rfl
theorem dpre_all (s : SH.St) : dpre s 32 = SH.dig s := by
  unfold dpre
  rw [List.take_of_length_le (by rw [SH.dig_len]; omega)]
  simp
def DigPost (s : SH.St) (w : World) (e : Ending) (w' : World) : Prop := e = .returned (.agg (bvals (SH.dig s))) ∧ Below w.heap.size w w'
theorem dig_get (s : SH.St) {k : Nat} (hk : k < 32) : (SH.dig s).getD k 0 = ((s.list.getD (k / 4) 0 / 256 ^ (3 - k % 4) % 256 : Nat) : Int) := by
  simp [SH.dig, List.getD, hk]
set_option maxHeartbeats 1000000 in
set_option maxRecDepth 100000 in
theorem dig_any (s : SH.St) (hs : s.ok) (w : World) : Calls Tryd.prog 81 #[.agg (vals s.list)] w (DigPost s w) := by
  have hz := zeroD
  have HO := Lib.hid hs
  have HP : Hid (∀ e w', e = .returned (.agg (bvals (SH.dig s))) → Below w.heap.size w w' → DigPost s w e w') := Lib.hid (fun _ _ h1 h2 => ⟨h1, h2⟩)
  clear hs
  generalize hZ : bvals (List.replicate 32 0) = Z at *
  generalize hV : vals s.list = V at *
  go_enter Tryd.func81, Tryd.ntmps81
  go_wp2_with fail
  go_loopw [6] (fun i wr => ∃ k : Nat, k ≤ 32 ∧ i = .int .i64 (k : Int) ∧ BRow wr (w.heap.size + 2) 69 (dpre s k) ∧ BRow wr (w.heap.size + 1) 69 (List.replicate 32 0) ∧ Row wr w.heap.size 96 s.list ∧ Below w.heap.size w wr) (fun i _ => 32 - (intOf i).toNat)
  case atStart =>
    subst hZ hV
    refine ⟨0, by omega, rfl, ?_, ?_, ((Row.new w _ _).old _).old _, (((Below.refl _ _).alloc (Nat.le_refl _) _).alloc (by simp) _).alloc (by simp; omega) _⟩
    · have := BRow.new ((w.alloc (.cells (vals s.list) 96)).alloc (.cells (bvals (List.replicate 32 0)) 69)) 69 (List.replicate 32 0)
      rw [World.size_alloc, World.size_alloc] at this
      exact this
    · have := BRow.new (w.alloc (.cells (vals s.list) 96)) 69 (List.replicate 32 0)
      rw [World.size_alloc] at this
      exact this.old _
  case round =>
    clear hz
    obtain ⟨k, hk, rfl, hr2, hr1, hr0, hbel⟩ := hrel
    by_cases hlt : k < 32
    · have hq := hr0.cell (j := k / 4) (by show _ < 8; omega)
      have hf := hr2.frozen k
      obtain ⟨old, hold⟩ : ∃ old, wr.cell? ⟨w.heap.size + 2, k, none⟩ = some old := ⟨_, hr2.cell (by rw [dpre_len s hk]; exact hlt)⟩
      have HV := Lib.hid (show ((s.list.getD (k / 4) 0 : Nat) : Int) / 2 ^ ((3 - k % 4) * 8) % 256 = (SH.dig s).getD k 0 by
        rw [dig_get s hlt, show (256 : Nat) = 2 ^ 8 by rfl, ← Nat.pow_mul, Nat.mul_comm 8]
        simp)
      have HS := Lib.hid (hr2.set k ((SH.dig s).getD k 0))
      rw [dpre_next s hlt] at HS
      have HR := Lib.hid (hr1.other (a := ⟨w.heap.size + 2, k, none⟩) (by simp only; omega) (.int .u8 ((SH.dig s).getD k 0)))
      have HR0 := Lib.hid (hr0.other (a := ⟨w.heap.size + 2, k, none⟩) (by simp only; omega) (.int .u8 ((SH.dig s).getD k 0)))
      have HBE := Lib.hid (hbel.setCell (p := ⟨w.heap.size + 2, k, none⟩) (by simp only; omega) (.int .u8 ((SH.dig s).getD k 0)))
      clear hr0 hr1 hr2 hbel
      generalize (SH.dig s).getD k 0 = v at *
      generalize s.list.getD (k / 4) 0 = x at *
      go_wp2
      go_roundw
      case rel =>
        rw [HV.out]
        exact ⟨k + 1, by omega, by go_num, HS.out, HR.out, HR0.out, HBE.out⟩
      case measure => simp [intOf]; omega
    · obtain rfl : k = 32 := by omega
      rw [dpre_all] at hr2
      have hdl := SH.dig_len s
      have hI := Lib.hid (show (Tryd.prog.info? 69).map (·.size) = some (bvals (SH.dig s)).size by rw [sizeD, bvals_size, hdl])
      have hZT := Lib.hid (show (bvals (List.replicate 32 0)).size = (bvals (SH.dig s)).size by rw [bvals_size, bvals_size, hdl, List.length_replicate])
      have hput := Lib.hid (hr1.put (SH.dig s))
      have hbp := Lib.hid (below_setRow hbel (g := w.heap.size + 1) (by omega) (bvals (SH.dig s)))
      have h18 := Lib.hid (bvals_one (SH.dig s))
      unfold BRow at hr2 hr1 hput
      have Hr2 := Lib.hid hr2
      have Hr1 := Lib.hid hr1
      clear hr1 hr2 hr0 hbel hdl
      generalize bvals (SH.dig s) = R at *
      go_wp2_with (first | ((with_reducible refine wpList_load_row (o := ⟨some 23, .load 69 (.tmp 3), _, _, _, _⟩) ?e1 69 (.tmp 3) ?e2 (w.heap.size + 2) ?e3 69 R (0, 0) _ Hr2.out Tryd.underlying69 ?e4 hI.out ?_); (case e1 => rfl); (case e2 => rfl); (case e3 => rfl); (case e4 => rfl)) | ((with_reducible refine wpList_store_row (o := ⟨none, .store 69 (.tmp 2) (.tmp 23), _, _, _, _⟩) ?e1 69 (.tmp 2) (.tmp 23) ?e2 (w.heap.size + 1) R ?e3 ?e4 69 _ Hr1.out hI.out hZT.out h18.out ?_); (case e1 => rfl); (case e2 => rfl); (case e3 => rfl); (case e4 => rfl)))
      exact bodyPost_ret (v := .agg R) (by exact results_cell_row Tryd.results81 _ _ (w.heap.size + 1) 69 R (0, 0) _ rfl hput.out Tryd.underlying69 rfl hI.out) (by rfl) (HP.out _ _ rfl hbp.out)
end Go.Proofs.YtonbhcbkelmhgaaDoor
