/-
  What section.Sum answers, and what it calls: a step, the closure that fills the table, the table. For every slice that reads as bytes; nothing that was there is written.
-/
import Derived.Test.YtomlckefkamdgaaBase
import Derived.Test.YtomlckefkamdgaaSecMath
import Derived.Deep.WholeRow
import Derived.Deep.MidRow
namespace Go.Proofs.Ytomlckefkamdgaa
open Go.RowKit WM
set_option linter.unusedVariables false

theorem step_any (n : Nat) (w : World) (h : n < 4294967296) :
    Calls Try.prog 39 #[.int .u32 n] w fun e w' => e = .returned (.int .u32 (SM.step n : Nat)) ∧ w = w' := by
  by_cases hm : n % 2 = 1
  · have h1 : ((n : Int) % 2 == 1) = true := by simp; omega
    have hx := Lib.hid (u32_xor ((n : Int) / 2) 3988292384 (by omega) (by omega) (by omega) (by omega))
    have hs := Lib.hid (show SM.step n = (n / 2) ^^^ 3988292384 by rw [SM.step, if_pos hm])
    clear hm
    go_enter Try.func39, Try.ntmps39
    go_wp2
    go_ret
    refine ⟨?_, rfl⟩
    rw [hs.out, hx.out]
    congr
  · have h1 : ((n : Int) % 2 == 1) = false := by simp; omega
    have hs := Lib.hid (show SM.step n = n / 2 by rw [SM.step, if_neg hm])
    clear hm
    go_enter Try.func39, Try.ntmps39
    go_wp2
    go_ret
    refine ⟨?_, rfl⟩
    rw [hs.out]
    simp

/-- The closure: one word of the table. -/
theorem fill_any (g i : Nat) (cs : Array Value) (w : World) (hi : i < 256) (hg : w.heap[g]? = some (.cells cs 60 (0, 0))) (hc : cs.size = 256) :
    Calls Try.prog 38 #[.int .i64 i, .pointer (some ⟨g, 0, none⟩)] w fun e w' => e = .returned (.tuple #[]) ∧ w.setCell ⟨g, i, none⟩ (.int .u32 (SM.steps 8 i : Nat)) = w' := by
  obtain ⟨old, hcell⟩ : ∃ old, w.cell? ⟨g, i, none⟩ = some old := ⟨cs[i], by rw [cell_of_row w g i cs _ _ hg]; simp⟩
  have hfr : w.frozen? ⟨g, i, none⟩ = false := frozen_of_row w g i cs _ hg
  have b0 : SM.steps 0 i < 4294967296 := by simp [SM.steps]; omega
  have b : ∀ k, SM.steps k i < 4294967296 := fun k => SM.steps_lt k (by omega)
  have HB := Lib.hid b
  have H0 := Lib.hid (show i = SM.steps 0 i from rfl)
  have HG := Lib.hid hg
  clear hg b b0 hc
  go_enter Try.func38, Try.ntmps38
  go_wp2
  go_loop [3, 6] (fun x j => ∃ k : Nat, k ≤ 8 ∧ j = .int .i64 k ∧ x = .int .u32 (SM.steps k i : Nat)) (fun _ j => 8 - (intOf j).toNat)
  case atStart => exact ⟨0, by omega, rfl, by simp [SM.steps]⟩
  case round =>
    obtain ⟨k, hk, rfl, rfl⟩ := hrel
    by_cases hlt : k < 8
    · have hb := HB.out k
      go_wp2_with (go_at_call 39; refine (step_any _ _ hb).mono ?_; rintro e w1 ⟨rfl, rfl⟩)
      go_round
      case rel => exact ⟨k + 1, by omega, by go_num, rfl⟩
      case measure => simp [intOf]; omega
    · obtain rfl : k = 8 := by omega
      go_wp2
      go_end0
      exact ⟨rfl, rfl⟩

/-! ### The table -/
def Zs : Array Value := Array.replicate 256 (.int .u32 0)
theorem infoTab : (Try.prog.info? 60).map (fun i => (i.zero, i.size)) = some (some (.agg (Array.replicate 256 (.int .u32 0))), 256) := by kernel_rfl
theorem zeroTab (w : World) : (zeroValue 60).run Try.prog w = .ok (.agg Zs) w := (zero_of_info infoTab).1 w
theorem sizeTab : (Try.prog.info? 60).map (·.size) = some 256 := (zero_of_info infoTab).2
theorem Zs_size : Zs.size = 256 := by simp [Zs]
/-- The table behind k rounds. -/
def tab : Nat → Array Value
  | 0 => Zs
  | k + 1 => (tab k).setIfInBounds k (.int .u32 (SM.steps 8 k : Nat))
theorem tab_size : ∀ k, (tab k).size = 256
  | 0 => Zs_size
  | k + 1 => by rw [tab, Array.size_setIfInBounds, tab_size k]
theorem tab_get : ∀ (k i : Nat), k ≤ 256 → i < k → (tab k)[i]? = some (.int .u32 (SM.steps 8 i : Nat))
  | 0, _, _, h => by omega
  | k + 1, i, hk, h => by
    rw [tab, Array.getElem?_setIfInBounds]
    by_cases e : k = i
    · subst e; rw [if_pos rfl, if_pos (by rw [tab_size]; omega)]
    · rw [if_neg e, tab_get k i (by omega) (by omega)]
theorem tab_one : ∀ k, (tab k).all (·.oneCell') = true := by
  intro k
  refine Array.all_eq_true_iff_forall_mem.2 ?_
  induction k with
  | zero => intro v hv; simp [tab, Zs, Array.mem_replicate] at hv; subst hv; rfl
  | succ k ih =>
    intro v hv
    rw [tab] at hv
    obtain ⟨i, hi, rfl⟩ := Array.mem_iff_getElem.1 hv
    have hi' : i < (tab k).size := by simpa using hi
    rw [Array.getElem_setIfInBounds hi']
    split
    · rfl
    · exact ih _ (Array.getElem_mem hi')
theorem tab_next (w : World) (k : Nat) : ((w.alloc (.cells Zs 60)).alloc (.cells (tab k) 60)).setCell ⟨w.heap.size + 1, k, none⟩ (.int .u32 (SM.steps 8 k : Nat)) = (w.alloc (.cells Zs 60)).alloc (.cells (tab (k + 1)) 60) := by
  have h := heap_alloc_new (w.alloc (.cells Zs 60)) (.cells (tab k) 60)
  rw [World.size_alloc] at h
  rw [setCell_eq_setRow _ _ k _ _ _ _ h]
  have := World.setRow_alloc_new (w.alloc (.cells Zs 60)) (tab k) (tab (k + 1)) 60
  rw [World.size_alloc] at this
  exact this
theorem fill_tab (w : World) (k : Nat) (hk : k < 256) : Calls Try.prog 38 #[.int .i64 k, .pointer (some ⟨w.heap.size + 1, 0, none⟩)] ((w.alloc (.cells Zs 60)).alloc (.cells (tab k) 60))
    fun e w' => e = .returned (.tuple #[]) ∧ (w.alloc (.cells Zs 60)).alloc (.cells (tab (k + 1)) 60) = w' := by
  have h := heap_alloc_new (w.alloc (.cells Zs 60)) (.cells (tab k) 60)
  rw [World.size_alloc] at h
  rw [← tab_next]
  exact fill_any _ k (tab k) _ hk h (tab_size k)
theorem setRow_old (w : World) (c c' : Array Value) (t : TypeId) (o : Obj) : ((w.alloc (.cells c t)).alloc o).setRow w.heap.size c' = (w.alloc (.cells c' t)).alloc o := by
  rw [← World.setRow_alloc_new w c c' t]
  simp only [World.setRow, World.alloc]
  congr 1
  apply Array.ext_getElem?
  intro i
  rw [Array.getElem?_modify]
  by_cases h : w.heap.size = i
  · subst h
    rw [Array.getElem?_push, Array.getElem?_push, Array.getElem?_push, Array.getElem?_modify, Array.getElem?_push]
    simp
  · simp only [h, if_false, Array.getElem?_push, Array.getElem?_modify, Array.size_push, Array.size_modify]
def TabPost (w : World) (e : Ending) (w' : World) : Prop := e = .returned (.agg (tab 256)) ∧ Below w.heap.size w w'
set_option maxHeartbeats 400000 in
set_option maxRecDepth 100000 in
theorem stepped_any (w : World) : Calls Try.prog 37 #[] w (TabPost w) := by
  have hz := zeroTab
  have hmf : ∀ (fn : Fn) (first cap : Array Value) (w : World), (Instr.makeFunc fn first cap).run Try.prog w = .ok (.func fn first cap) w := fun _ _ _ _ => rfl
  have hF := Lib.hid (fill_tab w)
  have h0 := Lib.hid (show Zs = tab 0 from rfl)
  have hP : Hid (∀ e w', e = .returned (.agg (tab 256)) → Below w.heap.size w w' → TabPost w e w') := Lib.hid (fun _ _ h1 h2 => ⟨h1, h2⟩)
  have hZT := Lib.hid (show Zs.size = (tab 256).size by rw [Zs_size, tab_size])
  have h1 := Lib.hid (tab_one 256)
  have hI := Lib.hid (show (Try.prog.info? 60).map (·.size) = some (tab 256).size by rw [sizeTab, tab_size])
  generalize tab = tb at *
  generalize Zs = Z at *
  go_enter Try.func37, Try.ntmps37
  go_wp2
  go_loopw [5] (fun i wr => ∃ k : Nat, k ≤ 256 ∧ i = .int .i64 k ∧ (w.alloc (.cells Z 60)).alloc (.cells (tb k) 60) = wr) (fun i _ => 256 - (intOf i).toNat)
  case atStart => exact ⟨0, by omega, rfl, by rw [← h0.out]⟩
  case round =>
    obtain ⟨k, hk, rfl, rfl⟩ := hrel
    by_cases hlt : k < 256
    · go_wp2_with (go_at_call 38; refine (hF.out k hlt).mono ?_; rintro e w1 ⟨rfl, rfl⟩)
      go_roundw
      case rel => exact ⟨k + 1, by omega, by go_num, rfl⟩
      case measure => simp [intOf]; omega
    · obtain rfl : k = 256 := by omega
      generalize tb 256 = T at *
      have hnew := Lib.hid (heap_alloc2_new w (.cells Z 60) (.cells T 60))
      have hold := Lib.hid (heap_alloc2_old w (.cells Z 60) (.cells T 60))
      have hrow := Lib.hid (setRow_old w Z T 60 (.cells T 60))
      clear hF h0
      go_wp2
      rename_i hK
      refine wp_load_row _ _ rfl (w.heap.size + 1) (by rfl) 60 T (0, 0) _ hnew.out Try.underlying60 rfl hI.out ?_
      refine hK _ _ ?_
      refine wpList_store_row rfl _ _ _ rfl w.heap.size T (by rfl) (by rfl) 60 Z hold.out hI.out hZT.out h1.out ?_
      rw [hrow.out]
      go_wp2
      refine bodyPost_ret (v := .agg T) (by exact results_cell_row Try.results37 _ _ w.heap.size 60 T (0, 0) _ rfl (heap_alloc2_old w _ _) Try.underlying60 rfl hI.out) (by rfl) (hP.out _ _ rfl (((Below.refl _ _).alloc (Nat.le_refl _) _).alloc (by simp) _))

/-! ### Sum -/
theorem tab_put (w : World) : (w.alloc (.cells Zs 60)).setRow w.heap.size (tab 256) = w.alloc (.cells (tab 256) 60) := World.setRow_alloc_new w _ _ _
def SumPost (zs : List Int) (w : World) (e : Ending) (w' : World) : Prop := e = .returned (.int .u32 (SM.sum zs)) ∧ Below w.heap.size w w'
theorem crc_next {zs : List Int} {k : Nat} (hk : k < zs.length) : SM.crc 4294967295 (zs.take (k + 1)) = SM.take1 (SM.crc 4294967295 (zs.take k)) (zs.getD k 0) := by
  rw [List.take_succ_eq_append_getElem hk, SM.crc_snoc, List.getD, List.getElem?_eq_getElem hk, Option.getD_some]
theorem sum_idx {m : Nat} {x : Int} (hx : 0 ≤ x ∧ x ≤ 255) : ∃ J : Nat, J < 256 ∧ bits .xor .u8 ((m : Int) % 256) x = J ∧ J = (m % 256) ^^^ x.toNat := by
  refine ⟨(m % 256) ^^^ x.toNat, Nat.xor_lt_two_pow (n := 8) (by omega) (by omega), ?_, rfl⟩
  rw [u8_xor _ _ (by omega) (by omega) (by omega) (by omega)]
  congr
theorem sum_val {m J : Nat} {x : Int} (hm : m < 4294967296) (hx : 0 ≤ x ∧ x ≤ 255) (hJ : J = (m % 256) ^^^ x.toNat) : bits .xor .u32 ((m : Int) / 256) (SM.steps 8 J : Nat) = (SM.take1 m x : Nat) := by
  have h8 : SM.steps 8 J < 4294967296 := SM.steps_lt 8 (by rw [hJ]; exact Nat.xor_lt_two_pow (n := 32) (by omega) (by omega))
  rw [u32_xor _ _ (by omega) (by omega) (by omega) (by omega), SM.take1, SM.table, ← hJ]
  congr
theorem sum_not {zs : List Int} (hb : AllBytes zs) : bits .xor .u32 IntKind.u32.max (SM.crc 4294967295 zs : Nat) = SM.sum zs := by
  have h := SM.crc_lt (w := 4294967295) (by omega) hb
  rw [show IntKind.u32.max = 4294967295 by rfl, u32_xor _ _ (by omega) (by omega) (by omega) (by omega), SM.sum]
  have := SM.not_xor h
  simp only [Int.toNat_natCast, show Int.toNat 4294967295 = 4294967295 by rfl]
  rw [← this]
  omega
set_option maxHeartbeats 400000 in
set_option maxRecDepth 100000 in
theorem sum_any {B : Nat} (A : Option Addr) (len cap : Nat) (zs : List Int) (w : World) (h : Byt w B A zs) (hl : zs.length = len) (hb : AllBytes zs) (hm : len ≤ maxLen) (hB : B ≤ w.heap.size) :
    Calls Try.prog 27 #[.slice A len cap] w (SumPost zs w) := by
  unfold maxLen at hm
  have hz := zeroTab
  have HL := Lib.hid hl
  have HH := Lib.hid h
  have HB := Lib.hid hb
  have hI := Lib.hid (show (Try.prog.info? 60).map (·.size) = some (tab 256).size by rw [sizeTab, tab_size])
  have hZT := Lib.hid (show Zs.size = (tab 256).size by rw [Zs_size, tab_size])
  have h1 := Lib.hid (tab_one 256)
  have hput := Lib.hid tab_put
  have hget := Lib.hid (fun i => tab_get 256 i (Nat.le_refl _))
  have hst := Lib.hid stepped_any
  unfold TabPost at hst
  have HP : Hid (∀ e w', e = .returned (.int .u32 (SM.sum zs)) → Below w.heap.size w w' → SumPost zs w e w') := Lib.hid (fun _ _ h1 h2 => ⟨h1, h2⟩)
  clear hl h hb
  generalize tab 256 = T at *
  generalize Zs = Z at *
  go_enter Try.func27, Try.ntmps27
  go_wp2_with fail
  refine (hst.out _).mono ?_
  rintro e w1 ⟨rfl, hb1⟩
  have hnew := Lib.hid (heap_alloc_new w1 (.cells Z 60))
  have hs1 := hb1.size
  go_wp2_with (refine wpList_store_row (o := ⟨none, .store 60 (.tmp 3) (.tmp 7), _, _, _, _⟩) rfl _ _ _ rfl w1.heap.size T (by rfl) (by rfl) 60 Z hnew.out hI.out hZT.out h1.out ?_; rw [hput.out])
  have hbW : Below w.heap.size w (w1.alloc (.cells T 60)) := hb1.alloc hs1 _
  have HW := Lib.hid (HH.out.below (hbW.mono hB))
  have hTn := Lib.hid (heap_alloc_new w1 (.cells T 60))
  clear hb1 hnew hst hput hZT h1 HH hz hI
  generalize w1.alloc (.cells T 60) = W at *
  generalize w1.heap.size = g at *
  go_loop [4, 10] (fun x i => ∃ k : Nat, k ≤ len ∧ i = .int .i64 k ∧ x = .int .u32 (SM.crc 4294967295 (zs.take k) : Nat)) (fun _ i => len - (intOf i).toNat)
  case atStart => exact ⟨0, by omega, rfl, rfl⟩
  case round =>
    obtain ⟨k, hk, rfl, rfl⟩ := hrel
    have hcl := SM.crc_lt (w := 4294967295) (by omega) (all_take HB.out k)
    by_cases hlt : k < len
    · have hlt' : k < zs.length := by rw [HL.out]; exact hlt
      obtain ⟨b, off, rfl, _, hcell⟩ := HW.out (fun e => by rw [e] at hlt'; simp at hlt')
      have hc := hcell k hlt'
      have hx := all_get HB.out k
      have hn := Lib.hid (crc_next hlt')
      generalize zs.getD k 0 = x at hc hx hn
      generalize SM.crc 4294967295 (zs.take k) = m at hcl hn ⊢
      obtain ⟨J, hJ, hJx, hJe⟩ := sum_idx (m := m) hx
      have hcT : W.cell? ⟨g, J, none⟩ = some (.int .u32 (SM.steps 8 J : Nat)) := (cell_of_row _ _ J _ _ _ hTn.out).trans (hget.out J hJ)
      have hv := Lib.hid (sum_val hcl hx hJe)
      have hJ' : (J : Int) < 256 := by omega
      clear hcell hlt' hJe
      go_wp2
      go_round
      case rel => exact ⟨k + 1, by omega, by go_num, by rw [hn.out, hv.out]⟩
      case measure => simp [intOf]; omega
    · obtain rfl : k = len := by omega
      have hfin := Lib.hid (show zs.take k = zs from List.take_of_length_le (by rw [HL.out]; omega))
      have hnot := Lib.hid (sum_not HB.out)
      go_wp2
      go_ret
      refine HP.out _ _ ?_ hbW
      rw [hfin.out, hnot.out]
      rfl
end Go.Proofs.Ytomlckefkamdgaa
