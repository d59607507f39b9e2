import Derived.Test.YtkjimhlpbgeagaaDoorC0
import Derived.Test.YtkjimhlpbgeagaaDoorC1
import Derived.Test.YtkjimhlpbgeagaaDoorC2
import Derived.Deep.WholeRow
import Derived.Deep.MidRow
import Derived.Deep.RegionHeld3
import Derived.Lib.LazyBuf
/-
  What the functions that a law of this layer reaches answer, part 3. Nothing that was there is written.
-/
namespace Go.Proofs.YtkjimhlpbgeagaaDoor
set_option linter.unusedVariables false
set_option linter.unusedSimpArgs false
section
open Go.RowKit WM
theorem step_any (n : Nat) (w : World) (h : n < 4294967296) :
  Calls Tryd.prog 67 #[.int .u32 n] w fun e w' => e = .returned (.int .u32 (SM.step n : Nat)) ∧ w = w' := by
 by_cases hm : n % 2 = 1
 ·have h1 : ((n : Int) % 2 == 1) = true := by simp; omega
  have hx := Lib.hid (u32_xor ((n : Int) / 2) 3988292384 (by omega) (by omega) (by omega) (by omega))
  have hs := Lib.hid (show SM.step n = (n / 2) ^^^ 3988292384 by rw [SM.step, if_pos hm])
  clear hm
  go_enter Tryd.func67, Tryd.ntmps67
  go_wp2
  go_ret
  refine ⟨?_, rfl⟩
  rw [hs.out, hx.out]
  congr
 ·have h1 : ((n : Int) % 2 == 1) = false := by simp; omega
  have hs := Lib.hid (show SM.step n = n / 2 by rw [SM.step, if_neg hm])
  clear hm
  go_enter Tryd.func67, Tryd.ntmps67
  go_wp2
  go_ret
  refine ⟨?_, rfl⟩
  rw [hs.out]
  simp
theorem fill_any (g i : Nat) (cs : Array Value) (w : World) (hi : i < 256) (hg : w.heap[g]? = some (.cells cs 108 (0, 0))) (hc : cs.size = 256) :
  Calls Tryd.prog 66 #[.int .i64 i, .pointer (some ⟨g, 0, none⟩)] w fun e w' => e = .returned (.tuple #[]) ∧ w.setCell ⟨g, i, none⟩ (.int .u32 (SM.steps 8 i : Nat)) = w' := by
 obtain ⟨old, hcell⟩ : ∃ old, w.cell? ⟨g, i, none⟩ = some old := ⟨cs[i], by rw [cell_of_row w g i cs _ _ hg]; simp⟩
 have hfr : w.frozen? ⟨g, i, none⟩ = false := frozen_of_row w g i cs _ hg
 have b0 : SM.steps 0 i < 4294967296 := by simp [SM.steps]; omega
 have b : ∀ k, SM.steps k i < 4294967296 := fun k => SM.steps_lt k (by omega)
 have HB := Lib.hid b
 have H0 := Lib.hid (show i = SM.steps 0 i from rfl)
 have HG := Lib.hid hg
 clear hg b b0 hc
 go_enter Tryd.func66, Tryd.ntmps66
 go_wp2
 go_loop [3, 6] (fun x j => ∃ k : Nat, k ≤ 8 ∧ j = .int .i64 k ∧ x = .int .u32 (SM.steps k i : Nat)) (fun _ j => 8 - (intOf j).toNat)
 case atStart => exact ⟨0, by omega, rfl, by simp [SM.steps]⟩
 case round =>
  obtain ⟨k, hk, rfl, rfl⟩ := hrel
  by_cases hlt : k < 8
  ·have hb := HB.out k
   go_wp2_with (go_at_call 67; refine (step_any _ _ hb).mono ?_; rintro e w1 ⟨rfl, rfl⟩)
   go_round
   case rel => exact ⟨k + 1, by omega, by go_num, rfl⟩
   case measure => simp [intOf]; omega
  ·obtain rfl : k = 8 := by omega
   go_wp2
   go_end0
   exact ⟨rfl, rfl⟩
def Zs : Array Value := Array.replicate 256 (.int .u32 0)
theorem infoTab : (Tryd.prog.info? 108).map (fun i => (i.zero, i.size)) = some (some (.agg (Array.replicate 256 (.int .u32 0))), 256) := by kernel_rfl
theorem zeroTab (w : World) : (zeroValue 108).run Tryd.prog w = .ok (.agg Zs) w := (zero_of_info infoTab).1 w
theorem sizeTab : (Tryd.prog.info? 108).map (·.size) = some 256 := (zero_of_info infoTab).2
theorem Zs_size : Zs.size = 256 := by simp [Zs]
def tab : Nat → Array Value
 | 0 => Zs
 | k + 1 => (tab k).setIfInBounds k (.int .u32 (SM.steps 8 k : Nat))
theorem tab_size : ∀ k, (tab k).size = 256
 | 0 => Zs_size
 | k + 1 => by rw [tab, Array.size_setIfInBounds, tab_size k]
theorem tab_get : ∀ (k i : Nat), k ≤ 256 → i < k → (tab k)[i]? = some (.int .u32 (SM.steps 8 i : Nat))
 | 0, _, _, h => by omega
 | k + 1, i, hk, h => by
  rw [tab, Array.getElem?_setIfInBounds]
  by_cases e : k = i
  ·subst e; rw [if_pos rfl, if_pos (by rw [tab_size]; omega)]
  ·rw [if_neg e, tab_get k i (by omega) (by omega)]
theorem tab_one : ∀ k, (tab k).all (·.oneCell') = true := by
 intro k
 refine Array.all_eq_true_iff_forall_mem.2 ?_
 induction k with
 | zero => intro v hv; simp [tab, Zs, Array.mem_replicate] at hv; subst hv; rfl
 | succ k ih =>
  intro v hv
  rw [tab] at hv
  obtain ⟨i, hi, rfl⟩ := Array.mem_iff_getElem.1 hv
  have hi' : i < (tab k).size := by simpa using hi
  rw [Array.getElem_setIfInBounds hi']
  split
  ·rfl
  ·exact ih _ (Array.getElem_mem hi')
theorem tab_next (w : World) (k : Nat) : ((w.alloc (.cells Zs 108)).alloc (.cells (tab k) 108)).setCell ⟨w.heap.size + 1, k, none⟩ (.int .u32 (SM.steps 8 k : Nat)) = (w.alloc (.cells Zs 108)).alloc (.cells (tab (k + 1)) 108) := by
 have h := heap_alloc_new (w.alloc (.cells Zs 108)) (.cells (tab k) 108)
 rw [World.size_alloc] at h
 rw [setCell_eq_setRow _ _ k _ _ _ _ h]
 have := World.setRow_alloc_new (w.alloc (.cells Zs 108)) (tab k) (tab (k + 1)) 108
 rw [World.size_alloc] at this
 exact this
theorem fill_tab (w : World) (k : Nat) (hk : k < 256) : Calls Tryd.prog 66 #[.int .i64 k, .pointer (some ⟨w.heap.size + 1, 0, none⟩)] ((w.alloc (.cells Zs 108)).alloc (.cells (tab k) 108))
  fun e w' => e = .returned (.tuple #[]) ∧ (w.alloc (.cells Zs 108)).alloc (.cells (tab (k + 1)) 108) = w' := by
 have h := heap_alloc_new (w.alloc (.cells Zs 108)) (.cells (tab k) 108)
 rw [World.size_alloc] at h
 rw [← tab_next]
 exact fill_any _ k (tab k) _ hk h (tab_size k)
theorem setRow_old (w : World) (c c' : Array Value) (t : TypeId) (o : Obj) : ((w.alloc (.cells c t)).alloc o).setRow w.heap.size c' = (w.alloc (.cells c' t)).alloc o := by
 rw [← World.setRow_alloc_new w c c' t]
 simp only [World.setRow, World.alloc]
 congr 1
 apply Array.ext_getElem?
 intro i
 rw [Array.getElem?_modify]
 by_cases h : w.heap.size = i
 ·subst h
  rw [Array.getElem?_push, Array.getElem?_push, Array.getElem?_push, Array.getElem?_modify, Array.getElem?_push]
  simp
 ·simp only [h, if_false, Array.getElem?_push, Array.getElem?_modify, Array.size_push, Array.size_modify]
def TabPost (w : World) (e : Ending) (w' : World) : Prop := e = .returned (.agg (tab 256)) ∧ Below w.heap.size w w'
set_option maxHeartbeats 400000 in
set_option maxRecDepth 100000 in
theorem stepped_any (w : World) : Calls Tryd.prog 48 #[] w (TabPost w) := by
 have hz := zeroTab
 have hmf : ∀ (fn : Fn) (first cap : Array Value) (w : World), (Instr.makeFunc fn first cap).run Tryd.prog w = .ok (.func fn first cap) w := fun _ _ _ _ => rfl
 have hF := Lib.hid (fill_tab w)
 have h0 := Lib.hid (show Zs = tab 0 from rfl)
 have hP : Hid (∀ e w', e = .returned (.agg (tab 256)) → Below w.heap.size w w' → TabPost w e w') := Lib.hid (fun _ _ h1 h2 => ⟨h1, h2⟩)
 have hZT := Lib.hid (show Zs.size = (tab 256).size by rw [Zs_size, tab_size])
 have h1 := Lib.hid (tab_one 256)
 have hI := Lib.hid (show (Tryd.prog.info? 108).map (·.size) = some (tab 256).size by rw [sizeTab, tab_size])
 generalize tab = tb at *
 generalize Zs = Z at *
 go_enter Tryd.func48, Tryd.ntmps48
 go_wp2
 go_loopw [5] (fun i wr => ∃ k : Nat, k ≤ 256 ∧ i = .int .i64 k ∧ (w.alloc (.cells Z 108)).alloc (.cells (tb k) 108) = wr) (fun i _ => 256 - (intOf i).toNat)
 case atStart => exact ⟨0, by omega, rfl, by rw [← h0.out]⟩
 case round =>
  obtain ⟨k, hk, rfl, rfl⟩ := hrel
  by_cases hlt : k < 256
  ·go_wp2_with (go_at_call 66; refine (hF.out k hlt).mono ?_; rintro e w1 ⟨rfl, rfl⟩)
   go_roundw
   case rel => exact ⟨k + 1, by omega, by go_num, rfl⟩
   case measure => simp [intOf]; omega
  ·obtain rfl : k = 256 := by omega
   generalize tb 256 = T at *
   have hnew := Lib.hid (heap_alloc2_new w (.cells Z 108) (.cells T 108))
   have hold := Lib.hid (heap_alloc2_old w (.cells Z 108) (.cells T 108))
   have hrow := Lib.hid (setRow_old w Z T 108 (.cells T 108))
   clear hF h0
   go_wp2
   rename_i hK
   refine wp_load_row _ _ rfl (w.heap.size + 1) (by rfl) 108 T (0, 0) _ hnew.out Tryd.underlying108 rfl hI.out ?_
   refine hK _ _ ?_
   refine wpList_store_row rfl _ _ _ rfl w.heap.size T (by rfl) (by rfl) 108 Z hold.out hI.out hZT.out h1.out ?_
   rw [hrow.out]
   go_wp2
   refine bodyPost_ret (v := .agg T) (by exact results_cell_row Tryd.results48 _ _ w.heap.size 108 T (0, 0) _ rfl (heap_alloc2_old w _ _) Tryd.underlying108 rfl hI.out) (by rfl) (hP.out _ _ rfl (((Below.refl _ _).alloc (Nat.le_refl _) _).alloc (by simp) _))
theorem tab_put (w : World) : (w.alloc (.cells Zs 108)).setRow w.heap.size (tab 256) = w.alloc (.cells (tab 256) 108) := World.setRow_alloc_new w _ _ _
def SumPost (zs : List Int) (w : World) (e : Ending) (w' : World) : Prop := e = .returned (.int .u32 (SM.sum zs)) ∧ Below w.heap.size w w'
theorem crc_next {zs : List Int} {k : Nat} (hk : k < zs.length) : SM.crc 4294967295 (zs.take (k + 1)) = SM.take1 (SM.crc 4294967295 (zs.take k)) (zs.getD k 0) := by
 rw [List.take_succ_eq_append_getElem hk, SM.crc_snoc, List.getD, List.getElem?_eq_getElem hk, Option.getD_some]
theorem sum_idx {m : Nat} {x : Int} (hx : 0 ≤ x ∧ x ≤ 255) : ∃ J : Nat, J < 256 ∧ bits .xor .u8 ((m : Int) % 256) x = J ∧ J = (m % 256) ^^^ x.toNat := by
 refine ⟨(m % 256) ^^^ x.toNat, Nat.xor_lt_two_pow (n := 8) (by omega) (by omega), ?_, rfl⟩
 rw [u8_xor _ _ (by omega) (by omega) (by omega) (by omega)]
 congr
theorem sum_val {m J : Nat} {x : Int} (hm : m < 4294967296) (hx : 0 ≤ x ∧ x ≤ 255) (hJ : J = (m % 256) ^^^ x.toNat) : bits .xor .u32 ((m : Int) / 256) (SM.steps 8 J : Nat) = (SM.take1 m x : Nat) := by
 have h8 : SM.steps 8 J < 4294967296 := SM.steps_lt 8 (by rw [hJ]; exact Nat.xor_lt_two_pow (n := 32) (by omega) (by omega))
 rw [u32_xor _ _ (by omega) (by omega) (by omega) (by omega), SM.take1, SM.table, ← hJ]
 congr
theorem sum_not {zs : List Int} (hb : AllBytes zs) : bits .xor .u32 IntKind.u32.max (SM.crc 4294967295 zs : Nat) = SM.sum zs := by
 have h := SM.crc_lt (w := 4294967295) (by omega) hb
 rw [show IntKind.u32.max = 4294967295 by rfl, u32_xor _ _ (by omega) (by omega) (by omega) (by omega), SM.sum]
 have := SM.not_xor h
 simp only [Int.toNat_natCast, show Int.toNat 4294967295 = 4294967295 by rfl]
 rw [← this]
 omega
set_option maxHeartbeats 400000 in
set_option maxRecDepth 100000 in
theorem sum_any {B : Nat} (A : Option Addr) (len cap : Nat) (zs : List Int) (w : World) (h : Byt w B A zs) (hl : zs.length = len) (hb : AllBytes zs) (hm : len ≤ maxLen) (hB : B ≤ w.heap.size) :
  Calls Tryd.prog 30 #[.slice A len cap] w (SumPost zs w) := by
 unfold maxLen at hm
 have hz := zeroTab
 have HL := Lib.hid hl
 have HH := Lib.hid h
 have HB := Lib.hid hb
 have hI := Lib.hid (show (Tryd.prog.info? 108).map (·.size) = some (tab 256).size by rw [sizeTab, tab_size])
 have hZT := Lib.hid (show Zs.size = (tab 256).size by rw [Zs_size, tab_size])
 have h1 := Lib.hid (tab_one 256)
 have hput := Lib.hid tab_put
 have hget := Lib.hid (fun i => tab_get 256 i (Nat.le_refl _))
 have hst := Lib.hid stepped_any
 unfold TabPost at hst
 have HP : Hid (∀ e w', e = .returned (.int .u32 (SM.sum zs)) → Below w.heap.size w w' → SumPost zs w e w') := Lib.hid (fun _ _ h1 h2 => ⟨h1, h2⟩)
 clear hl h hb
 generalize tab 256 = T at *
 generalize Zs = Z at *
 go_enter Tryd.func30, Tryd.ntmps30
 go_wp2_with fail
 refine (hst.out _).mono ?_
 rintro e w1 ⟨rfl, hb1⟩
 have hnew := Lib.hid (heap_alloc_new w1 (.cells Z 108))
 have hs1 := hb1.size
 go_wp2_with (refine wpList_store_row (o := ⟨none, .store 108 (.tmp 3) (.tmp 7), _, _, _, _⟩) rfl _ _ _ rfl w1.heap.size T (by rfl) (by rfl) 108 Z hnew.out hI.out hZT.out h1.out ?_; rw [hput.out])
 have hbW : Below w.heap.size w (w1.alloc (.cells T 108)) := hb1.alloc hs1 _
 have HW := Lib.hid (HH.out.below (hbW.mono hB))
 have hTn := Lib.hid (heap_alloc_new w1 (.cells T 108))
 clear hb1 hnew hst hput hZT h1 HH hz hI
 generalize w1.alloc (.cells T 108) = W at *
 generalize w1.heap.size = g at *
 go_loop [4, 10] (fun x i => ∃ k : Nat, k ≤ len ∧ i = .int .i64 k ∧ x = .int .u32 (SM.crc 4294967295 (zs.take k) : Nat)) (fun _ i => len - (intOf i).toNat)
 case atStart => exact ⟨0, by omega, rfl, rfl⟩
 case round =>
  obtain ⟨k, hk, rfl, rfl⟩ := hrel
  have hcl := SM.crc_lt (w := 4294967295) (by omega) (all_take HB.out k)
  by_cases hlt : k < len
  ·have hlt' : k < zs.length := by rw [HL.out]; exact hlt
   obtain ⟨b, off, rfl, _, hcell⟩ := HW.out (fun e => by rw [e] at hlt'; simp at hlt')
   have hc := hcell k hlt'
   have hx := all_get HB.out k
   have hn := Lib.hid (crc_next hlt')
   generalize zs.getD k 0 = x at hc hx hn
   generalize SM.crc 4294967295 (zs.take k) = m at hcl hn ⊢
   obtain ⟨J, hJ, hJx, hJe⟩ := sum_idx (m := m) hx
   have hcT : W.cell? ⟨g, J, none⟩ = some (.int .u32 (SM.steps 8 J : Nat)) := (cell_of_row _ _ J _ _ _ hTn.out).trans (hget.out J hJ)
   have hv := Lib.hid (sum_val hcl hx hJe)
   have hJ' : (J : Int) < 256 := by omega
   clear hcell hlt' hJe
   go_wp2
   go_round
   case rel => exact ⟨k + 1, by omega, by go_num, by rw [hn.out, hv.out]⟩
   case measure => simp [intOf]; omega
  ·obtain rfl : k = len := by omega
   have hfin := Lib.hid (show zs.take k = zs from List.take_of_length_le (by rw [HL.out]; omega))
   have hnot := Lib.hid (sum_not HB.out)
   go_wp2
   go_ret
   refine HP.out _ _ ?_ hbW
   rw [hfin.out, hnot.out]
   rfl
end
section
open Go.RowKit WM
def beg : List Int → Option (Nat × Nat)
 | [] => none
 | k :: t => if 9 < k then none else match dec t with
  | none => none
  | some (n, u) => if 100000 < n then none else some (1 + u, n.toNat)
def begV : Option (Nat × Nat) → Value
 | none => .tuple #[.int .i64 0, .int .i64 0, .bool false]
 | some (h, n) => .tuple #[.int .i64 h, .int .i64 n, .bool true]
theorem begin_empty (A : Option Addr) (cap : Nat) (w : World) : Calls Tryd.prog 35 #[.slice A 0 cap] w fun e w' => e = .returned (begV none) ∧ w = w' := by
 unfold begV
 go_enter Tryd.func35, Tryd.ntmps35
 go_wp2
 go_ret3
 exact ⟨rfl, rfl⟩
theorem begin_kind (b off len cap : Nat) (k : Int) (w : World) (hc : w.cell? ⟨b, off, none⟩ = some (.int .u8 k)) (hk : 9 < k) (hk' : k ≤ 255) (hl : 0 < len) (hm : len ≤ maxLen) : Calls Tryd.prog 35 #[.slice (some ⟨b, off, none⟩) len cap] w fun e w' => e = .returned (begV none) ∧ w = w' := by
 unfold begV
 unfold maxLen at hm
 have h0 : ((len : Int) == 0) = false := by simp; omega
 go_enter Tryd.func35, Tryd.ntmps35
 go_wp2
 go_ret3
 exact ⟨rfl, rfl⟩
def restA (A : Option Addr) (k cap : Nat) : Option Addr := if cap = k then A else A.map (·.add k)
theorem begin_get (b off len cap : Nat) (k : Int) (w : World) (r : Option (Int × Nat)) (hc : w.cell? ⟨b, off, none⟩ = some (.int .u8 k)) (hk0 : 0 ≤ k) (hk : k ≤ 9) (hl : 0 < len) (hlc : len ≤ cap) (hm : cap ≤ maxLen)
  (hr : ∀ n u, r = some (n, u) → 0 ≤ n ∧ n ≤ 18446744073709551615 ∧ u + 1 ≤ len)
  (hg : Calls Tryd.prog 52 #[.slice (restA (some ⟨b, off, none⟩) 1 cap) (len - 1) (cap - 1)] w fun e w' => e = .returned (getV r) ∧ w = w') :
  Calls Tryd.prog 35 #[.slice (some ⟨b, off, none⟩) len cap] w fun e w' => e = .returned (begV (r.bind fun p => if 100000 < p.1 then none else some (1 + p.2, p.1.toNat))) ∧ w = w' := by
 unfold maxLen at hm
 have h0 : ((len : Int) == 0) = false := by simp; omega
 have HG := Lib.hid hg
 have HR := Lib.hid hr
 clear hg hr
 unfold restA at HG
 by_cases hc1 : cap = 1
 ·obtain rfl : len = 1 := by omega
  subst hc1
  rw [if_pos rfl] at HG
  cases r with
  | none =>
   simp only [getV, Option.bind_none, begV] at HG ⊢
   go_enter Tryd.func35, Tryd.ntmps35
   go_wp2_with (go_at_call 52; refine HG.out.mono ?_; rintro e w1 ⟨rfl, rfl⟩)
   go_ret3
   exact ⟨rfl, rfl⟩
  | some p =>
   obtain ⟨n, u⟩ := p
   obtain ⟨r0, r1, r2⟩ := HR.out n u rfl
   clear HR
   by_cases hn : 100000 < n
   ·simp only [getV, Option.bind_some, if_pos hn, begV] at HG ⊢
    go_enter Tryd.func35, Tryd.ntmps35
    go_wp2_with (go_at_call 52; refine HG.out.mono ?_; rintro e w1 ⟨rfl, rfl⟩)
    go_ret3
    exact ⟨rfl, rfl⟩
   ·obtain ⟨N, rfl⟩ : ∃ N : Nat, n = N := ⟨n.toNat, by omega⟩
    simp only [getV, Option.bind_some, if_neg hn, begV, Int.toNat_natCast] at HG ⊢
    go_enter Tryd.func35, Tryd.ntmps35
    go_wp2_with (go_at_call 52; refine HG.out.mono ?_; rintro e w1 ⟨rfl, rfl⟩)
    go_ret3
    exact ⟨ret3 (by go_num) rfl rfl, rfl⟩
 ·rw [if_neg hc1] at HG
  simp only [Option.map_some, Addr.add_lit] at HG
  cases r with
  | none =>
   simp only [getV, Option.bind_none, begV] at HG ⊢
   go_enter Tryd.func35, Tryd.ntmps35
   go_wp2_with (go_at_call 52; refine HG.out.mono ?_; rintro e w1 ⟨rfl, rfl⟩)
   go_ret3
   exact ⟨rfl, rfl⟩
  | some p =>
   obtain ⟨n, u⟩ := p
   obtain ⟨r0, r1, r2⟩ := HR.out n u rfl
   clear HR
   by_cases hn : 100000 < n
   ·simp only [getV, Option.bind_some, if_pos hn, begV] at HG ⊢
    go_enter Tryd.func35, Tryd.ntmps35
    go_wp2_with (go_at_call 52; refine HG.out.mono ?_; rintro e w1 ⟨rfl, rfl⟩)
    go_ret3
    exact ⟨rfl, rfl⟩
   ·obtain ⟨N, rfl⟩ : ∃ N : Nat, n = N := ⟨n.toNat, by omega⟩
    simp only [getV, Option.bind_some, if_neg hn, begV, Int.toNat_natCast] at HG ⊢
    go_enter Tryd.func35, Tryd.ntmps35
    go_wp2_with (go_at_call 52; refine HG.out.mono ?_; rintro e w1 ⟨rfl, rfl⟩)
    go_ret3
    exact ⟨ret3 (by go_num) rfl rfl, rfl⟩
theorem begin_any {B : Nat} (A : Option Addr) (len cap : Nat) (zs : List Int) (w : World) (h : Byt w B A zs) (hl : zs.length = len) (hb : AllBytes zs) (hlc : len ≤ cap) (hm : cap ≤ maxLen) :
  Calls Tryd.prog 35 #[.slice A len cap] w fun e w' => e = .returned (begV (beg zs)) ∧ w = w' := by
 match zs, hl, hb, h with
 | [], hl, _, _ => obtain rfl : 0 = len := hl; exact begin_empty A cap w
 | k :: t, hl, hb, h =>
  have hk := hb k (by simp)
  obtain ⟨b, off, rfl, hbB, hc⟩ := h (by simp)
  have hc0 : w.cell? ⟨b, off, none⟩ = some (.int .u8 k) := hc 0 (by simp)
  simp only [List.length_cons] at hl
  by_cases h9 : 9 < k
  ·rw [beg, if_pos h9]
   exact begin_kind b off len cap k w hc0 h9 hk.2 (by omega) (by omega)
  ·rw [beg, if_neg h9]
   have hbt : AllBytes t := fun z hz => hb z (by simp [hz])
   have hg := get_any (restA (some ⟨b, off, none⟩) 1 cap) (len - 1) (cap - 1) t w (by have := h.drop (k := 1) (cap := cap) (by simp; omega); simpa [restA] using this) (by omega) hbt (by omega)
   have := begin_get b off len cap k w (dec t) hc0 hk.1 (by omega) (by omega) hlc hm (fun n u e => by
    obtain ⟨_, k2, _, k4, k5⟩ := dec_some hbt e
    exact ⟨k4, k5, by omega⟩) hg
   match hd : dec t with
   | none => rw [hd] at this; exact this
   | some (n, u) => rw [hd] at this; exact this
end
section
open Go.RowKit WM
def word (n : Int) : List Int := [n / 16777216, n / 65536 % 256, n / 256 % 256, n % 256]
theorem word_bytes {n : Int} (h0 : 0 ≤ n) (h1 : n ≤ 4294967295) : AllBytes (word n) := by
 intro z hz
 simp [word] at hz
 omega
def wordRow (n : Int) : Obj := .cells #[.int .u8 (n / 16777216), .int .u8 (n / 65536 % 256), .int .u8 (n / 256 % 256), .int .u8 (n % 256)] 5
set_option maxHeartbeats 400000 in
theorem word_any (n : Int) (w : World) (h0 : 0 ≤ n) (h1 : n ≤ 4294967295) :
  Calls Tryd.prog 29 #[.int .u32 n] w fun e w' => e = .returned (.slice (some ⟨w.heap.size, 0, none⟩) 4 4) ∧ w.alloc (wordRow n) = w' := by
 have mk := make4
 unfold wordRow
 go_enter Tryd.func29, Tryd.ntmps29
 go_wp2
 refine wp_loop_rounds 5 ?_
 rw [rounds_succ]; go_wp2
 rw [rounds_succ]; go_wp2
 rw [rounds_succ]; go_wp2
 rw [rounds_succ]; go_wp2
 rw [rounds_succ]; go_wp2
 go_ret
 exact ⟨rfl, rfl⟩
theorem word_gives (n : Int) (w : World) (h0 : 0 ≤ n) (h1 : n ≤ 4294967295) : Calls Tryd.prog 29 #[.int .u32 n] w (Gives w (word n)) := by
 refine (word_any n w h0 h1).mono ?_
 rintro e w' ⟨rfl, rfl⟩
 exact ⟨_, _, _, rfl, rfl, Nat.le_refl _, by decide, own_new w w.heap.size (Nat.le_refl _) 5 (word n) (by simp [word, maxLen]), (Below.refl _ _).alloc (Nat.le_refl _) _⟩
end
section
open Go.RowKit WM
set_option maxRecDepth 100000
def packHead (k : Int) (zs : List Int) : List Int := [k] ++ enc zs.length ++ zs
def packL (k : Int) (zs : List Int) : List Int := packHead k zs ++ word (SM.sum (packHead k zs))
theorem head_bytes {k : Int} {zs : List Int} (h0 : 0 ≤ k) (h9 : k ≤ 9) (hb : AllBytes zs) : AllBytes (packHead k zs) :=
 all_append (all_append (fun z hz => by simp at hz; omega) (enc_bytes _)) hb
theorem pack_bytes {k : Int} {zs : List Int} (h0 : 0 ≤ k) (h9 : k ≤ 9) (hb : AllBytes zs) : AllBytes (packL k zs) :=
 all_append (head_bytes h0 h9 hb) (word_bytes (SM.sum_range (head_bytes h0 h9 hb)).1 (SM.sum_range (head_bytes h0 h9 hb)).2)
theorem pack_len (k : Int) (zs : List Int) : (packL k zs).length = 1 + (enc zs.length).length + zs.length + 4 := by simp [packL, packHead, word]; omega
theorem own_len {w : World} {base m n M : Nat} {v : Value} {zs : List Int} (h : w.ownsRow base 5 1 v m (zs.map (Value.int .u8))) (hn : zs.length = n) (hm : m ≤ M) : n ≤ M := by
 have := h.1
 rw [List.length_map] at this
 omega
theorem word_four {x : Int} {n : Nat} (h : (word x).length = n) : n ≤ 4 := by rw [← h]; simp [word]
set_option maxHeartbeats 1000000 in
theorem pack_yes {B : Nat} (k : Int) (A : Option Addr) (len cap : Nat) (zs : List Int) (w : World) (h0 : 0 ≤ k) (h9 : k ≤ 9) (hlen : len ≤ 100000) (h : Byt w B A zs) (hl : zs.length = len) (hb : AllBytes zs) (hB : B ≤ w.heap.size) (hnil : A = none → cap = 0) :
  Calls Tryd.prog 16 #[.int .i64 k, .slice A len cap] w (GivesT w (packL k zs)) := by
 obtain ⟨i0, hi, hz0, hz1, hz2⟩ := info_parts infoByte
 have HH := Lib.hid h
 have HL := Lib.hid hl
 have HB := Lib.hid hb
 have HN := Lib.hid hnil
 clear h hl hb hnil
 go_enter Tryd.func16, Tryd.ntmps16
 go_wp2_with fail
 have hel := enc_len len
 refine (put_gives len _ (by omega) (by omega)).mono ?_
 rintro e w1 ⟨A1, n1, c1, rfl, hn1, hnc1, hcm1, hown1, hb1⟩
 rw [World.size_alloc] at hb1
 have hbw : Below w.heap.size w w1 := ((Below.refl _ _).alloc (Nat.le_refl _) _).trans (hb1.mono (by omega))
 have ho1 := own_below (own_new w w.heap.size (Nat.le_refl _) 5 [k] (by simp only [maxLen, List.length_singleton]; omega)) (by rw [World.size_alloc]; exact hb1)
 have hby1 := Byt.own (zs := enc len) hown1
 have hnil1 := own_nil hown1
 have HN1 := Lib.hid hn1
 rw [hn1] at hel
 clear hn1 hown1 hb1
 have HE := Lib.hid (show [k] ++ enc len ++ zs = packHead k zs by rw [packHead, HL.out])
 have hhb := Lib.hid (head_bytes h0 h9 HB.out)
 have hsr := SM.sum_range hhb.out
 have hwb := Lib.hid (word_bytes hsr.1 hsr.2)
 have HF := Lib.hid (show packHead k zs ++ word (SM.sum (packHead k zs)) = packL k zs from rfl)
 generalize packHead k zs = H at *
 generalize packL k zs = R at *
 go_wp2_with (first
  | (at_builtin; refine wpList_append_byt (o := ⟨some 25, _, _, _, _, _⟩) _ rfl _ _ 27 rfl w.heap.size 5 i0 Tryd.underlying27 hi hz0 hz1 hz2 _ 1 [k] rfl ho1 w1.heap.size A1 n1 c1 (enc len) rfl hby1 HN1.out hnil1 (by omega) hbw.size ?_; intro v2 w2 ho2 hg2; have hb2 := hbw.grown hg2 hbw.size (fun g hg => own_base ho1 hg); have hby2 := HH.out.below (hb2.mono hB); clear hg2 hby1 hnil1 ho1)
  | (at_builtin; refine wpList_append_byt (o := ⟨some 28, _, _, _, _, _⟩) _ rfl _ _ 27 rfl w.heap.size 5 i0 Tryd.underlying27 hi hz0 hz1 hz2 _ (1 + n1) ([k] ++ enc len) rfl ho2 B A len cap zs rfl hby2 HL.out HN.out (by omega) hb2.size ?_; intro v3 w3 ho3 hg3; have hb3 := hb2.grown hg3 hb2.size (fun g hg => own_base ho2 hg); rw [HE.out] at ho3; clear hg3 hby2 ho2; obtain ⟨A3, n3, c3, hv3, hn3, hnc3, hcm3, ho3', hb3'⟩ := gives_own ho3 hb3; injection hv3 with hv3; subst hv3; have hby3 := Lib.hid (Byt.own ho3'); have HN3 := Lib.hid hn3; have hn3' : n3 ≤ 100100 := own_len ho3 hn3 (by omega); clear hn3 ho3 hb3')
  | (go_at_call 30; refine (sum_any A3 n3 c3 H _ hby3.out HN3.out hhb.out (Nat.le_trans hnc3 hcm3) (Nat.le_refl _)).mono ?_; rintro e w4 ⟨rfl, hb4⟩; have ho4 := own_below ho3' hb4; have hbw4 := hb3.trans (hb4.mono hb3.size); clear ho3' hb4)
  | (go_at_call 29; refine (word_gives _ _ hsr.1 hsr.2).mono ?_; rintro e w5 ⟨A5, n5, c5, rfl, hn5, hnc5, hcm5, hown5, hb5⟩; have ho5 := own_below ho4 hb5; have hbw5 := hbw4.trans (hb5.mono hbw4.size); have hby5 := Byt.own hown5; have hnil5 := own_nil hown5; have HN5 := Lib.hid hn5; have hn5' : n5 ≤ 4 := word_four hn5; clear hn5 ho4 hb5)
  | (at_builtin; refine wpList_append_byt (o := ⟨some 33, _, _, _, _, _⟩) _ rfl _ _ 27 rfl w.heap.size 5 i0 Tryd.underlying27 hi hz0 hz1 hz2 _ n3 H rfl ho5 w5.heap.size A5 n5 c5 (word (SM.sum H)) rfl hby5 HN5.out hnil5 (by omega) hbw5.size ?_; intro v6 w6 ho6 hg6; have hb6 := hbw5.grown hg6 hbw5.size (fun g hg => own_base ho5 hg); rw [HF.out] at ho6; clear hg6 hby5 ho5))
 go_ret2
 exact givesT_own ho6 hb6
end
section
open Go.RowKit WM
theorem equal_any {B1 B2 : Nat} (A1 A2 : Option Addr) (n1 c1 n2 c2 : Nat) (xs ys : List Int) (w : World) (b : Bool) (hb : decide (xs = ys) = b) (h1 : Byt w B1 A1 xs) (l1 : xs.length = n1) (h2 : Byt w B2 A2 ys) (l2 : ys.length = n2) (hx : AllBytes xs) (hy : AllBytes ys) :
  Calls Tryd.prog 36 #[.slice A1 n1 c1, .slice A2 n2 c2] w fun e w' => e = .returned (.bool b) ∧ w = w' := by
 have t1 := h1.text (P := Tryd.prog) (cap := c1) l1 27 5 9 Tryd.underlying27 Tryd.underlying5 Tryd.underlying9
 have t2 := h2.text (P := Tryd.prog) (cap := c2) l2 27 5 9 Tryd.underlying27 Tryd.underlying5 Tryd.underlying9
 have he := str_eq hx hy
 rw [hb] at he
 clear hb h1 h2 l1 l2 hx hy
 go_enter Tryd.func36, Tryd.ntmps36
 go_wp2
 go_ret
 exact ⟨rfl, rfl⟩
set_option maxHeartbeats 400000 in
theorem clone_any {B : Nat} (ad : Addr) (n c : Nat) (zs : List Int) (w : World) (h : Byt w B (some ad) zs) (hl : zs.length = n) (hn : n ≤ 100000) (hB : B ≤ w.heap.size) :
  Calls Tryd.prog 37 #[.slice (some ad) n c] w (Gives w zs) := by
 obtain ⟨i0, hi, hz0, hz1, hz2⟩ := info_parts infoByte
 have ho := own_new w w.heap.size (Nat.le_refl _) 5 [] (by simp)
 have hby := h.below (((Below.refl w.heap.size w).alloc (Nat.le_refl _) (.cells #[] 5)).mono hB)
 have HL := Lib.hid hl
 have heq : (binOp .eql 27 (.slice (some ad) n c) (.slice none 0 0)).run Tryd.prog w = .ok (.bool false) w := run_eql_slice_nil w _ 5 (some ad) n c Tryd.underlying27
 clear h hl
 go_enter Tryd.func37, Tryd.ntmps37
 go_wp2_with (at_builtin; refine wpList_append_byt _ rfl _ _ 27 rfl w.heap.size 5 i0 Tryd.underlying27 hi hz0 hz1 hz2 _ 0 [] rfl ho B (some ad) n c zs rfl hby HL.out (fun e => by cases e) (by omega) (by simp) ?_; intro v2 w2 ho2 hg2)
 go_ret
 exact gives_own ho2 (((Below.refl _ _).alloc (Nat.le_refl _) _).grown hg2 (by simp) (fun g hg => own_base ho hg))
inductive Opn where
 | form
 | check
 | ok (k : Int) (b : List Int) (n : Nat)
def opn (zs : List Int) : Opn :=
 match beg zs with
 | none => .form
 | some (h, n) => if zs.length < h + n + 4 then .form else
  if (zs.drop (h + n)).take 4 = word (SM.sum (zs.take (h + n))) then .ok (zs.getD 0 0) ((zs.drop h).take n) (h + n + 4) else .check
def OpenPost (w : World) : Opn → Ending → World → Prop
 | .form, e, w' => e = .returned (.tuple #[.int .i64 0, .slice none 0 0, .int .i64 0, .int .i64 2]) ∧ Below w.heap.size w w'
 | .check, e, w' => e = .returned (.tuple #[.int .i64 0, .slice none 0 0, .int .i64 0, .int .i64 3]) ∧ Below w.heap.size w w'
 | .ok k b n, e, w' => ∃ A l c, e = .returned (.tuple #[.int .i64 k, .slice A l c, .int .i64 n, .int .i64 0]) ∧ b.length = l ∧ l ≤ c ∧ c ≤ maxLen ∧ w'.ownsRow w.heap.size 5 1 (.slice A l c) l (b.map (Value.int .u8)) ∧ Below w.heap.size w w'
theorem beg_some {zs : List Int} {h n : Nat} (hb : AllBytes zs) (e : beg zs = some (h, n)) : 2 ≤ h ∧ h ≤ zs.length ∧ h ≤ 11 ∧ n ≤ 100000 ∧ ∃ k t, zs = k :: t ∧ 0 ≤ k ∧ k ≤ 9 ∧ dec t = some ((n : Int), h - 1) := by
 match zs, hb, e with
 | k :: t, hb, e =>
  have hk := hb k (by simp)
  rw [beg] at e
  split at e
  ·cases e
  ·split at e
   ·cases e
   ·rename_i n' u hd
    have hbt : AllBytes t := fun z hz => hb z (by simp [hz])
    obtain ⟨k1, k2, k3, k4, k5⟩ := dec_some hbt hd
    have h10 := (enc_len n').2
    rw [k3, List.length_take] at h10
    split at e
    ·cases e
    ·simp only [Option.some.injEq, Prod.mk.injEq] at e
     obtain ⟨rfl, rfl⟩ := e
     refine ⟨by omega, by simp; omega, by omega, by omega, k, t, rfl, hk.1, by omega, ?_⟩
     rw [hd]
     simp
     omega
theorem open_none {B : Nat} (A : Option Addr) (len cap : Nat) (zs : List Int) (w : World) (h : Byt w B A zs) (hl : zs.length = len) (hb : AllBytes zs) (hlc : len ≤ cap) (hm : cap ≤ maxLen) (hd : beg zs = none) :
  Calls Tryd.prog 19 #[.slice A len cap] w (OpenPost w .form) := by
 have hg := begin_any A len cap zs w h hl hb hlc hm
 rw [hd] at hg
 simp only [begV] at hg
 have HG := Lib.hid hg
 clear hg hd hl hb h
 simp only [maxLen] at hm
 go_enter Tryd.func19, Tryd.ntmps19
 go_wp2_with (go_at_call 35; refine HG.out.mono ?_; rintro e w1 ⟨rfl, rfl⟩)
 exact bodyPost_ret (v := .tuple #[.int .i64 0, .slice none 0 0, .int .i64 0, .int .i64 2]) (by simp [results, Tryd.results19, go_sem]) rfl ⟨rfl, Below.refl _ _⟩
theorem open_short {B : Nat} (A : Option Addr) (len cap : Nat) (zs : List Int) (w : World) (u n : Nat) (h : Byt w B A zs) (hl : zs.length = len) (hb : AllBytes zs) (hlc : len ≤ cap) (hm : cap ≤ maxLen) (hd : beg zs = some (u, n)) (hs : len < u + n + 4) :
  Calls Tryd.prog 19 #[.slice A len cap] w (OpenPost w .form) := by
 have hg := begin_any A len cap zs w h hl hb hlc hm
 rw [hd] at hg
 simp only [begV] at hg
 obtain ⟨b1, b2, b3, b4, _⟩ := beg_some hb hd
 rw [hl] at b2
 have HG := Lib.hid hg
 clear hg hd hl hb h
 simp only [maxLen] at hm
 have ht : (len : Int) - u < n + 4 := by omega
 go_enter Tryd.func19, Tryd.ntmps19
 go_wp2_with (go_at_call 35; refine HG.out.mono ?_; rintro e w1 ⟨rfl, rfl⟩)
 exact bodyPost_ret (v := .tuple #[.int .i64 0, .slice none 0 0, .int .i64 0, .int .i64 2]) (by simp [results, Tryd.results19, go_sem]) rfl ⟨rfl, Below.refl _ _⟩
end
section
open Go.RowKit WM
theorem head_len (k : Int) (b : List Int) : (packHead k b).length = 1 + (enc b.length).length + b.length := by simp [packHead]; omega
theorem beg_head {k : Int} {n : Nat} (t : List Int) (h9 : k ≤ 9) (hn : n ≤ 100000) : beg (k :: (enc n ++ t)) = some (1 + (enc n).length, n) := by
 rw [beg, if_neg (by omega), dec_enc n t (by omega) (by omega)]
 simp only [if_neg (show ¬ (100000 : Int) < n by omega)]
 simp
theorem opn_is (k : Int) (b wd rest : List Int) (h9 : k ≤ 9) (hn : b.length ≤ 100000) (h4 : wd.length = 4) :
  opn (packHead k b ++ (wd ++ rest)) = if wd = word (SM.sum (packHead k b)) then .ok k b ((packHead k b).length + 4) else .check := by
 have e0 : packHead k b ++ (wd ++ rest) = k :: (enc b.length ++ (b ++ (wd ++ rest))) := by simp [packHead]
 have hl := head_len k b
 have hb : beg (packHead k b ++ (wd ++ rest)) = some (1 + (enc b.length).length, b.length) := by rw [e0]; exact beg_head _ h9 hn
 rw [opn, hb]
 simp only []
 rw [if_neg (by simp only [List.length_append]; omega), List.drop_left' (by omega), List.take_left' h4, List.take_left' (by omega)]
 have e1 : packHead k b ++ (wd ++ rest) = ([k] ++ enc b.length) ++ (b ++ (wd ++ rest)) := by simp [packHead]
 have e2 : (packHead k b ++ (wd ++ rest)).getD 0 0 = k := by rw [e0]; rfl
 have e3 : (List.drop (1 + (enc b.length).length) (packHead k b ++ (wd ++ rest))).take b.length = b := by
  rw [e1, List.drop_left' (by simp; omega), List.take_left' rfl]
 rw [e2, e3, hl]
theorem word_len (x : Int) : (word x).length = 4 := rfl
theorem opn_pack (k : Int) (b rest : List Int) (h9 : k ≤ 9) (hn : b.length ≤ 100000) : opn (packL k b ++ rest) = .ok k b (packL k b).length := by
 rw [packL, List.append_assoc, opn_is k b _ rest h9 hn (word_len _), if_pos rfl, List.length_append, word_len]
theorem opn_ok {zs : List Int} {k : Int} {b : List Int} {n : Nat} (hb : AllBytes zs) (h : opn zs = .ok k b n) : 0 ≤ k ∧ k ≤ 9 ∧ b.length ≤ 100000 ∧ n ≤ zs.length ∧ packL k b = zs.take n ∧ AllBytes b := by
 rw [opn] at h
 match hg : beg zs with
 | none => rw [hg] at h; cases h
 | some (u, m) =>
  rw [hg] at h
  simp only [] at h
  obtain ⟨b1, b2, b3, b4, k0, t, rfl, k1, k2, hd⟩ := beg_some hb hg
  split at h
  ·cases h
  ·rename_i hs
   split at h
   ·rename_i hq
    injection h with h1 h2 h3
    subst h1 h2 h3
    have hbt : AllBytes t := fun z hz => hb z (by simp [hz])
    obtain ⟨_, d2, d3, d4, d5⟩ := dec_some hbt hd
    have hlen : (List.take m (List.drop u (k0 :: t))).length = m := by rw [List.length_take, List.length_drop]; omega
    have hhead : packHead k0 (List.take m (List.drop u (k0 :: t))) = (k0 :: t).take (u + m) := by
     rw [packHead, hlen, d3, List.take_add, List.singleton_append, show u = (u - 1) + 1 by omega, List.take_succ_cons, Nat.add_sub_cancel]
    refine ⟨k1, k2, by omega, by omega, ?_, fun z hz => hb z (List.mem_of_mem_drop (List.mem_of_mem_take hz))⟩
    show packL k0 (List.take m (List.drop u (k0 :: t))) = _
    rw [packL, hhead, ← hq, List.take_add (i := u + m) (j := 4)]
   ·cases h
theorem sum_set {l : List Int} {i : Nat} {c : Int} (hi : i < l.length) (hb : AllBytes l) (hc : 0 ≤ c ∧ c ≤ 255) (h : SM.sum (l.set i c) = SM.sum l) : l.getD i 0 = c := by
 have e1 : l = l.take i ++ l.getD i 0 :: l.drop (i + 1) := by
  conv => lhs; rw [← List.take_append_drop i l, List.drop_eq_getElem_cons hi]
  simp [List.getD, List.getElem?_eq_getElem hi]
 have e2 : l.set i c = l.take i ++ c :: l.drop (i + 1) := by rw [List.set_eq_take_append_cons_drop, if_pos hi]
 rw [e2] at h
 conv at h => rhs; rw [e1]
 exact (SM.sum_one (all_take hb _) (all_drop hb _) hc (all_get hb i) h).symm
theorem word_inj {x y : Int} (hx : 0 ≤ x ∧ x ≤ 4294967295) (hy : 0 ≤ y ∧ y ≤ 4294967295) (h : word x = word y) : x = y := by
 simp [word] at h
 omega
theorem opn_one {k : Int} {b : List Int} {i : Nat} {c : Int} (h0 : 0 ≤ k) (h9 : k ≤ 9) (hb : AllBytes b) (hn : b.length ≤ 100000) (hc : 0 ≤ c ∧ c ≤ 255) (hi : i < (packL k b).length) (hne : (packL k b).getD i 0 ≠ c) (hat : i = 0 ∨ (packL k b).length - 4 - b.length ≤ i) :
  opn ((packL k b).set i c) = .check ∨ i = 0 ∧ opn ((packL k b).set i c) = .form := by
 have hl := head_len k b
 have hpl := pack_len k b
 have hhb := head_bytes h0 h9 hb
 have hsr := SM.sum_range hhb
 rw [packL, List.set_append]
 by_cases hh : i < (packHead k b).length
 ·rw [if_pos hh]
  have hne' : (packHead k b).getD i 0 ≠ c := by
   have : (packL k b).getD i 0 = (packHead k b).getD i 0 := by rw [packL, List.getD, List.getElem?_append_left hh]; rfl
   rwa [this] at hne
  have hbs : AllBytes ((packHead k b).set i c) := fun z hz => by
   rcases List.mem_or_eq_of_mem_set hz with h1 | h1
   ·exact hhb z h1
   ·rw [h1]; exact hc
  have hws : ¬ word (SM.sum (packHead k b)) = word (SM.sum ((packHead k b).set i c)) := fun e => hne' (sum_set hh hhb hc (word_inj hsr (SM.sum_range hbs) e).symm)
  rcases hat with rfl | hat
  ·have e1 : (packHead k b).set 0 c = packHead c b := by simp [packHead]
   rw [e1] at hws ⊢
   by_cases hc9 : c ≤ 9
   ·refine .inl ?_
    have := opn_is c b (word (SM.sum (packHead k b))) [] hc9 hn (word_len _)
    rw [List.append_nil, if_neg hws] at this
    exact this
   ·refine .inr ⟨rfl, ?_⟩
    have : packHead c b ++ word (SM.sum (packHead k b)) = c :: (enc b.length ++ b ++ word (SM.sum (packHead k b))) := by simp [packHead]
    rw [this, opn, beg, if_pos (by omega)]
  ·have e1 : (packHead k b).set i c = packHead k (b.set (i - (1 + (enc b.length).length)) c) := by
    simp only [packHead, List.length_set]
    rw [List.set_append, if_neg (by simp; omega)]
    simp [Nat.add_comm]
   rw [e1] at hws ⊢
   refine .inl ?_
   have := opn_is k (b.set (i - (1 + (enc b.length).length)) c) (word (SM.sum (packHead k b))) [] h9 (by simpa using hn) (word_len _)
   rw [List.append_nil, if_neg hws] at this
   exact this
 ·rw [if_neg hh]
  refine .inl ?_
  have h4 : i - (packHead k b).length < 4 := by omega
  have := opn_is k b ((word (SM.sum (packHead k b))).set (i - (packHead k b).length) c) [] h9 hn (by rw [List.length_set, word_len])
  rw [List.append_nil] at this
  rw [this, if_neg]
  intro e
  apply hne
  have h5 := congrArg (fun l => l.getD (i - (packHead k b).length) 0) e
  simp only [List.getD, List.getElem?_set_self (show i - (packHead k b).length < (word (SM.sum (packHead k b))).length by rw [word_len]; exact h4), Option.getD_some] at h5
  rw [packL, List.getD, List.getElem?_append_right (by omega)]
  exact h5.symm
theorem dec_cut {n : Int} {k : Nat} (h0 : 0 ≤ n) (h1 : n ≤ 18446744073709551615) (hk : k < (enc n).length) : dec ((enc n).take k) = none := by
 match hd : dec ((enc n).take k) with
 | none => rfl
 | some (m, j) =>
  obtain ⟨j1, j2, j3, j4, j5⟩ := dec_some (fun z hz => enc_bytes n z (List.mem_of_mem_take hz)) hd
  rw [List.length_take] at j2
  rw [List.take_take, Nat.min_eq_left (by omega)] at j3
  have e1 := dec_enc n [] h0 h1
  have e2 := dec_enc m ((enc n).drop j) j4 j5
  rw [j3, List.take_append_drop] at e2
  rw [List.append_nil, e2] at e1
  simp only [Option.some.injEq, Prod.mk.injEq, List.length_take] at e1
  omega
theorem opn_cut {k : Int} {b : List Int} {i : Nat} (h9 : k ≤ 9) (hn : b.length ≤ 100000) (hi : i < (packL k b).length) : opn ((packL k b).take i) = .form := by
 have hpl := pack_len k b
 have e0 : packL k b = k :: (enc b.length ++ (b ++ word (SM.sum (packHead k b)))) := by simp [packL, packHead]
 match i, hi with
 | 0, _ => rw [List.take_zero]; rfl
 | i + 1, hi =>
  have hl : ((packL k b).take (i + 1)).length = i + 1 := by rw [List.length_take]; omega
  rw [e0, List.take_succ_cons, List.take_append] at hl ⊢
  by_cases he : i < (enc b.length).length
  ·rw [show i - (enc b.length).length = 0 by omega, List.take_zero, List.append_nil, opn, beg, if_neg (by omega), dec_cut (by omega) (by omega) he]
  ·rw [List.take_of_length_le (show (enc b.length).length ≤ i by omega)] at hl ⊢
   rw [opn, beg_head _ h9 hn]
   simp only []
   rw [if_pos (by rw [hl]; omega)]
end
section
open Go.RowKit WM
def unword (zs : List Int) : Int := ((zs.getD 0 0 * 256 + zs.getD 1 0) * 256 + zs.getD 2 0) * 256 + zs.getD 3 0
def or4 (x0 x1 x2 x3 : Int) : Int := bits .or .u32 (bits .or .u32 (bits .or .u32 (bits .or .u32 0 x0 * 256 % 4294967296) x1 * 256 % 4294967296) x2 * 256 % 4294967296) x3
theorem or4_eq {x0 x1 x2 x3 : Int} (r0 : 0 ≤ x0 ∧ x0 ≤ 255) (r1 : 0 ≤ x1 ∧ x1 ≤ 255) (r2 : 0 ≤ x2 ∧ x2 ≤ 255) (r3 : 0 ≤ x3 ∧ x3 ≤ 255) : or4 x0 x1 x2 x3 = ((x0 * 256 + x1) * 256 + x2) * 256 + x3 := by
 unfold or4
 have e0 := or_eight 0 x0 (by omega) (by omega) r0.1 (by omega)
 rw [show (0 : Int) * 256 = 0 by rfl, Int.zero_add] at e0
 rw [e0, show x0 * 256 % 4294967296 = x0 * 256 by omega, or_eight x0 x1 (by omega) (by omega) r1.1 (by omega), show (x0 * 256 + x1) * 256 % 4294967296 = (x0 * 256 + x1) * 256 by omega,
  or_eight (x0 * 256 + x1) x2 (by omega) (by omega) r2.1 (by omega), show ((x0 * 256 + x1) * 256 + x2) * 256 % 4294967296 = ((x0 * 256 + x1) * 256 + x2) * 256 by omega, or_eight _ x3 (by omega) (by omega) r3.1 (by omega)]
theorem four_at (b off cap : Nat) (x0 x1 x2 x3 : Int) (w : World) (r0 : 0 ≤ x0 ∧ x0 ≤ 255) (r1 : 0 ≤ x1 ∧ x1 ≤ 255) (r2 : 0 ≤ x2 ∧ x2 ≤ 255) (r3 : 0 ≤ x3 ∧ x3 ≤ 255)
  (c0 : w.cell? ⟨b, off, none⟩ = some (.int .u8 x0)) (c1 : w.cell? ⟨b, off + 1, none⟩ = some (.int .u8 x1)) (c2 : w.cell? ⟨b, off + 2, none⟩ = some (.int .u8 x2)) (c3 : w.cell? ⟨b, off + 3, none⟩ = some (.int .u8 x3)) :
  Calls Tryd.prog 80 #[.slice (some ⟨b, off, none⟩) 4 cap] w fun e w' => e = .returned (.tuple #[.int .u32 (or4 x0 x1 x2 x3), .bool true]) ∧ w = w' := by
 unfold or4
 go_enter Tryd.func80, Tryd.ntmps80
 go_wp2
 refine wp_loop_rounds 5 ?_
 rw [rounds_succ]; go_wp2
 rw [rounds_succ]; go_wp2
 rw [rounds_succ]; go_wp2
 rw [rounds_succ]; go_wp2
 rw [rounds_succ]; go_wp2
 go_ret2
 exact ⟨rfl, rfl⟩
theorem four_yes {B : Nat} (A : Option Addr) (cap : Nat) (zs : List Int) (w : World) (h : Byt w B A zs) (hl : zs.length = 4) (hb : AllBytes zs) :
  Calls Tryd.prog 80 #[.slice A 4 cap] w fun e w' => e = .returned (.tuple #[.int .u32 (unword zs), .bool true]) ∧ w = w' := by
 match zs, hl with
 | [x0, x1, x2, x3], _ =>
  obtain ⟨b, off, rfl, _, hc⟩ := h (by simp)
  have r0 := hb x0 (by simp)
  have r1 := hb x1 (by simp)
  have r2 := hb x2 (by simp)
  have r3 := hb x3 (by simp)
  have := four_at b off cap x0 x1 x2 x3 w r0 r1 r2 r3 (hc 0 (by simp)) (hc 1 (by simp)) (hc 2 (by simp)) (hc 3 (by simp))
  rw [or4_eq r0 r1 r2 r3] at this
  exact this
end
end Go.Proofs.YtkjimhlpbgeagaaDoor
