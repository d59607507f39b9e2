/-
  What sha.wordsOf answers: the 64 words of a block, for every slice that reads as 64 bytes; nothing that was there is written.
-/
import Derived.Test.YtonbhcbkelmhgaaDoorShaBase
namespace Go.Proofs.YtonbhcbkelmhgaaDoor
open Go.RowKit WM
set_option linter.unusedVariables false
def WordsPost (zs : List Int) (w : World) (e : Ending) (w' : World) : Prop := e = .returned (.agg (vals (SH.ws zs 64))) ∧ Below w.heap.size w w'
theorem words_or {zs : List Int} (hb : AllBytes zs) (k : Nat) (hk : k < 64) : bits .or .u32 ((((SH.gath zs k).getD (k / 4) 0 : Nat) : Int) * 256 % 4294967296) (zs.getD k 0) = (((SH.gath zs k).getD (k / 4) 0 * 256 + SH.z zs k : Nat) : Int) := by
  have h := SH.part_step hb k
  have hz := SH.z_lt hb k
  rw [SH.gath_get zs k (k / 4) (by omega)]
  generalize SH.part zs (k / 4) (k - 4 * (k / 4)) = p at h
  have hz0 : zs.getD k 0 = (SH.z zs k : Nat) := by
    unfold SH.z
    rcases Nat.lt_or_ge k zs.length with h1 | h1
    · have := hb _ (List.getElem_mem h1)
      rw [List.getD, List.getElem?_eq_getElem h1, Option.getD_some]; omega
    · rw [List.getD, List.getElem?_eq_none h1]; rfl
  rw [hz0, Int.emod_eq_of_lt (by omega) (by omega), or_eight _ _ (by omega) (by omega) (by omega) (by omega)]
  omega
theorem turned_still (x n : Nat) (w : World) (h : x < 4294967296) (h1 : 1 ≤ n) (h2 : n ≤ 31) :
    Calls Tryd.prog 84 #[.int .u32 x, .int .i64 n] w fun e w' => e = .returned (.int .u32 (SH.rotr x n : Nat)) ∧ w' = w := (turned_any x n w h h1 h2).mono fun e w' ⟨h1, h2⟩ => ⟨h1, h2.symm⟩
set_option maxHeartbeats 1000000 in
set_option maxRecDepth 100000 in
theorem words_any {B : Nat} (A : Option Addr) (cap : Nat) (zs : List Int) (w : World) (h : Byt w B A zs) (hl : zs.length = 64) (hb : AllBytes zs) (hB : B ≤ w.heap.size) :
    Calls Tryd.prog 83 #[.slice A (64 : Nat) cap] w (WordsPost zs w) := by
  obtain ⟨b, off, rfl, hbB, hcell⟩ := h (fun e => by rw [e] at hl; cases hl)
  have hz := zeroW64
  have HC := Lib.hid hcell
  have HB := Lib.hid hb
  have HL := Lib.hid hl
  have HG0 := Lib.hid (SH.gath_zero zs)
  have HP : Hid (∀ e w', e = .returned (.agg (vals (SH.ws zs 64))) → Below w.heap.size w w' → WordsPost zs w e w') := Lib.hid (fun _ _ h1 h2 => ⟨h1, h2⟩)
  have hbw : b < w.heap.size := by omega
  clear h hl hb hcell
  generalize hZ : vals (List.replicate 64 0) = Z at hz
  go_enter Tryd.func83, Tryd.ntmps83
  go_wp2
  go_loopw [11] (fun i wr => ∃ k : Nat, k ≤ 64 ∧ i = .int .i64 k ∧ Row wr (w.heap.size + 1) 101 (SH.gath zs k) ∧ Row wr w.heap.size 101 (List.replicate 64 0) ∧ Below w.heap.size w wr) (fun i _ => 64 - (intOf i).toNat)
  case atStart =>
    refine ⟨0, by omega, rfl, ?_, ?_, ((Below.refl _ _).alloc (Nat.le_refl _) _).alloc (by simp) _⟩
    · have := Row.new (w.alloc (.cells Z 101)) 101 (List.replicate 64 0)
      rw [hZ, World.size_alloc] at this
      rw [HG0.out]
      exact this
    · have := (Row.new w 101 (List.replicate 64 0)).old (.cells Z 101)
      rw [hZ] at this
      exact this
  case round =>
    obtain ⟨k, hk, rfl, hr1, hr0, hbel⟩ := hrel
    clear hz
    by_cases hlt : k < 64
    · have hc : wr.cell? ⟨b, off + k, none⟩ = some (.int .u8 (zs.getD k 0)) := (hbel.cell hbw).trans (HC.out k (by rw [HL.out]; exact hlt))
      have hv := words_or HB.out k hlt
      have hn := Lib.hid (SH.gath_next HB.out hlt)
      have hz0 := all_get HB.out k
      have hw8 := IntWalk.u32_in (zs.getD k 0) (by omega)
      have hxl : (SH.gath zs k).getD (k / 4) 0 < 4294967296 := by rw [SH.gath_get zs k _ (by omega)]; exact SH.part_lt HB.out _ _
      have hq4 : k / 4 < 16 := by omega
      have hx := hr1.cell (j := k / 4) (by rw [SH.gath_len]; omega)
      have hf := hr1.frozen (k / 4)
      have HS := Lib.hid (hr1.set (k / 4) ((SH.gath zs k).getD (k / 4) 0 * 256 + SH.z zs k))
      rw [SH.gath_next HB.out hlt] at HS
      have HR := Lib.hid (hr0.other (a := ⟨w.heap.size + 1, k / 4, none⟩) (by simp only; omega) (.int .u32 (((SH.gath zs k).getD (k / 4) 0 * 256 + SH.z zs k : Nat) : Int)))
      have HBE := Lib.hid (hbel.setCell (p := ⟨w.heap.size + 1, k / 4, none⟩) (by simp only; omega) (.int .u32 (((SH.gath zs k).getD (k / 4) 0 * 256 + SH.z zs k : Nat) : Int)))
      clear hr1 hr0 hbel hn
      generalize (SH.gath zs k).getD (k / 4) 0 * 256 + SH.z zs k = v at *
      generalize (SH.gath zs k).getD (k / 4) 0 = x at *
      generalize zs.getD k 0 = y at *
      go_wp2
      go_roundw
      case rel => exact ⟨k + 1, by omega, by go_num, HS.out, HR.out, HBE.out⟩
      case measure => simp [intOf]; omega
    · obtain rfl : k = 64 := by omega
      have H64 := Lib.hid (show SH.gath zs 64 = SH.pad (SH.ws zs 16) by rw [SH.gath_all, SH.pad, SH.ws_len])
      go_wp2
      go_loopw [6] (fun i wr => ∃ n : Nat, 16 ≤ n ∧ n ≤ 64 ∧ i = .int .i64 n ∧ Row wr (w.heap.size + 1) 101 (SH.pad (SH.ws zs n)) ∧ Row wr w.heap.size 101 (List.replicate 64 0) ∧ Below w.heap.size w wr) (fun i _ => 64 - (intOf i).toNat)
      case atStart => exact ⟨16, by omega, by omega, rfl, by rw [← H64.out]; exact hr1, hr0, hbel⟩
      case round =>
        clear hr1 hr0 hbel
        obtain ⟨n, hn16, hn, rfl, hr1, hr0, hbel⟩ := hrel
        by_cases hlt : n < 64
        · have hall := SH.ws_all HB.out n
          have hlen := SH.ws_len zs n
          have hpl : (SH.pad (SH.ws zs n)).length = 64 := SH.pad_len (by omega)
          have c2 := hr1.cell (j := n - 2) (by omega)
          have c15 := hr1.cell (j := n - 15) (by omega)
          have c16 := hr1.cell (j := n - 16) (by omega)
          have c7 := hr1.cell (j := n - 7) (by omega)
          rw [SH.pad_get (by omega)] at c2 c15 c16 c7
          have b2 := hall.get (n - 2)
          have b15 := hall.get (n - 15)
          have HN := Lib.hid (SH.ws_great zs hn16)
          unfold SH.wnext at HN
          generalize (SH.ws zs n).getD (n - 2) 0 = x2 at *
          generalize (SH.ws zs n).getD (n - 15) 0 = x15 at *
          generalize (SH.ws zs n).getD (n - 7) 0 = x7 at *
          generalize (SH.ws zs n).getD (n - 16) 0 = x16 at *
          have e1 := u32_xor_nat _ _ (SH.rotr_lt 7 b15) (SH.rotr_lt 18 b15)
          have e2 := u32_xor_nat _ _ (SH.xor_lt (SH.rotr_lt 7 b15) (SH.rotr_lt 18 b15)) (show x15 / 8 < 4294967296 by omega)
          have e3 := u32_xor_nat _ _ (SH.rotr_lt 17 b2) (SH.rotr_lt 19 b2)
          have e4 := u32_xor_nat _ _ (SH.xor_lt (SH.rotr_lt 17 b2) (SH.rotr_lt 19 b2)) (show x2 / 1024 < 4294967296 by omega)
          rw [show ((x15 / 8 : Nat) : Int) = (x15 : Int) / 8 by omega] at e2
          rw [show ((x2 / 1024 : Nat) : Int) = (x2 : Int) / 1024 by omega] at e4
          have t7 := fun w => turned_still x15 7 w b15 (by omega) (by omega)
          have t18 := fun w => turned_still x15 18 w b15 (by omega) (by omega)
          have t17 := fun w => turned_still x2 17 w b2 (by omega) (by omega)
          have t19 := fun w => turned_still x2 19 w b2 (by omega) (by omega)
          have a1 := u32_sum x16 (SH.s0 x15)
          have a2 := u32_sum (SH.add x16 (SH.s0 x15)) x7
          have a3 := u32_sum (SH.add (SH.add x16 (SH.s0 x15)) x7) (SH.s1 x2)
          change _ = ((SH.s0 x15 : Nat) : Int) at e2
          change _ = ((SH.s1 x2 : Nat) : Int) at e4
          generalize SH.add (SH.add (SH.add x16 (SH.s0 x15)) x7) (SH.s1 x2) = v3 at *
          generalize SH.add (SH.add x16 (SH.s0 x15)) x7 = v2 at *
          generalize SH.add x16 (SH.s0 x15) = v1 at *
          generalize SH.s0 x15 = y0 at *
          generalize SH.s1 x2 = y1 at *
          generalize SH.rotr x15 7 ^^^ SH.rotr x15 18 = p1 at *
          generalize SH.rotr x2 17 ^^^ SH.rotr x2 19 = p2 at *
          generalize SH.rotr x15 7 = r7 at *
          generalize SH.rotr x15 18 = r18 at *
          generalize SH.rotr x2 17 = r17 at *
          generalize SH.rotr x2 19 = r19 at *
          clear b2 b15
          have T7 := Lib.hid t7
          have T18 := Lib.hid t18
          have T17 := Lib.hid t17
          have T19 := Lib.hid t19
          clear t7 t18 t17 t19 hall
          go_wp2_with fail
          go_quiet (fail)
          go_wp2_with fail
          obtain ⟨m16, hm16⟩ : ∃ m, m = n - 16 := ⟨_, rfl⟩
          obtain ⟨m7, hm7⟩ : ∃ m, m = n - 7 := ⟨_, rfl⟩
          have w16 : IntKind.i64.wrap ((n : Int) - 16) = (m16 : Int) := by rw [IntWalk.i64_in _ (by omega)]; omega
          have w7 : IntKind.i64.wrap ((n : Int) - 7) = (m7 : Int) := by rw [IntWalk.i64_in _ (by omega)]; omega
          have l16 : (m16 : Int) < 64 := by omega
          have l7 : (m7 : Int) < 64 := by omega
          have ln : (n : Int) < 64 := by omega
          refine wp_still_at 29 (by kernel_rfl) (by kernel_rfl) fun W2 hW2 => ?_
          have k16 : W2.cell? ⟨w.heap.size + 1, m16, none⟩ = some (.int .u32 (x16 : Int)) := by rw [hW2, hm16]; exact c16
          have k7 : W2.cell? ⟨w.heap.size + 1, m7, none⟩ = some (.int .u32 (x7 : Int)) := by rw [hW2, hm7]; exact c7
          have q1 : Row W2 (w.heap.size + 1) 101 (SH.pad (SH.ws zs n)) := by rw [hW2]; exact hr1
          have q0 : Row W2 w.heap.size 101 (List.replicate 64 0) := by rw [hW2]; exact hr0
          have q2 : Below w.heap.size w W2 := by rw [hW2]; exact (below_drewN hbel _).drew
          have hfz := q1.frozen n
          have HS := Lib.hid (q1.set n v3)
          rw [SH.pad_set hlen hlt, ← HN.out] at HS
          have HR := Lib.hid (q0.other (a := ⟨w.heap.size + 1, n, none⟩) (by simp only; omega) (.int .u32 (v3 : Int)))
          have HBE := Lib.hid (q2.setCell (p := ⟨w.heap.size + 1, n, none⟩) (by simp only; omega) (.int .u32 (v3 : Int)))
          obtain ⟨old, hold⟩ : ∃ old, W2.cell? ⟨w.heap.size + 1, n, none⟩ = some old := ⟨_, q1.cell (by omega)⟩
          clear hm16 hm7 hW2 c2 c15 c7 c16 hr1 hr0 hbel q1 q0 q2 hlen hpl
          simp only [List.take_succ_cons, List.take_zero, List.drop_succ_cons, List.drop_zero]
          repeat still_step
          still_call (T7.out _)
          repeat still_step
          still_call (T18.out _)
          repeat still_step
          still_call (T17.out _)
          repeat still_step
          still_call (T19.out _)
          repeat still_step
          refine wpStill_nil ?_
          go_wp2
          go_roundw
          case rel => ((repeat apply Exists.intro); exact ⟨⟨n + 1, by omega, by omega, by go_num, HS.out, HR.out, HBE.out⟩, rfl⟩)
          case measure => simp [intOf]; omega
        · obtain rfl : n = 64 := by omega
          rw [SH.pad_full (SH.ws_len zs 64)] at hr1
          have hwl := SH.ws_len zs 64
          generalize SH.ws zs 64 = T at *
          have hI := Lib.hid (show (Tryd.prog.info? 101).map (·.size) = some (vals T).size by rw [sizeW64, vals_size, hwl])
          have hZT := Lib.hid (show (vals (List.replicate 64 0)).size = (vals T).size by rw [vals_size, vals_size, hwl]; rfl)
          have hput := Lib.hid (hr0.put T)
          have hbp := Lib.hid (below_setRow hbel (Nat.le_refl _) (vals T))
          have h1 := Lib.hid (vals_one T)
          unfold Row at hr1 hr0 hput
          have Hr1 := Lib.hid hr1
          have Hr0 := Lib.hid hr0
          clear hr1 hr0 hbel hwl
          generalize vals T = V at *
          go_wp2_with (first | ((with_reducible refine wpList_load_row (o := ⟨some 69, .load 101 (.tmp 3), _, _, _, _⟩) ?e1 101 (.tmp 3) ?e2 (w.heap.size + 1) ?e3 101 V (0, 0) _ Hr1.out Tryd.underlying101 ?e4 hI.out ?_); (case e1 => rfl); (case e2 => rfl); (case e3 => rfl); (case e4 => rfl)) | ((with_reducible refine wpList_store_row (o := ⟨none, .store 101 (.tmp 2) (.tmp 69), _, _, _, _⟩) ?e1 101 (.tmp 2) (.tmp 69) ?e2 w.heap.size V ?e3 ?e4 101 _ Hr0.out hI.out hZT.out h1.out ?_); (case e1 => rfl); (case e2 => rfl); (case e3 => rfl); (case e4 => rfl)))
          exact bodyPost_ret (v := .agg V) (by exact results_cell_row Tryd.results83 _ _ w.heap.size 101 V (0, 0) _ rfl hput.out Tryd.underlying101 rfl hI.out) (by rfl) (HP.out _ _ rfl hbp.out)
end Go.Proofs.YtonbhcbkelmhgaaDoor
