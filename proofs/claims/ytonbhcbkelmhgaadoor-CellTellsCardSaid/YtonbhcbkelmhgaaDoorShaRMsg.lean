/-
  What the document's own message answers: the message, as bytes of its own; nothing that was there is written.
-/
import Derived.Test.YtonbhcbkelmhgaaDoorShaEnd
namespace Go.Proofs.YtonbhcbkelmhgaaDoor
open Go.RowKit WM
set_option linter.unusedVariables false
def plc (i : Nat) : Nat := 72057594037927936 / 256 ^ i
theorem plc_next (i : Nat) : plc i / 256 = plc (i + 1) := by rw [plc, plc, Nat.div_div_eq_div_mul, Nat.pow_succ]
theorem plc_pos {i : Nat} (h : i < 8) : 0 < plc i := by
  have : ∀ j, j < 8 → 0 < plc j := by decide
  exact this i h
theorem plc_le (i : Nat) : plc i ≤ 72057594037927936 := Nat.div_le_self _ _
theorem plc_get (n : Nat) {i : Nat} (hi : i < 8) : (n : Int) / (plc i : Nat) % 256 = (SH.be8 n).getD i 0 := by
  have h : i = 0 ∨ i = 1 ∨ i = 2 ∨ i = 3 ∨ i = 4 ∨ i = 5 ∨ i = 6 ∨ i = 7 := by omega
  rcases h with rfl | rfl | rfl | rfl | rfl | rfl | rfl | rfl <;> simp [SH.be8, plc]
set_option maxHeartbeats 1000000 in
set_option maxRecDepth 100000 in
theorem rmsg_any {B : Nat} (A : Option Addr) (r cap : Nat) (zs : List Int) (w : World) (h : Byt w B A zs) (hl : zs.length = r) (hr : r ≤ 100000000) (hnil : A = none → cap = 0) (hB : B ≤ w.heap.size) :
    Calls Tryd.prog 74 #[.slice A r cap] w (Gives w (SH.msg zs)) := by
  obtain ⟨i0, hi, hz0, hz1, hz2⟩ := info_parts infoByte
  have HH := Lib.hid h
  have HL := Lib.hid hl
  have HN := Lib.hid hnil
  have e0 := World.ownsRow_nil w w.heap.size 5 1
  have hy0 := h
  have HG := Lib.hid (show SH.gap r = (119 - r % 64) % 64 from rfl)
  have hgap : SH.gap r ≤ 63 := by rw [HG.out]; omega
  have HT := Lib.hid (show SH.msg zs = zs ++ [128] ++ List.replicate (SH.gap r) 0 ++ SH.be8 (8 * r) by rw [SH.msg, hl]; simp [SH.tail])
  clear h hl hnil
  have HFin : Hid (∀ v w', Own w w' v (SH.msg zs) → Gives w (SH.msg zs) (.returned v) w') := Lib.hid (fun _ _ h => h.gives)
  generalize SH.gap r = G at *
  generalize SH.msg zs = R at *
  go_enter Tryd.func74, Tryd.ntmps74
  go_wp2_with (first
    | (at_builtin; refine wpList_append_byt (o := ⟨some 8, _, _, _, _, _⟩) _ rfl _ _ 26 rfl w.heap.size 5 i0 Tryd.underlying26 hi hz0 hz1 hz2 _ 0 [] rfl e0 B A r cap zs rfl hy0 HL.out HN.out (by omega) (Nat.le_refl _) ?_; intro v1 w1 ho1 hg1; have hb1 := (Below.refl w.heap.size w).grown hg1 (Nat.le_refl _) (fun g hg => own_base e0 hg); have ho1' := own_below ho1 ((Below.refl w1.heap.size w1).alloc (Nat.le_refl _) (.cells #[.int .u8 128] 5)); have hb1' := hb1.alloc hb1.size (.cells #[.int .u8 128] 5); have hy1 := byt_row w1 5 (0, 0) [128] (w1.heap.size + 1) (by omega); clear hg1)
    | (at_builtin; refine wpList_append_byt (o := ⟨some 11, _, _, _, _, _⟩) _ rfl _ _ 26 rfl w.heap.size 5 i0 Tryd.underlying26 hi hz0 hz1 hz2 _ (0 + r) ([] ++ zs) rfl ho1' (w1.heap.size + 1) (some ⟨w1.heap.size, 0, none⟩) 1 1 [128] rfl hy1 rfl (fun e => by cases e) (by omega) hb1'.size ?_; intro v2 w2 ho2 hg2; have hb2 := hb1'.grown hg2 hb1'.size (fun g hg => own_base ho1 hg); have HO2 := Lib.hid (own_of ho2 hb2); clear hg2))
  clear ho2 hb2 hy1 hb1' ho1' hb1 ho1 hy0 e0
  go_loopw [3] (fun v wr => ∃ k : Nat, k ≤ G ∧ Own w wr v (zs ++ [128] ++ List.replicate k 0)) (fun v _ => (r + 1 + G) - lenOfV v)
  case atStart => exact ⟨0, by omega, by have := HO2.out; simpa using this⟩
  case round =>
    clear HO2
    obtain ⟨k, hk, A2, m, c, rfl, hm, hown, hbel⟩ := hrel
    have hmk : m = r + 1 + k := by rw [← hm]; simp [HL.out]; omega
    have HM := Lib.hid hm
    have hm64 : m ≤ 100000100 := by omega
    by_cases hlt : k < G
    · have ht : ((m : Int) % 64 != 56) = true := by have := HG.out; simp; omega
      have HMK := Lib.hid hmk
      have ho' := own_below hown ((Below.refl wr.heap.size wr).alloc (Nat.le_refl _) (.cells #[.int .u8 0] 5))
      have hb' := hbel.alloc hbel.size (.cells #[.int .u8 0] 5)
      have hy := byt_row wr 5 (0, 0) [0] (wr.heap.size + 1) (by omega)
      clear hmk hm
      go_wp2_with (at_builtin; refine wpList_append_byt (o := ⟨some 18, _, _, _, _, _⟩) _ rfl _ _ 26 rfl w.heap.size 5 i0 Tryd.underlying26 hi hz0 hz1 hz2 _ m _ rfl ho' (wr.heap.size + 1) (some ⟨wr.heap.size, 0, none⟩) 1 1 [0] rfl hy rfl (fun e => by cases e) (by omega) hb'.size ?_; intro v2 w2 ho2 hg2; have hb2 := hb'.grown hg2 hb'.size (fun g hg => own_base hown hg); have HO2 := own_of ho2 hb2; clear hg2)
      go_roundw
      case rel =>
        rw [List.append_assoc, ← List.replicate_succ'] at HO2
        exact ⟨k + 1, by omega, HO2⟩
      case measure =>
        have hl2 : lenOfV v2 = m + 1 := by rw [HO2.len, List.length_append, HM.out]; rfl
        have hm2 := HMK.out
        show r + 1 + G - lenOfV v2 < r + 1 + G - m
        rw [hl2]
        omega
    · obtain rfl : k = G := by omega
      have ht : ((m : Int) % 64 != 56) = false := by have := HG.out; simp; omega
      have HMK := Lib.hid hmk
      have HO := Lib.hid (show Own w wr (.slice A2 m c) (zs ++ [128] ++ List.replicate k 0) from ⟨A2, m, c, rfl, hm, hown, hbel⟩)
      clear hmk hm hown hbel
      go_wp2_with fail
      go_loopw [3, 5, 6] (fun v p i wr => ∃ j : Nat, j ≤ 8 ∧ i = .int .i64 (j : Int) ∧ p = .int .u64 (plc j : Nat) ∧ Own w wr v (zs ++ [128] ++ List.replicate k 0 ++ (SH.be8 (8 * r)).take j)) (fun _ _ i _ => 8 - (intOf i).toNat)
      case atStart => exact ⟨0, by omega, rfl, rfl, by have := HO.out; simpa using this⟩
      case round =>
        clear HO
        obtain ⟨j, hj, rfl, rfl, A3, m3, c3, rfl, hm3, hown, hbel⟩ := hrel
        by_cases hlt : j < 8
        · have hv : (((8 : Int) * (r : Int)) / (plc j : Nat)).tmod 256 = (SH.be8 (8 * r)).getD j 0 := by
            have := plc_get (8 * r) hlt
            rw [show ((8 * r : Nat) : Int) = 8 * (r : Int) by omega] at this
            rw [Int.tmod_eq_emod_of_nonneg (Int.ediv_nonneg (by omega) (by omega))]
            exact this
          have hp0 := plc_pos hlt
          have hpl := plc_le j
          have HPN := Lib.hid (plc_next j)
          have hpx : ((plc j : Nat) : Int) / 256 = (plc (j + 1) : Nat) := by rw [← plc_next]; omega
          have HNX := Lib.hid (be8_next (8 * r) hlt)
          have hx0 := all_get (be8_bytes (8 * r)) j
          have hx1 : (SH.be8 (8 * r)).getD j 0 % 256 = (SH.be8 (8 * r)).getD j 0 := by omega
          have hm3' : m3 ≤ 100000200 := by
            rw [← hm3, List.length_append, List.length_take]
            simp [HL.out]
            omega
          have HM3 := Lib.hid hm3
          have hpne : ((plc j : Nat) : Int) ≠ 0 := by omega
          obtain ⟨p1, hp1⟩ : ∃ p1, plc (j + 1) = p1 := ⟨_, rfl⟩
          rw [hp1] at hpx
          have HP1 := Lib.hid hp1
          clear hp1 HPN
          generalize plc j = p0 at *
          generalize (SH.be8 (8 * r)).getD j 0 = x at *
          have ho' := own_below hown ((Below.refl wr.heap.size wr).alloc (Nat.le_refl _) (.cells #[.int .u8 x] 5))
          have hb' := hbel.alloc hbel.size (.cells #[.int .u8 x] 5)
          have hy := byt_row wr 5 (0, 0) [x] (wr.heap.size + 1) (by omega)
          clear hm3
          go_wp2_with (at_builtin; refine wpList_append_byt (o := ⟨some 34, _, _, _, _, _⟩) _ rfl _ _ 26 rfl w.heap.size 5 i0 Tryd.underlying26 hi hz0 hz1 hz2 _ m3 _ rfl ho' (wr.heap.size + 1) (some ⟨wr.heap.size, 0, none⟩) 1 1 [x] rfl hy rfl (fun e => by cases e) (by omega) hb'.size ?_; intro v2 w2 ho2 hg2; have hb2 := hb'.grown hg2 hb'.size (fun g hg => own_base hown hg); have HO2 := own_of ho2 hb2; clear hg2)
          go_roundw
          case rel =>
            rw [List.append_assoc, HNX.out] at HO2
            exact ⟨j + 1, by omega, by go_num, by rw [HP1.out], HO2⟩
          case measure => simp [intOf]; omega
        · obtain rfl : j = 8 := by omega
          have HO := Lib.hid (show Own w wr (.slice A3 m3 c3) R from by
            rw [HT.out]
            have h8 : (SH.be8 (8 * r)).take 8 = SH.be8 (8 * r) := rfl
            rw [← h8]
            exact ⟨A3, m3, c3, rfl, hm3, hown, hbel⟩)
          clear hm3 hown hbel
          go_wp2
          go_ret
          exact HFin.out _ _ HO.out
end Go.Proofs.YtonbhcbkelmhgaaDoor
