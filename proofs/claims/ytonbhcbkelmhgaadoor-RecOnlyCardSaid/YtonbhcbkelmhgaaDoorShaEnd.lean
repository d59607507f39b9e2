/-
  What sha.ending answers: the last bytes of a message, as bytes of its own; nothing that was there is written.
-/
import Derived.Test.YtonbhcbkelmhgaaDoorShaBase
namespace Go.Proofs.YtonbhcbkelmhgaaDoor
open Go.RowKit WM
set_option linter.unusedVariables false
def lenOfV : Value → Nat
  | .slice _ n _ => n
  | _ => 0
theorem byt_row (w : World) (e : TypeId) (fz : Nat × Nat) (zs : List Int) (B : Nat) (hB : w.heap.size < B) : Byt (w.alloc (.cells (zs.map (Value.int .u8)).toArray e fz)) B (some ⟨w.heap.size, 0, none⟩) zs := fun _ => by
  refine ⟨_, _, rfl, hB, fun i hi => ?_⟩
  rw [Nat.zero_add, cell_of_row _ _ i _ _ _ (heap_alloc_new w _)]
  simp [List.getD, hi]
/-- A row of its own, in a world that has grown. -/
def Own (w wr : World) (v : Value) (L : List Int) : Prop := ∃ A n c, v = .slice A n c ∧ L.length = n ∧ wr.ownsRow w.heap.size 5 1 (.slice A n c) n (L.map (Value.int .u8)) ∧ Below w.heap.size w wr
theorem own_of {w wr : World} {v : Value} {n : Nat} {L : List Int} (ho : wr.ownsRow w.heap.size 5 1 v n (L.map (Value.int .u8))) (hb : Below w.heap.size w wr) : Own w wr v L := by
  obtain ⟨A, m, c, hv, hm, _, _, ho', _⟩ := gives_own ho hb
  injection hv with hv
  exact ⟨A, m, c, hv, hm, hv ▸ ho', hb⟩
theorem Own.gives {w wr : World} {v : Value} {L : List Int} (h : Own w wr v L) : Gives w L (.returned v) wr := by
  obtain ⟨A, n, c, rfl, hl, ho, hb⟩ := h
  exact gives_own ho hb
theorem Own.len {w wr : World} {v : Value} {L : List Int} (h : Own w wr v L) : lenOfV v = L.length := by
  obtain ⟨A, n, c, rfl, hl, _⟩ := h
  exact hl.symm
theorem be8_bytes (n : Nat) : AllBytes (SH.be8 n) := by
  intro z hz
  simp only [SH.be8, List.mem_cons, List.not_mem_nil, or_false] at hz
  rcases hz with rfl | rfl | rfl | rfl | rfl | rfl | rfl | rfl <;> omega
theorem tail_bytes (r n : Nat) : AllBytes (SH.tail r n) := by
  unfold SH.tail
  refine all_append (all_append ?_ ?_) (be8_bytes _)
  · intro z hz; rw [List.mem_singleton.1 hz]; omega
  · intro z hz; rw [(List.mem_replicate.1 hz).2]; omega
theorem be8_get (n : Nat) {i : Nat} (hi : i < 8) : (n : Int) / 2 ^ ((7 - i) * 8) % 256 = (SH.be8 n).getD i 0 := by
  have h : i = 0 ∨ i = 1 ∨ i = 2 ∨ i = 3 ∨ i = 4 ∨ i = 5 ∨ i = 6 ∨ i = 7 := by omega
  rcases h with rfl | rfl | rfl | rfl | rfl | rfl | rfl | rfl <;> simp [SH.be8]
theorem be8_next (n : Nat) {i : Nat} (hi : i < 8) : (SH.be8 n).take i ++ [(SH.be8 n).getD i 0] = (SH.be8 n).take (i + 1) := by
  rw [List.take_succ_eq_append_getElem (show i < (SH.be8 n).length from hi), List.getD, List.getElem?_eq_getElem (show i < (SH.be8 n).length from hi), Option.getD_some]
set_option maxHeartbeats 1000000 in
set_option maxRecDepth 100000 in
theorem ending_any {B : Nat} (A : Option Addr) (r cap n : Nat) (zs : List Int) (w : World) (h : Byt w B A zs) (hl : zs.length = r) (hn : n ≤ 1152921504606846975) (hr : r ≤ 1000) (hnil : A = none → cap = 0) (hB : B ≤ w.heap.size) :
    Calls Tryd.prog 80 #[.slice A r cap, .int .i64 n] w (Gives w (zs ++ SH.tail r n)) := by
  obtain ⟨i0, hi, hz0, hz1, hz2⟩ := info_parts infoByte
  have HH := Lib.hid h
  have HL := Lib.hid hl
  have HN := Lib.hid hnil
  clear h hl hnil
  have e0 := own_new w w.heap.size (Nat.le_refl _) 5 [] (by simp [maxLen])
  have hb0 : Below w.heap.size w (w.alloc (.cells #[] 5)) := (Below.refl _ _).alloc (Nat.le_refl _) _
  have hy0 := HH.out.below (hb0.mono hB)
  have HG := Lib.hid (show SH.gap r = (119 - r % 64) % 64 from rfl)
  have hgap : SH.gap r ≤ 63 := by rw [HG.out]; omega
  have HT := Lib.hid (show zs ++ SH.tail r n = zs ++ [128] ++ List.replicate (SH.gap r) 0 ++ SH.be8 (8 * n) by simp [SH.tail])
  have HFin : Hid (∀ v w', Own w w' v (zs ++ SH.tail r n) → Gives w (zs ++ SH.tail r n) (.returned v) w') := Lib.hid (fun _ _ h => h.gives)
  generalize SH.gap r = G at *
  generalize zs ++ SH.tail r n = R at *
  go_enter Tryd.func80, Tryd.ntmps80
  go_wp2_with (first
    | (at_builtin; refine wpList_append_byt (o := ⟨some 11, _, _, _, _, _⟩) _ rfl _ _ 26 rfl w.heap.size 5 i0 Tryd.underlying26 hi hz0 hz1 hz2 _ 0 [] rfl e0 B A r cap zs rfl hy0 HL.out HN.out (by omega) hb0.size ?_; intro v1 w1 ho1 hg1; have hb1 := hb0.grown hg1 hb0.size (fun g hg => own_base e0 hg); have ho1' := own_below ho1 ((Below.refl w1.heap.size w1).alloc (Nat.le_refl _) (.cells #[.int .u8 128] 5)); have hb1' := hb1.alloc hb1.size (.cells #[.int .u8 128] 5); have hy1 := byt_row w1 5 (0, 0) [128] (w1.heap.size + 1) (by omega); clear hg1)
    | (at_builtin; refine wpList_append_byt (o := ⟨some 14, _, _, _, _, _⟩) _ rfl _ _ 26 rfl w.heap.size 5 i0 Tryd.underlying26 hi hz0 hz1 hz2 _ (0 + r) ([] ++ zs) rfl ho1' (w1.heap.size + 1) (some ⟨w1.heap.size, 0, none⟩) 1 1 [128] rfl hy1 rfl (fun e => by cases e) (by omega) hb1'.size ?_; intro v2 w2 ho2 hg2; have hb2 := hb1'.grown hg2 hb1'.size (fun g hg => own_base ho1 hg); have HO2 := Lib.hid (own_of ho2 hb2); clear hg2))
  clear ho2 hb2 hy1 hb1' ho1' hb1 ho1 hy0 hb0 e0
  go_loopw [5] (fun v wr => ∃ k : Nat, k ≤ G ∧ Own w wr v (zs ++ [128] ++ List.replicate k 0)) (fun v _ => (r + 1 + G) - lenOfV v)
  case atStart => exact ⟨0, by omega, by have := HO2.out; simpa using this⟩
  case round =>
    clear HO2
    obtain ⟨k, hk, A2, m, c, rfl, hm, hown, hbel⟩ := hrel
    have hmk : m = r + 1 + k := by rw [← hm]; simp [HL.out]; omega
    have HM := Lib.hid hm
    have hm64 : m ≤ 1100 := by omega
    by_cases hlt : k < G
    · have ht : ((m : Int) % 64 != 56) = true := by have := HG.out; simp; omega
      have HMK := Lib.hid hmk
      have ho' := own_below hown ((Below.refl wr.heap.size wr).alloc (Nat.le_refl _) (.cells #[.int .u8 0] 5))
      have hb' := hbel.alloc hbel.size (.cells #[.int .u8 0] 5)
      have hy := byt_row wr 5 (0, 0) [0] (wr.heap.size + 1) (by omega)
      clear hmk hm
      go_wp2_with (at_builtin; refine wpList_append_byt (o := ⟨some 21, _, _, _, _, _⟩) _ rfl _ _ 26 rfl w.heap.size 5 i0 Tryd.underlying26 hi hz0 hz1 hz2 _ m _ rfl ho' (wr.heap.size + 1) (some ⟨wr.heap.size, 0, none⟩) 1 1 [0] rfl hy rfl (fun e => by cases e) (by omega) hb'.size ?_; intro v2 w2 ho2 hg2; have hb2 := hb'.grown hg2 hb'.size (fun g hg => own_base hown hg); have HO2 := own_of ho2 hb2; clear hg2)
      go_roundw
      case rel =>
        rw [List.append_assoc, ← List.replicate_succ'] at HO2
        exact ⟨k + 1, by omega, HO2⟩
      case measure =>
        have hl2 : lenOfV v2 = m + 1 := by rw [HO2.len, List.length_append, HM.out]; rfl
        have hm2 := HMK.out
        show r + 1 + G - lenOfV v2 < r + 1 + G - m
        rw [hl2]
        omega
    · obtain rfl : k = G := by omega
      have ht : ((m : Int) % 64 != 56) = false := by have := HG.out; simp; omega
      have HMK := Lib.hid hmk
      have HO := Lib.hid (show Own w wr (.slice A2 m c) (zs ++ [128] ++ List.replicate k 0) from ⟨A2, m, c, rfl, hm, hown, hbel⟩)
      clear hmk hm hown hbel
      go_wp2_with fail
      go_loopw [5, 25] (fun v i wr => ∃ j : Nat, j ≤ 8 ∧ i = .int .i64 (j : Int) ∧ Own w wr v (zs ++ [128] ++ List.replicate k 0 ++ (SH.be8 (8 * n)).take j)) (fun _ i _ => 8 - (intOf i).toNat)
      case atStart => exact ⟨0, by omega, rfl, by have := HO.out; simpa using this⟩
      case round =>
        clear HO
        obtain ⟨j, hj, rfl, A3, m3, c3, rfl, hm3, hown, hbel⟩ := hrel
        by_cases hlt : j < 8
        · have hv : ((n : Int) * 8) / 2 ^ ((7 - j) * 8) % 256 = (SH.be8 (8 * n)).getD j 0 := by
            have := be8_get (8 * n) hlt
            rwa [show ((8 * n : Nat) : Int) = (n : Int) * 8 by omega] at this
          have HNX := Lib.hid (be8_next (8 * n) hlt)
          have hm3' : m3 ≤ 1200 := by
            rw [← hm3, List.length_append, List.length_take]
            simp [HL.out]
            omega
          have HM3 := Lib.hid hm3
          generalize (SH.be8 (8 * n)).getD j 0 = x at *
          have ho' := own_below hown ((Below.refl wr.heap.size wr).alloc (Nat.le_refl _) (.cells #[.int .u8 x] 5))
          have hb' := hbel.alloc hbel.size (.cells #[.int .u8 x] 5)
          have hy := byt_row wr 5 (0, 0) [x] (wr.heap.size + 1) (by omega)
          clear hm3
          go_wp2_with (at_builtin; refine wpList_append_byt (o := ⟨some 37, _, _, _, _, _⟩) _ rfl _ _ 26 rfl w.heap.size 5 i0 Tryd.underlying26 hi hz0 hz1 hz2 _ m3 _ rfl ho' (wr.heap.size + 1) (some ⟨wr.heap.size, 0, none⟩) 1 1 [x] rfl hy rfl (fun e => by cases e) (by omega) hb'.size ?_; intro v2 w2 ho2 hg2; have hb2 := hb'.grown hg2 hb'.size (fun g hg => own_base hown hg); have HO2 := own_of ho2 hb2; clear hg2)
          go_roundw
          case rel =>
            rw [List.append_assoc, HNX.out] at HO2
            first | exact ⟨j + 1, by omega, by go_num, HO2⟩ | ((repeat apply Exists.intro); exact ⟨⟨j + 1, by omega, by go_num, HO2⟩, rfl⟩)
          case measure => simp [intOf]; omega
        · obtain rfl : j = 8 := by omega
          have HO := Lib.hid (show Own w wr (.slice A3 m3 c3) R from by
            rw [HT.out]
            have h8 : (SH.be8 (8 * n)).take 8 = SH.be8 (8 * n) := rfl
            rw [← h8]
            exact ⟨A3, m3, c3, rfl, hm3, hown, hbel⟩)
          clear hm3 hown hbel
          go_wp2
          go_ret
          exact HFin.out _ _ HO.out
end Go.Proofs.YtonbhcbkelmhgaaDoor
