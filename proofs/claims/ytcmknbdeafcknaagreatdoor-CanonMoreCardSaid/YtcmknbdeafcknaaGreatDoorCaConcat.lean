import Derived.Test.YtcmknbdeafcknaaGreatDoorCaRd3
import Derived.Lib.AppendZeros
import Derived.Deep.Draws
/-
  What slices.Grow and slices.Concat answer, of nothing and of three rows of bytes: a row of the call's own. Nothing that was there is written.
-/
namespace Go.Proofs.YtcmknbdeafcknaaGreatDoor
open Go.RowKit WM
set_option linter.unusedVariables false
def GrowPost1 (w : World) (e : Ending) (w' : World) : Prop := ∃ v, e = .returned v ∧ w'.ownsRow w.heap.size 5 1 v 0 [] ∧ Below w.heap.size w w'
set_option maxRecDepth 20000 in
set_option maxHeartbeats 1000000 in
theorem grow1_any (n : Nat) (w : World) (h0 : 0 < n) (hn : n ≤ 1000) : Calls Tryz.prog 118 #[.slice none 0 0, .int .i64 n] w (GrowPost1 w) := by
  obtain ⟨i0, hi, hz0, hz1, hz2⟩ := info_parts infoByte
  have happ := Lib.run_append_nil_zeros (P := Tryz.prog) w 46 3 46 5 i0 (.int .u8 0) .i64 .i64 Tryz.underlying46 Tryz.underlying3 hi hz0 n (by omega) (by omega) (by omega) (by rw [hz2]; omega)
  have hg := grownCap_ge w n 0 5
  have hm := grownCap_le_maxLen w n 0 5 (by simp only [maxLen]; omega)
  generalize grownCap w n 0 5 = C at happ hg hm
  have hs : (Builtin.zeroCells (Value.int .u8 0).cells n ++ Builtin.zeroCells (Value.int .u8 0).cells (C - n)).size = C * 1 := by
    rw [Array.size_append, size_zeroCells, size_zeroCells, show (Value.int .u8 0).cells.size = 1 from rfl]; omega
  generalize Builtin.zeroCells (Value.int .u8 0).cells n ++ Builtin.zeroCells (Value.int .u8 0).cells (C - n) = Z at happ hs
  have HO := Lib.hid (World.ownsRow_made (base := w.heap.size) (size := 1) (e := 5) w.drew Z C (Nat.le_refl _) hm hs)
  have HB := Lib.hid (((Below.refl w.heap.size w).drew).alloc (Nat.le_refl _) (.cells Z 5))
  have s1 := sl_h none 0 0 0 (Nat.le_refl _) 0 rfl
  have s2 := sl_h (some ⟨w.heap.size, 0, none⟩) n C 0 (Nat.zero_le _) 0 rfl
  have t1 : ¬ (n : Int) < 0 := by omega
  have t2 : (0 : Int) < (n : Int) := by omega
  simp only [maxLen] at hm
  clear hs h0
  go_enter Tryz.func118, Tryz.ntmps118
  go_wp2_with (at_builtin; refine Lib.wpList_append_run _ rfl _ _ _ _ rfl _ _ rfl rfl _ _ happ ?_)
  go_ret
  exact ⟨_, rfl, HO.out, HB.out⟩
/-- A row of bytes that may be nil. -/
def BsAt (w : World) (A : Option Addr) (n c : Nat) (zs : List Int) : Prop := Byt w w.heap.size A zs ∧ zs.length = n ∧ (A = none → c = 0)
theorem BsAt.below {w w' : World} {B : Nat} {A : Option Addr} {n c : Nat} {zs : List Int} (h : BsAt w A n c zs) (hb : Below B w w') (hB : w.heap.size ≤ B) : BsAt w' A n c zs := ⟨(h.1.below (hb.mono hB)).wide hb.size, h.2⟩
theorem BsAt.own {w : World} {base n c : Nat} {A : Option Addr} {zs : List Int} (h : w.ownsRow base 5 1 (.slice A n c) n (zs.map (Value.int .u8))) : BsAt w A n c zs := ⟨Byt.own h, by simpa using h.1, own_nil h⟩
set_option maxRecDepth 20000 in
set_option maxHeartbeats 4000000 in
theorem concat3_any (g : Nat) (A1 A2 A3 : Option Addr) (l1 l2 l3 c1 c2 c3 : Nat) (f1 f2 f3 : List Int) (w : World) (hg : g < w.heap.size) (hg0 : w.cell? ⟨g, 0, none⟩ = some (.slice A1 l1 c1)) (hg1 : w.cell? ⟨g, 1, none⟩ = some (.slice A2 l2 c2)) (hg2 : w.cell? ⟨g, 2, none⟩ = some (.slice A3 l3 c3))
    (h1 : BsAt w A1 l1 c1 f1) (h2 : BsAt w A2 l2 c2 f2) (h3 : BsAt w A3 l3 c3 f3) (hs : l1 + l2 + l3 ≤ 1000) (hp : 0 < l1) :
    Calls Tryz.prog 93 #[.slice (some ⟨g, 0, none⟩) 3 3] w (Gives w (f1 ++ f2 ++ f3)) := by
  have HG := Lib.hid (grow1_any (l1 + l2 + l3))
  rw [Int.natCast_add, Int.natCast_add] at HG
  unfold GrowPost1 at HG
  have t1 : ¬ (l1 : Int) < 0 := by omega
  have t2 : ¬ (l1 : Int) + (l2 : Int) < 0 := by omega
  have t3 : ¬ (l1 : Int) + (l2 : Int) + (l3 : Int) < 0 := by omega
  obtain ⟨i0, hi, hz0, hz1, hz2⟩ := info_parts infoByte
  have H1 := Lib.hid h1
  have H2 := Lib.hid h2
  have H3 := Lib.hid h3
  clear h1 h2 h3
  go_enter Tryz.func93, Tryz.ntmps93
  go_wp2
  refine wp_loop_rounds 4 ?_
  rw [rounds_succ]
  go_wp2
  rw [rounds_succ]
  go_wp2
  rw [rounds_succ]
  go_wp2
  rw [rounds_succ]
  go_wp2_with fail
  refine (HG.out _ (by omega) hs).mono ?_
  rintro e w1 ⟨v, rfl, ho, hb⟩
  have G1 := Lib.hid hg1
  have G2 := Lib.hid hg2
  have hg0 := (hb.cell (p := ⟨g, 0, none⟩) hg).trans hg0
  have F1 := Lib.hid (H1.out.below hb (Nat.le_refl _))
  have HB := Lib.hid hb
  clear hb hg1 hg2
  go_wp2
  refine wp_loop_rounds 4 ?_
  rw [rounds_succ]
  go_wp2_with (at_builtin; refine wpList_append_byt _ rfl _ _ 46 rfl w.heap.size 5 i0 Tryz.underlying46 hi hz0 hz1 hz2 _ 0 [] rfl ho _ A1 l1 c1 f1 rfl F1.out.1 F1.out.2.1 F1.out.2.2 (by omega) HB.out.size ?_; intro v2 w2 ho2 hg2)
  have HB2 := HB.out.grown hg2 HB.out.size (fun g hg => own_base ho hg)
  have hg1 := (HB2.cell (p := ⟨g, 1, none⟩) hg).trans G1.out
  have F2 := Lib.hid (H2.out.below HB2 (Nat.le_refl _))
  have HB2 := Lib.hid HB2
  clear hg2 hg0
  rw [List.nil_append] at ho2
  rw [rounds_succ]
  go_wp2_with (at_builtin; refine wpList_append_byt _ rfl _ _ 46 rfl w.heap.size 5 i0 Tryz.underlying46 hi hz0 hz1 hz2 _ _ f1 rfl ho2 _ A2 l2 c2 f2 rfl F2.out.1 F2.out.2.1 F2.out.2.2 (by omega) HB2.out.size ?_; intro v3 w3 ho3 hg3)
  have HB3 := HB2.out.grown hg3 HB2.out.size (fun g hg => own_base ho2 hg)
  have hg2 := (HB3.cell (p := ⟨g, 2, none⟩) hg).trans G2.out
  have F3 := Lib.hid (H3.out.below HB3 (Nat.le_refl _))
  have HB3 := Lib.hid HB3
  clear hg3 hg1 ho ho2
  rw [rounds_succ]
  go_wp2_with (at_builtin; refine wpList_append_byt _ rfl _ _ 46 rfl w.heap.size 5 i0 Tryz.underlying46 hi hz0 hz1 hz2 _ _ (f1 ++ f2) rfl ho3 _ A3 l3 c3 f3 rfl F3.out.1 F3.out.2.1 F3.out.2.2 (by omega) HB3.out.size ?_; intro v4 w4 ho4 hg4)
  have HB4 := Lib.hid (HB3.out.grown hg4 HB3.out.size (fun g hg => own_base ho3 hg))
  have HO4 := Lib.hid ho4
  clear hg4 hg2 ho3 ho4
  rw [rounds_succ]
  go_wp2
  go_ret
  exact gives_own HO4.out HB4.out
end Go.Proofs.YtcmknbdeafcknaaGreatDoor

