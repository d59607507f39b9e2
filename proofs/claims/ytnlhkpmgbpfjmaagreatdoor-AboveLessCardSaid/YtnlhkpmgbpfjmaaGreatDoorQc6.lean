import Derived.Test.YtnlhkpmgbpfjmaaGreatDoorQc0
import Derived.Test.YtnlhkpmgbpfjmaaGreatDoorQc4
import Derived.Test.YtnlhkpmgbpfjmaaGreatDoorQc5
import Derived.Test.YtnlhkpmgbpfjmaaGreatDoorQc1
import Derived.Stop.BytesEq
import Derived.Lib.ConvBytes
/-
  What the functions that a law of this layer reaches answer, part 6. Nothing that was there is written.
-/
namespace Go.Proofs.YtnlhkpmgbpfjmaaGreatDoor
set_option linter.unusedVariables false
set_option linter.unusedSimpArgs false
section
section
open Go.RowKit WM
def DSumPost (zs : List Int) (w : World) (e : Ending) (w' : World) : Prop := e = .returned (.agg (bvals (SH.sum zs))) ∧ Below w.heap.size w w'
set_option maxHeartbeats 4000000 in
set_option maxRecDepth 100000 in
theorem dsum_any {B : Nat} (A : Option Addr) (len cap : Nat) (zs : List Int) (w : World) (hlaid : Laid w) (h : Byt w B A zs) (hl : zs.length = len) (hc : len ≤ cap) (hcm : cap ≤ maxLen) (hn : len ≤ 1152921504606846975) (hnil : A = none → cap = 0) (hb : AllBytes zs) (hB : B ≤ w.heap.size) :
  Calls Tryz.prog 79 #[.slice A len cap] w (DSumPost zs w) := by
 obtain ⟨wh, hwh⟩ : ∃ wh, wh = len - len % 64 := ⟨_, rfl⟩
 have ew : (len : Int) - (len : Int) % 64 = (wh : Int) := by omega
 have hz8 := zeroW8
 have hz := zeroD
 have hbA : Below w.heap.size w (w.alloc (.cells (bvals (List.replicate 32 0)) 26)) := (Below.refl _ _).alloc (Nat.le_refl _) _
 have hrA := BRow.new w 26 (List.replicate 32 0)
 have hszA : (w.alloc (.cells (bvals (List.replicate 32 0)) 26)).heap.size = w.heap.size + 1 := World.size_alloc _ _
 obtain ⟨W0, hW0⟩ : ∃ W0, w.alloc (.cells (bvals (List.replicate 32 0)) 26) = W0 := ⟨_, rfl⟩
 rw [hW0] at hbA hrA hszA
 have lx : ∀ X, Below W0.heap.size W0 X → Below w.heap.size w X := fun X hX => hbA.trans (hX.mono hbA.size)
 have C1 := Lib.hid (fun (X : World) (hX : Below W0.heap.size W0 X) => first_any X (hlaid.below (lx X hX) (Nat.le_refl _)))
 have C2 := Lib.hid (fun (X : World) (hX : Below W0.heap.size W0 X) => blocks_any SH.H0 SH.H0_ok A wh cap (zs.take wh) X (hlaid.below (lx X hX) (Nat.le_refl _)) ((h.take wh).below ((lx X hX).mono hB)) (by rw [List.length_take]; omega) (by omega) (by omega) hcm (all_take hb wh) (Nat.le_trans hB (lx X hX).size))
 have S1 := Lib.hid (fun w9 => sl_h A len cap wh (by omega) (wh : Int) rfl w9)
 have S2 := Lib.hid (fun w9 => sl_l A len cap wh (by omega) (wh : Int) rfl w9)
 have hA' : (if cap = wh then A else A.map (·.add wh)) = none → cap - wh = 0 := by
  by_cases e : cap = wh
  ·intro _; omega
  ·rw [if_neg e]
   cases A with
   | none => intro _; have := hnil rfl; omega
   | some a => intro e'; cases e'
 have C3 := Lib.hid (fun (X : World) (hX : Below W0.heap.size W0 X) => ending_any (if cap = wh then A else A.map (·.add wh)) (len - wh) (cap - wh) len (zs.drop wh) X ((h.drop (k := wh) (cap := cap) (by omega)).below ((lx X hX).mono hB)) (by rw [List.length_drop, hl]) hn (by omega) hA' (Nat.le_trans hB (lx X hX).size))
 generalize (if cap = wh then A else A.map (·.add wh)) = A' at *
 have hmb : AllBytes (zs.drop wh ++ SH.tail (len - wh) len) := all_append (all_drop hb wh) (tail_bytes _ _)
 have hml : (zs.drop wh ++ SH.tail (len - wh) len).length % 64 = 0 := by
  rw [List.length_append, List.length_drop, SH.tail_len, hl]; unfold SH.gap; omega
 have C4 := Lib.hid (fun (X : World) (hX : Below W0.heap.size W0 X) (A4 : Option Addr) (n4 c4 : Nat) (hy : Byt X X.heap.size A4 (zs.drop wh ++ SH.tail (len - wh) len)) (h1 : (zs.drop wh ++ SH.tail (len - wh) len).length = n4) (h2 : n4 ≤ c4) (h3 : c4 ≤ maxLen) => blocks_any (SH.all SH.H0 (zs.take wh)) (SH.all_ok _ SH.H0_ok) A4 n4 c4 _ X (hlaid.below (lx X hX) (Nat.le_refl _)) hy h1 (by rw [← h1]; exact hml) h2 h3 hmb (Nat.le_refl _))
 have C5 := Lib.hid (fun (X : World) => dig_any (SH.all (SH.all SH.H0 (zs.take wh)) (zs.drop wh ++ SH.tail (len - wh) len)) (SH.all_ok _ (SH.all_ok _ SH.H0_ok)) X)
 have HE : SH.dig (SH.all (SH.all SH.H0 (zs.take wh)) (zs.drop wh ++ SH.tail (len - wh) len)) = SH.sum zs := by
  rw [SH.sum_parts, hl, ← hwh, show len - wh = len % 64 by omega]
 unfold FirstPost at C1
 unfold BlocksPost at C2 C4
 unfold DigPost at C5
 rw [HE] at C5
 have HP : Hid (∀ e w', e = .returned (.agg (bvals (SH.sum zs))) → Below w.heap.size w w' → DSumPost zs w e w') := Lib.hid (fun _ _ h1 h2 => ⟨h1, h2⟩)
 generalize SH.all (SH.all SH.H0 (zs.take wh)) (zs.drop wh ++ SH.tail (len - wh) len) = s2 at *
 generalize SH.all SH.H0 (zs.take wh) = s1 at *
 have I1 := Lib.hid (size8 s1)
 have I2 := Lib.hid (size8 s2)
 have Z1 := Lib.hid (show (vals (List.replicate 8 0)).size = (vals s1.list).size by rw [vals_size, vals_size, list_len, List.length_replicate])
 have Z2 := Lib.hid (show (vals s1.list).size = (vals s2.list).size by rw [vals_size, vals_size, list_len, list_len])
 have O1 := Lib.hid (vals_one s1.list)
 have O2 := Lib.hid (vals_one s2.list)
 have RN := Lib.hid (fun X => heap_alloc_new X (.cells (vals (List.replicate 8 0)) 130))
 have RBx : ∀ (X X' : World) (g : Nat) (V : Array Value), X.heap[g]? = some (.cells V 130 (0, 0)) → Below X.heap.size X X' → X'.heap[g]? = some (.cells V 130 (0, 0)) := fun X X' g V hX hb => by
  have hlt : g < X.heap.size := by
   rcases Nat.lt_or_ge g X.heap.size with h3 | h3
   ·exact h3
   ·rw [Array.getElem?_eq_none h3] at hX; cases hX
  rw [hb.block g hlt]; exact hX
 generalize vals (List.replicate 8 0) = Z8 at *
 generalize vals s1.list = V1 at *
 generalize hV2 : vals s2.list = V2 at *
 have RB := Lib.hid (fun (X X' : World) (g : Nat) => RBx X X' g Z8)
 have RV := Lib.hid (fun (X X' : World) => RBx X X')
 have PUT := Lib.hid (fun (X : World) (g : Nat) (hr : X.heap[g]? = some (.cells Z8 130 (0, 0))) (hg : W0.heap.size ≤ g) (hX : Below W0.heap.size W0 X) => (⟨setRow_heap X g _ V1 _ _ hr, below_setRow hX hg V1⟩ : (X.setRow g V1).heap[g]? = some (.cells V1 130 (0, 0)) ∧ Below W0.heap.size W0 (X.setRow g V1)))
 have PUT2 := Lib.hid (fun (X : World) (g : Nat) (hr : X.heap[g]? = some (.cells V1 130 (0, 0))) (hg : W0.heap.size ≤ g) (hX : Below W0.heap.size W0 X) => (⟨setRow_heap X g _ V2 _ _ hr, below_setRow hX hg V2⟩ : (X.setRow g V2).heap[g]? = some (.cells V2 130 (0, 0)) ∧ Below W0.heap.size W0 (X.setRow g V2)))
 have hIs := Lib.hid (show (Tryz.prog.info? 26).map (·.size) = some (bvals (SH.sum zs)).size by rw [sizeD, bvals_size, SH.sum_len])
 have hZs := Lib.hid (show (bvals (List.replicate 32 0)).size = (bvals (SH.sum zs)).size by rw [bvals_size, bvals_size, SH.sum_len, List.length_replicate])
 have hOs := Lib.hid (bvals_one (SH.sum zs))
 have HRA := Lib.hid (fun (X : World) (hX : Below W0.heap.size W0 X) => hrA.below hX (by rw [hszA]; omega))
 have FIN := Lib.hid (fun (X : World) (hX : Below W0.heap.size W0 X) => (⟨(hrA.below hX (by rw [hszA]; omega)).put (SH.sum zs), below_setRow (lx X hX) (Nat.le_refl _) (bvals (SH.sum zs))⟩ : BRow (X.setRow w.heap.size (bvals (SH.sum zs))) w.heap.size 26 (SH.sum zs) ∧ Below w.heap.size w (X.setRow w.heap.size (bvals (SH.sum zs)))))
 unfold BRow at HRA FIN
 generalize bvals (List.replicate 32 0) = Z32 at *
 generalize bvals (SH.sum zs) = VS at *
 have HW0 := Lib.hid hW0
 clear hW0 hbA hrA hszA lx hlaid h hnil hb hA' hmb hml HE hwh
 go_enter Tryz.func79, Tryz.ntmps79
 go_wp2_with fail
 rw [HW0.out]
 refine wp_region_held_drew (S := fun w' => Below W0.heap.size W0 w') (by kernel_rfl) (Below.refl _ _).drew (fun hS => ?_)
 refine wpHv (i := 1) (oi := ⟨some 12, _, _, _, _, _⟩) (v := ?_) rfl ?_ hS ?_; rotate_left; (focus (intro w9 hSw; (try dsimp only at hSw); go_simp; try with_reducible rfl)); simp only [Act.put, Z2, Z3, Z4]
 refine wpHv (i := 2) (oi := ⟨some 13, _, _, _, _, _⟩) (v := ?_) rfl ?_ hS ?_; rotate_left; (focus (intro w9 hSw; (try dsimp only at hSw); go_simp; try with_reducible rfl)); simp only [Act.put, Z2, Z3, Z4]
 refine wpHv (i := 3) (oi := ⟨some 14, _, _, _, _, _⟩) (v := ?_) rfl ?_ hS ?_; rotate_left; (focus (intro w9 hSw; (try dsimp only at hSw); have s9 := S1.out w9; go_simp; try with_reducible rfl)); simp only [Act.put, Z2, Z3, Z4]
 have hcx : Below W0.heap.size W0 W0.drew := (Below.refl _ _).drew
 generalize W0.drew = x at *
 refine wpAnyH_ready (rs := [0, 5]) (by kernel_rfl) (by simp) (AllReadyH.cons (o := ⟨some 11, _, _, _, _, _⟩) rfl (fun K hK => ?_) (AllReadyH.cons (o := ⟨some 4, _, _, _, _, _⟩) rfl (fun K hK => ?_) AllReadyH.nil))
 go_simp
 refine (C1.out x hcx).mono ?_
 rintro e x1 ⟨rfl, hbx1⟩
 have hcx1 := hcx.trans (hbx1.mono hcx.size)
 refine hK.out _ _ hcx1 (fun hS => ?_)
 clear hK K
 refine wpAnyH_ready (rs := [4, 5]) (by kernel_rfl) (by simp) (AllReadyH.cons (o := ⟨some 15, _, _, _, _, _⟩) rfl (fun K hK => ?_) (AllReadyH.cons (o := ⟨some 4, _, _, _, _, _⟩) rfl (fun K hK => ?_) AllReadyH.nil))
 go_simp
 refine (C2.out x1 hcx1).mono ?_
 rintro e x2 ⟨rfl, hbx2⟩
 have hcx2 := hcx1.trans (hbx2.mono hcx1.size)
 refine hK.out _ _ hcx2 (fun hS => ?_)
 clear hK K
 refine wpAnyH_ready (rs := [5]) (by kernel_rfl) (by simp) (AllReadyH.cons (o := ⟨some 4, _, _, _, _, _⟩) rfl (fun K hK => ?_) AllReadyH.nil)
 go_simp
 have hbx3 : Below x2.heap.size x2 (x2.alloc (.cells Z8 130)) := (Below.refl _ _).alloc (Nat.le_refl _) _
 have hcx3 := hcx2.trans (hbx3.mono hcx2.size)
 have hrx3 := RN.out x2
 have hg : W0.heap.size ≤ x2.heap.size := hcx2.size
 refine hK.out _ _ hcx3 (fun hS => ?_)
 clear hK K
 generalize x2.alloc (.cells Z8 130) = x3 at *
 generalize x2.heap.size = G at hrx3 hg ⊢
 refine wpAnyH_ready (rs := [6]) (by kernel_rfl) (by simp) (AllReadyH.cons (o := ⟨none, _, _, _, _, _⟩) rfl (fun K hK => ?_) AllReadyH.nil)
 rw [if_pos (by rfl)]
 refine wp_store_row 130 (.tmp 4) (.tmp 15) rfl G V1 (by rfl) (by rfl) 130 Z8 hrx3 I1.out Z1.out O1.out ?_
 have hcY := below_setRow hcx3 hg V1
 refine hK.out _ _ hcY (fun hS => ?_)
 clear hK K
 have HY := Lib.hid (PUT.out x3 G hrx3 hg hcx3)
 clear hrx3 hcY
 generalize x3.setRow G V1 = Y at *
 refine wpAnyH_done (by kernel_rfl) ?_ _
 simp only [Act.put]
 rotate_left
 go_simp
 have hbx2 : Below x1.heap.size x1 (x1.alloc (.cells Z8 130)) := (Below.refl _ _).alloc (Nat.le_refl _) _
 have hcx2 := hcx1.trans (hbx2.mono hcx1.size)
 have hrx2 := RN.out x1
 have hg : W0.heap.size ≤ x1.heap.size := hcx1.size
 refine hK.out _ _ hcx2 (fun hS => ?_)
 clear hK K
 generalize x1.alloc (.cells Z8 130) = x2 at *
 generalize x1.heap.size = G at hrx2 hg ⊢
 refine wpAnyH_ready (rs := [4]) (by kernel_rfl) (by simp) (AllReadyH.cons (o := ⟨some 15, _, _, _, _, _⟩) rfl (fun K hK => ?_) AllReadyH.nil)
 go_simp
 refine (C2.out x2 hcx2).mono ?_
 rintro e x3 ⟨rfl, hbx3⟩
 have hcx3 := hcx2.trans (hbx3.mono hcx2.size)
 refine hK.out _ _ hcx3 (fun hS => ?_)
 clear hK K
 have hrx3 := RB.out _ _ _ hrx2 hbx3
 refine wpAnyH_ready (rs := [6]) (by kernel_rfl) (by simp) (AllReadyH.cons (o := ⟨none, _, _, _, _, _⟩) rfl (fun K hK => ?_) AllReadyH.nil)
 rw [if_pos (by rfl)]
 refine wp_store_row 130 (.tmp 4) (.tmp 15) rfl G V1 (by rfl) (by rfl) 130 Z8 hrx3 I1.out Z1.out O1.out ?_
 have hcY := below_setRow hcx3 hg V1
 refine hK.out _ _ hcY (fun hS => ?_)
 clear hK K
 have HY := Lib.hid (PUT.out x3 G hrx3 hg hcx3)
 clear hrx3 hcY
 generalize x3.setRow G V1 = Y at *
 refine wpAnyH_done (by kernel_rfl) ?_ _
 simp only [Act.put]
 rotate_left
 go_simp
 have hbx1 : Below x.heap.size x (x.alloc (.cells Z8 130)) := (Below.refl _ _).alloc (Nat.le_refl _) _
 have hcx1 := hcx.trans (hbx1.mono hcx.size)
 have hrx1 := RN.out x
 have hg : W0.heap.size ≤ x.heap.size := hcx.size
 refine hK.out _ _ hcx1 (fun hS => ?_)
 clear hK K
 generalize x.alloc (.cells Z8 130) = x1 at *
 generalize x.heap.size = G at hrx1 hg ⊢
 refine wpAnyH_ready (rs := [0]) (by kernel_rfl) (by simp) (AllReadyH.cons (o := ⟨some 11, _, _, _, _, _⟩) rfl (fun K hK => ?_) AllReadyH.nil)
 go_simp
 refine (C1.out x1 hcx1).mono ?_
 rintro e x2 ⟨rfl, hbx2⟩
 have hcx2 := hcx1.trans (hbx2.mono hcx1.size)
 refine hK.out _ _ hcx2 (fun hS => ?_)
 clear hK K
 have hrx2 := RB.out _ _ _ hrx1 hbx2
 refine wpAnyH_ready (rs := [4]) (by kernel_rfl) (by simp) (AllReadyH.cons (o := ⟨some 15, _, _, _, _, _⟩) rfl (fun K hK => ?_) AllReadyH.nil)
 go_simp
 refine (C2.out x2 hcx2).mono ?_
 rintro e x3 ⟨rfl, hbx3⟩
 have hcx3 := hcx2.trans (hbx3.mono hcx2.size)
 refine hK.out _ _ hcx3 (fun hS => ?_)
 clear hK K
 have hrx3 := RB.out _ _ _ hrx2 hbx3
 refine wpAnyH_ready (rs := [6]) (by kernel_rfl) (by simp) (AllReadyH.cons (o := ⟨none, _, _, _, _, _⟩) rfl (fun K hK => ?_) AllReadyH.nil)
 rw [if_pos (by rfl)]
 refine wp_store_row 130 (.tmp 4) (.tmp 15) rfl G V1 (by rfl) (by rfl) 130 Z8 hrx3 I1.out Z1.out O1.out ?_
 have hcY := below_setRow hcx3 hg V1
 refine hK.out _ _ hcY (fun hS => ?_)
 clear hK K
 have HY := Lib.hid (PUT.out x3 G hrx3 hg hcx3)
 clear hrx3 hcY
 generalize x3.setRow G V1 = Y at *
 refine wpAnyH_done (by kernel_rfl) ?_ _
 simp only [Act.put]
 all_goals (
  go_wp2_with fail
  obtain ⟨hrY, hcY⟩ := HY.out
  refine wp_region_held_drew (S := fun w' => Below W0.heap.size W0 w') (by kernel_rfl) hcY.drew (fun hS => ?_)
  refine wpHv (i := 1) (oi := ⟨some 17, _, _, _, _, _⟩) (v := ?_) rfl ?_ hS ?_; rotate_left; (focus (intro w9 hSw; (try dsimp only at hSw); go_simp; try with_reducible rfl)); simp only [Act.put, Z2, Z3, Z4]
  refine wpHv (i := 2) (oi := ⟨some 18, _, _, _, _, _⟩) (v := ?_) rfl ?_ hS ?_; rotate_left; (focus (intro w9 hSw; (try dsimp only at hSw); go_simp; try with_reducible rfl)); simp only [Act.put, Z2, Z3, Z4]
  refine wpHv (i := 3) (oi := ⟨some 19, _, _, _, _, _⟩) (v := ?_) rfl ?_ hS ?_; rotate_left; (focus (intro w9 hSw; (try dsimp only at hSw); have s9 := S2.out w9; go_simp; try with_reducible rfl)); simp only [Act.put, Z2, Z3, Z4]
  refine wpHv (i := 4) (oi := ⟨some 20, _, _, _, _, _⟩) (v := ?_) rfl ?_ hS ?_; rotate_left; (focus (intro w9 hSw; (try dsimp only at hSw); go_simp; try with_reducible rfl)); simp only [Act.put, Z2, Z3, Z4]
  refine wpHv (i := 5) (oi := ⟨some 21, _, _, _, _, _⟩) (v := ?_) rfl ?_ hS ?_; rotate_left; (focus (intro w9 hSw; (try dsimp only at hSw); go_simp; try with_reducible rfl)); simp only [Act.put, Z2, Z3, Z4]
  have hcz := hcY.drew
  have hrz : Y.drew.heap[G]? = some (.cells V1 130 (0, 0)) := hrY
  generalize Y.drew = z at *
  refine wpAnyH_ready (rs := [0, 6]) (by kernel_rfl) (by simp) (AllReadyH.cons (o := ⟨some 16, _, _, _, _, _⟩) rfl (fun K hK => ?_) (AllReadyH.cons (o := ⟨some 22, _, _, _, _, _⟩) rfl (fun K hK => ?_) AllReadyH.nil))
  rw [if_pos (by rfl)]
  refine wp_load_row 130 (.tmp 4) rfl G (by rfl) 130 V1 (0, 0) _ hrz Tryz.underlying130 rfl I1.out ?_
  refine hK.out _ _ hcz (fun hS => ?_)
  clear hK K
  simp only [Act.put, Z2, Z3, Z4]
  refine wpAnyH_ready (rs := [6]) (by kernel_rfl) (by simp) (AllReadyH.cons (o := ⟨some 22, _, _, _, _, _⟩) rfl (fun K hK => ?_) AllReadyH.nil)
  go_simp
  refine (C3.out z hcz).mono ?_
  rintro e z1 ⟨A4, n4, c4, rfl, hn4, hnc4, hcm4, hown4, hbz1⟩
  have hcz1 := hcz.trans (hbz1.mono hcz.size)
  have hrz1 := RV.out _ _ _ _ hrz hbz1
  have hy4 := Byt.own hown4
  refine hK.out _ _ hcz1 (fun hS => ?_)
  clear hK K
  refine wpAnyH_ready (rs := [7]) (by kernel_rfl) (by simp) (AllReadyH.cons (o := ⟨some 23, _, _, _, _, _⟩) rfl (fun K hK => ?_) AllReadyH.nil)
  go_simp
  refine (C4.out z1 hcz1 A4 n4 c4 hy4 hn4 hnc4 hcm4).mono ?_
  rintro e x9 ⟨rfl, hbx9⟩
  have hcx9 := hcz1.trans (hbx9.mono hcz1.size)
  have hrx9 := RV.out _ _ _ _ hrz1 hbx9
  refine hK.out _ _ hcx9 (fun hS => ?_)
  clear hK K
  refine wpAnyH_ready (rs := [8]) (by kernel_rfl) (by simp) (AllReadyH.cons (o := ⟨none, _, _, _, _, _⟩) rfl (fun K hK => ?_) AllReadyH.nil)
  rw [if_pos (by rfl)]
  refine wp_store_row 130 (.tmp 4) (.tmp 23) rfl G V2 (by rfl) (by rfl) 130 V1 hrx9 I2.out Z2.out O2.out ?_
  have hcY := below_setRow hcx9 hg V2
  refine hK.out _ _ hcY (fun hS => ?_)
  clear hK K
  have HY2 := Lib.hid (PUT2.out x9 G hrx9 hg hcx9)
  clear hrx9 hcY
  generalize x9.setRow G V2 = Y2 at *
  refine wpAnyH_done (by kernel_rfl) ?_ _
  simp only [Act.put]
  rotate_left
  go_simp
  refine (C3.out z hcz).mono ?_
  rintro e z1 ⟨A4, n4, c4, rfl, hn4, hnc4, hcm4, hown4, hbz1⟩
  have hcz1 := hcz.trans (hbz1.mono hcz.size)
  have hrz1 := RV.out _ _ _ _ hrz hbz1
  have hy4 := Byt.own hown4
  refine hK.out _ _ hcz1 (fun hS => ?_)
  clear hK K
  refine wpAnyH_ready (rs := [0]) (by kernel_rfl) (by simp) (AllReadyH.cons (o := ⟨some 16, _, _, _, _, _⟩) rfl (fun K hK => ?_) AllReadyH.nil)
  rw [if_pos (by rfl)]
  refine wp_load_row 130 (.tmp 4) rfl G (by rfl) 130 V1 (0, 0) _ hrz1 Tryz.underlying130 rfl I1.out ?_
  refine hK.out _ _ hcz1 (fun hS => ?_)
  clear hK K
  simp only [Act.put, Z2, Z3, Z4]
  refine wpAnyH_ready (rs := [7]) (by kernel_rfl) (by simp) (AllReadyH.cons (o := ⟨some 23, _, _, _, _, _⟩) rfl (fun K hK => ?_) AllReadyH.nil)
  go_simp
  refine (C4.out z1 hcz1 A4 n4 c4 hy4 hn4 hnc4 hcm4).mono ?_
  rintro e x9 ⟨rfl, hbx9⟩
  have hcx9 := hcz1.trans (hbx9.mono hcz1.size)
  have hrx9 := RV.out _ _ _ _ hrz1 hbx9
  refine hK.out _ _ hcx9 (fun hS => ?_)
  clear hK K
  refine wpAnyH_ready (rs := [8]) (by kernel_rfl) (by simp) (AllReadyH.cons (o := ⟨none, _, _, _, _, _⟩) rfl (fun K hK => ?_) AllReadyH.nil)
  rw [if_pos (by rfl)]
  refine wp_store_row 130 (.tmp 4) (.tmp 23) rfl G V2 (by rfl) (by rfl) 130 V1 hrx9 I2.out Z2.out O2.out ?_
  have hcY := below_setRow hcx9 hg V2
  refine hK.out _ _ hcY (fun hS => ?_)
  clear hK K
  have HY2 := Lib.hid (PUT2.out x9 G hrx9 hg hcx9)
  clear hrx9 hcY
  generalize x9.setRow G V2 = Y2 at *
  refine wpAnyH_done (by kernel_rfl) ?_ _
  simp only [Act.put])
 all_goals (
  obtain ⟨hrY2, hcY2⟩ := HY2.out
  have Hr := Lib.hid hrY2
  have Hc := Lib.hid hcY2
  clear hrY2 hcY2
  go_wp2_with (first | ((with_reducible refine wpList_load_row (o := ⟨some 24, .load 130 (.tmp 4), _, _, _, _⟩) ?e1 130 (.tmp 4) ?e2 G ?e3 130 V2 (0, 0) _ Hr.out Tryz.underlying130 ?e4 I2.out ?_); (case e1 => rfl); (case e2 => rfl); (case e3 => rfl); (case e4 => rfl)))
  refine (C5.out Y2).mono ?_
  rintro e x ⟨rfl, hbx⟩
  have hcx := Hc.out.trans (hbx.mono Hc.out.size)
  have h0 := Lib.hid (HRA.out x hcx)
  have hf := FIN.out x hcx
  have HF := Lib.hid hf
  clear hf hbx hcx
  go_wp2_with (first | ((with_reducible refine wpList_store_row (o := ⟨none, .store 26 (.tmp 2) (.tmp 25), _, _, _, _⟩) ?e1 26 (.tmp 2) (.tmp 25) ?e2 w.heap.size VS ?e3 ?e4 26 _ h0.out hIs.out hZs.out hOs.out ?_); (case e1 => rfl); (case e2 => rfl); (case e3 => rfl); (case e4 => rfl)))
  exact bodyPost_ret (v := .agg VS) (by exact results_cell_row Tryz.results79 _ _ w.heap.size 26 VS (0, 0) _ rfl HF.out.1 Tryz.underlying26 rfl hIs.out) (by rfl) (HP.out _ _ rfl HF.out.2))
end
section
open Go.RowKit WM
theorem below_bytes (w : World) (e : TypeId) (s : ByteArray) : Below w.heap.size w (Lib.bytesWorld w e s) :=
 ⟨by simp [Lib.bytesWorld, World.freeze, World.alloc, World.drew, -World.alloc_eq, -World.drew_eq], by simp [Lib.bytesWorld, World.freeze, World.alloc, World.drew, -World.alloc_eq, -World.drew_eq], by simp [Lib.bytesWorld, World.freeze, World.alloc, World.drew, -World.alloc_eq, -World.drew_eq], by rw [Lib.bytesWorld_size]; omega, fun k hk => Lib.bytesWorld_at_old w e s k hk⟩
theorem byt_bytes (w : World) (e : TypeId) (s : ByteArray) : Byt (Lib.bytesWorld w e s) (Lib.bytesWorld w e s).heap.size (some ⟨w.heap.size, 0, none⟩) (nums s) := fun _ => by
 refine ⟨_, _, rfl, by rw [Lib.bytesWorld_size]; omega, fun i hi => ?_⟩
 rw [nums_len] at hi
 rw [Nat.zero_add, Lib.bytesWorld_cell w e s i hi]
 have hi' : i < s.data.toList.length := by rw [Array.length_toList]; exact hi
 simp [nums, List.getD, List.getElem?_eq_getElem hi']
set_option maxHeartbeats 1000000 in
theorem of_any (s : ByteArray) (w : World) (hlaid : Laid w) (hs : s.size ≤ 1152921504606846975) :
  Calls Tryz.prog 49 #[.string s] w (DSumPost (nums s) w) := by
 have hz := zeroD
 have hcv := fun (w9 : World) => Lib.run_convert_string_bytes (P := Tryz.prog) w9 9 105 5 s Tryz.underlying9 Tryz.underlying105 Tryz.underlying5
 have hbA : Below w.heap.size w (w.alloc (.cells (bvals (List.replicate 32 0)) 26)) := (Below.refl _ _).alloc (Nat.le_refl _) _
 have hrA := BRow.new w 26 (List.replicate 32 0)
 have hszA : (w.alloc (.cells (bvals (List.replicate 32 0)) 26)).heap.size = w.heap.size + 1 := World.size_alloc _ _
 have HIs := Lib.hid (show (Tryz.prog.info? 26).map (·.size) = some (bvals (SH.sum (nums s))).size by rw [sizeD, bvals_size, SH.sum_len])
 have HZs := Lib.hid (show (bvals (List.replicate 32 0)).size = (bvals (SH.sum (nums s))).size by rw [bvals_size, bvals_size, SH.sum_len, List.length_replicate])
 have HOs := Lib.hid (bvals_one (SH.sum (nums s)))
 have HP : Hid (∀ e w', e = .returned (.agg (bvals (SH.sum (nums s)))) → Below w.heap.size w w' → DSumPost (nums s) w e w') := Lib.hid (fun _ _ h1 h2 => ⟨h1, h2⟩)
 have HC := Lib.hid (fun (X : World) (hX : Below w.heap.size w X) => dsum_any (some ⟨X.heap.size, 0, none⟩) s.size (grownCap X s.size 0 5) (nums s) (Lib.bytesWorld X 5 s) (hlaid.below (hX.trans ((below_bytes X 5 s).mono hX.size)) (Nat.le_refl _)) (byt_bytes X 5 s) (nums_len s) (grownCap_ge _ _ _ _) (grownCap_le_maxLen _ _ _ _ (by unfold maxLen; omega)) hs (fun e => by cases e) (nums_bytes s) (Nat.le_refl _))
 have HC := Lib.hid (HC.out _ hbA)
 rw [hszA] at HC
 unfold DSumPost at HC
 have FIN := Lib.hid (fun (X : World) (hX : Below (w.heap.size + 1) (w.alloc (.cells (bvals (List.replicate 32 0)) 26)) X) => (⟨hrA.below hX (by omega), (hrA.below hX (by omega)).put (SH.sum (nums s)), below_setRow (hbA.trans (hX.mono (by omega))) (Nat.le_refl _) (bvals (SH.sum (nums s)))⟩ : BRow X w.heap.size 26 (List.replicate 32 0) ∧ BRow (X.setRow w.heap.size (bvals (SH.sum (nums s)))) w.heap.size 26 (SH.sum (nums s)) ∧ Below w.heap.size w (X.setRow w.heap.size (bvals (SH.sum (nums s))))))
 unfold BRow at FIN
 have HBA := Lib.hid hbA
 have HSZ := Lib.hid hszA
 clear hrA hbA hszA hlaid
 generalize bvals (List.replicate 32 0) = Z32 at *
 generalize bvals (SH.sum (nums s)) = VS at *
 go_enter Tryz.func49, Tryz.ntmps49
 go_wp2_with fail
 refine HC.out.mono ?_
 rintro e x ⟨rfl, hbx⟩
 have hX : Below (w.heap.size + 1) (w.alloc (.cells Z32 26)) x := by
  have h1 := below_bytes (w.alloc (.cells Z32 26)) 5 s
  rw [HSZ.out] at h1
  exact h1.trans (hbx.mono (by rw [Lib.bytesWorld_size, HSZ.out]; omega))
 obtain ⟨f1, f2, f3⟩ := FIN.out x hX
 have F1 := Lib.hid f1
 have F2 := Lib.hid f2
 have F3 := Lib.hid f3
 clear f1 f2 f3 hX hbx
 go_wp2_with (first | ((with_reducible refine wpList_store_row (o := ⟨none, .store 26 (.tmp 2) (.tmp 5), _, _, _, _⟩) ?e1 26 (.tmp 2) (.tmp 5) ?e2 w.heap.size VS ?e3 ?e4 26 _ F1.out HIs.out HZs.out HOs.out ?_); (case e1 => rfl); (case e2 => rfl); (case e3 => rfl); (case e4 => rfl)))
 exact bodyPost_ret (v := .agg VS) (by exact results_cell_row Tryz.results49 _ _ w.heap.size 26 VS (0, 0) _ rfl F2.out Tryz.underlying26 rfl HIs.out) (by rfl) (HP.out _ _ rfl F3.out)
theorem bvals_u8 {xs : List Int} (h : AllBytes xs) : bvals xs = ((xs.map fun z => UInt8.ofNat z.toNat).map Extern.Stop.cell).toArray := by
 unfold bvals
 congr 1
 rw [List.map_map]
 refine List.map_congr_left fun z hz => ?_
 have := h z hz
 simp [Extern.Stop.cell, UInt8.toNat_ofNat']
 omega
theorem u8_inj {xs ys : List Int} (hx : AllBytes xs) (hy : AllBytes ys) : ((xs.map fun z => UInt8.ofNat z.toNat) == (ys.map fun z => UInt8.ofNat z.toNat)) = (xs == ys) := by
 rw [Bool.eq_iff_iff, beq_iff_eq, beq_iff_eq]
 constructor
 ·intro h
  have := (strOfNums_inj hx hy).1 (by rw [show strOfNums xs = ⟨(xs.map fun z => UInt8.ofNat z.toNat).toArray⟩ from rfl, show strOfNums ys = ⟨(ys.map fun z => UInt8.ofNat z.toNat).toArray⟩ from rfl, h])
  exact this
 ·rintro rfl; rfl
theorem eq_dig {xs ys : List Int} (hx : AllBytes xs) (hy : AllBytes ys) (lx : xs.length = 32) (ly : ys.length = 32) (w : World) : (Op.equalIn 10000 26 (.agg (bvals xs)) (.agg (bvals ys))).run Tryz.prog w = .ok (xs == ys) w := by
 rw [bvals_u8 hx, bvals_u8 hy, ← u8_inj hx hy]
 exact run_equalIn_bytes w 9998 26 5 32 Tryz.underlying26 Tryz.underlying5 (fun w => sizeByte w) _ _ (by rw [List.length_map, lx]) (by rw [List.length_map, ly])
theorem lessL_at : ∀ (k : Nat) {xs ys : List Int}, xs.length = ys.length → k < xs.length → (∀ j, j < k → xs.getD j 0 = ys.getD j 0) → xs.getD k 0 ≠ ys.getD k 0 → lessL xs ys = decide (xs.getD k 0 < ys.getD k 0)
 | 0, x :: xs, y :: ys, _, _, _, hne => by
  have : x ≠ y := by simpa using hne
  simp [lessL, this]
 | k + 1, x :: xs, y :: ys, hl, hk, hj, hne => by
  have h0 : x = y := by simpa using hj 0 (by omega)
  have ih := lessL_at k (xs := xs) (ys := ys) (by simpa using hl) (by simpa using hk) (fun j hj' => by have := hj (j + 1) (by omega); simpa using this) (by simpa using hne)
  rw [lessL, ih, h0]
  simp
 | 0, [], _, _, h, _, _ => by simp at h
 | _ + 1, [], _, _, h, _, _ => by simp at h
 | 0, _ :: _, [], h, _, _, _ => by simp at h
 | _ + 1, _ :: _, [], h, _, _, _ => by simp at h
theorem lists_eq {xs ys : List Int} (hl : xs.length = ys.length) (h : ∀ j, j < xs.length → xs.getD j 0 = ys.getD j 0) : xs = ys := by
 apply List.ext_getElem hl
 intro j h1 h2
 have := h j h1
 simpa [List.getD, List.getElem?_eq_getElem h1, List.getElem?_eq_getElem h2] using this
theorem lessL_self : ∀ xs : List Int, lessL xs xs = false
 | [] => rfl
 | x :: xs => by rw [lessL, lessL_self xs]; simp
set_option maxHeartbeats 1000000 in
theorem less_any (xs ys : List Int) (w : World) (hx : AllBytes xs) (hy : AllBytes ys) (lx : xs.length = 32) (ly : ys.length = 32) :
  Calls Tryz.prog 48 #[.agg (bvals xs), .agg (bvals ys)] w fun e w' => e = .returned (.bool (lessL xs ys)) ∧ Below w.heap.size w w' := by
 have heq := eq_dig hx hy lx ly
 have HI1 := Lib.hid (show (Tryz.prog.info? 26).map (·.size) = some (bvals xs).size by rw [sizeD, bvals_size, lx])
 have HI2 := Lib.hid (show (Tryz.prog.info? 26).map (·.size) = some (bvals ys).size by rw [sizeD, bvals_size, ly])
 have hr0 := (BRow.new w 26 xs).old (.cells (bvals ys) 26)
 have hr1 := BRow.new (w.alloc (.cells (bvals xs) 26)) 26 ys
 rw [World.size_alloc] at hr1
 have hb0 : Below w.heap.size w ((w.alloc (.cells (bvals xs) 26)).alloc (.cells (bvals ys) 26)) := ((Below.refl _ _).alloc (Nat.le_refl _) _).alloc (by simp) _
 have LX := Lib.hid lx
 have LY := Lib.hid ly
 have R0 := Lib.hid hr0
 have R1 := Lib.hid hr1
 have HB0 := Lib.hid hb0
 unfold BRow at hr0 hr1
 have G0 := Lib.hid hr0
 have G1 := Lib.hid hr1
 clear lx ly hx hy hr0 hr1 hb0
 by_cases he : xs = ys
 ·have h1 : (xs == ys) = true := by simp [he]
  have HL := Lib.hid (show lessL xs ys = false by rw [he]; exact lessL_self _)
  rw [h1] at heq
  clear he h1
  generalize bvals xs = VX at *
  generalize bvals ys = VY at *
  go_enter Tryz.func48, Tryz.ntmps48
  go_wp2_with (first | ((with_reducible refine wpList_load_row (o := ⟨some 6, .load 26 (.tmp 2), _, _, _, _⟩) ?e1 26 (.tmp 2) ?e2 w.heap.size ?e3 26 VX (0, 0) _ G0.out Tryz.underlying26 ?e4 HI1.out ?_); (case e1 => rfl); (case e2 => rfl); (case e3 => rfl); (case e4 => rfl)) | ((with_reducible refine wpList_load_row (o := ⟨some 7, .load 26 (.tmp 3), _, _, _, _⟩) ?e1 26 (.tmp 3) ?e2 (w.heap.size + 1) ?e3 26 VY (0, 0) _ G1.out Tryz.underlying26 ?e4 HI2.out ?_); (case e1 => rfl); (case e2 => rfl); (case e3 => rfl); (case e4 => rfl)))
  go_ret
  exact ⟨by rw [HL.out]; rfl, HB0.out⟩
 ·have h1 : (xs == ys) = false := by simp [he]
  have HNE := Lib.hid he
  rw [h1] at heq
  clear he h1
  generalize hVX : bvals xs = VX at *
  generalize hVY : bvals ys = VY at *
  go_enter Tryz.func48, Tryz.ntmps48
  go_wp2_with (first | ((with_reducible refine wpList_load_row (o := ⟨some 6, .load 26 (.tmp 2), _, _, _, _⟩) ?e1 26 (.tmp 2) ?e2 w.heap.size ?e3 26 VX (0, 0) _ G0.out Tryz.underlying26 ?e4 HI1.out ?_); (case e1 => rfl); (case e2 => rfl); (case e3 => rfl); (case e4 => rfl)) | ((with_reducible refine wpList_load_row (o := ⟨some 7, .load 26 (.tmp 3), _, _, _, _⟩) ?e1 26 (.tmp 3) ?e2 (w.heap.size + 1) ?e3 26 VY (0, 0) _ G1.out Tryz.underlying26 ?e4 HI2.out ?_); (case e1 => rfl); (case e2 => rfl); (case e3 => rfl); (case e4 => rfl)))
  clear heq
  go_loopw [5] (fun i wr => ∃ k : Nat, k ≤ 31 ∧ i = .int .i64 (k : Int) ∧ (∀ j, j < k → xs.getD j 0 = ys.getD j 0) ∧ BRow wr w.heap.size 26 xs ∧ BRow wr (w.heap.size + 1) 26 ys ∧ Below w.heap.size w wr) (fun i _ => 32 - (intOf i).toNat)
  case atStart =>
   subst hVX hVY
   exact ⟨0, by omega, rfl, fun j hj => by omega, R0.out, R1.out, HB0.out⟩
  case round =>
   obtain ⟨k, hk, rfl, hpre, hr0, hr1, hbel⟩ := hrel
   have c0 := hr0.cell (j := k) (by rw [LX.out]; omega)
   have c1 := hr1.cell (j := k) (by rw [LY.out]; omega)
   have HPre := Lib.hid hpre
   have Hr0 := Lib.hid hr0
   have Hr1 := Lib.hid hr1
   have Hbel := Lib.hid hbel
   clear hpre hr0 hr1 hbel R0 R1 HB0 G0 G1
   by_cases hkk : xs.getD k 0 = ys.getD k 0
   ·have hk30 : k ≤ 30 := by
     rcases Nat.lt_or_ge k 31 with h2 | h2
     ·omega
     ·exfalso
      apply HNE.out
      refine lists_eq (by rw [LX.out, LY.out]) fun j hj => ?_
      rw [LX.out] at hj
      rcases Nat.lt_or_ge j k with h3 | h3
      ·exact HPre.out j h3
      ·rw [show j = k by omega]; exact hkk
    have HNX := Lib.hid (show ∀ j, j < k + 1 → xs.getD j 0 = ys.getD j 0 from fun j hj => by
     rcases Nat.lt_or_ge j k with h3 | h3
     ·exact HPre.out j h3
     ·rw [show j = k by omega]; exact hkk)
    have ht : (xs.getD k 0 == ys.getD k 0) = true := beq_iff_eq.2 hkk
    clear hkk
    generalize xs.getD k 0 = x at *
    generalize ys.getD k 0 = y at *
    go_wp2_with fail
    go_quiet (fail)
    go_wp2
    go_roundw
    case rel =>
     exact ⟨k + 1, by omega, by go_num, HNX.out, Hr0.out, Hr1.out, below_drewN Hbel.out _⟩
    case measure => simp [intOf]; omega
   ·have HV := Lib.hid (lessL_at k (by rw [LX.out, LY.out]) (by rw [LX.out]; omega) HPre.out hkk)
    have ht : (xs.getD k 0 == ys.getD k 0) = false := beq_eq_false_iff_ne.2 hkk
    clear hkk
    generalize xs.getD k 0 = x at *
    generalize ys.getD k 0 = y at *
    go_wp2_with fail
    go_quiet (fail)
    go_wp2_with fail
    go_quiet (fail)
    go_wp2
    go_ret
    exact ⟨by rw [HV.out]; rfl, below_drewN (below_drewN Hbel.out _) _⟩
end
end
end Go.Proofs.YtnlhkpmgbpfjmaaGreatDoor
