import Derived.Test.YtkjimhlpbgeagaaDoorC0
import Derived.Test.YtkjimhlpbgeagaaDoorC6
import Derived.Test.YtkjimhlpbgeagaaDoorC7
import Derived.Test.YtkjimhlpbgeagaaDoorC1
import Derived.Stop.BytesEq
import Derived.Lib.ConvBytes
/-
  What the functions that a law of this layer reaches answer, part 8. Nothing that was there is written.
-/
namespace Go.Proofs.YtkjimhlpbgeagaaDoor
set_option linter.unusedVariables false
set_option linter.unusedSimpArgs false
section
section
open Go.RowKit WM
def DSumPost (zs : List Int) (w : World) (e : Ending) (w' : World) : Prop := e = .returned (.agg (bvals (SH.sum zs))) ∧ Below w.heap.size w w'
set_option maxHeartbeats 4000000 in
set_option maxRecDepth 100000 in
theorem dsum_any {B : Nat} (A : Option Addr) (len cap : Nat) (zs : List Int) (w : World) (hlaid : Laid w) (h : Byt w B A zs) (hl : zs.length = len) (hc : len ≤ cap) (hcm : cap ≤ maxLen) (hn : len ≤ 1152921504606846975) (hnil : A = none → cap = 0) (hb : AllBytes zs) (hB : B ≤ w.heap.size) :
  Calls Tryd.prog 45 #[.slice A len cap] w (DSumPost zs w) := by
 obtain ⟨wh, hwh⟩ : ∃ wh, wh = len - len % 64 := ⟨_, rfl⟩
 have ew : (len : Int) - (len : Int) % 64 = (wh : Int) := by omega
 have hz8 := zeroW8
 have hz := zeroD
 have hbA : Below w.heap.size w (w.alloc (.cells (bvals (List.replicate 32 0)) 23)) := (Below.refl _ _).alloc (Nat.le_refl _) _
 have hrA := BRow.new w 23 (List.replicate 32 0)
 have hszA : (w.alloc (.cells (bvals (List.replicate 32 0)) 23)).heap.size = w.heap.size + 1 := World.size_alloc _ _
 obtain ⟨W0, hW0⟩ : ∃ W0, w.alloc (.cells (bvals (List.replicate 32 0)) 23) = W0 := ⟨_, rfl⟩
 rw [hW0] at hbA hrA hszA
 have lx : ∀ X, Below W0.heap.size W0 X → Below w.heap.size w X := fun X hX => hbA.trans (hX.mono hbA.size)
 have C1 := Lib.hid (fun (X : World) (hX : Below W0.heap.size W0 X) => first_any X (hlaid.below (lx X hX) (Nat.le_refl _)))
 have C2 := Lib.hid (fun (X : World) (hX : Below W0.heap.size W0 X) => blocks_any SH.H0 SH.H0_ok A wh cap (zs.take wh) X (hlaid.below (lx X hX) (Nat.le_refl _)) ((h.take wh).below ((lx X hX).mono hB)) (by rw [List.length_take]; omega) (by omega) (by omega) hcm (all_take hb wh) (Nat.le_trans hB (lx X hX).size))
 have S1 := Lib.hid (fun w9 => sl_h A len cap wh (by omega) (wh : Int) rfl w9)
 have S2 := Lib.hid (fun w9 => sl_l A len cap wh (by omega) (wh : Int) rfl w9)
 have hA' : (if cap = wh then A else A.map (·.add wh)) = none → cap - wh = 0 := by
  by_cases e : cap = wh
  ·intro _; omega
  ·rw [if_neg e]
   cases A with
   | none => intro _; have := hnil rfl; omega
   | some a => intro e'; cases e'
 have C3 := Lib.hid (fun (X : World) (hX : Below W0.heap.size W0 X) => ending_any (if cap = wh then A else A.map (·.add wh)) (len - wh) (cap - wh) len (zs.drop wh) X ((h.drop (k := wh) (cap := cap) (by omega)).below ((lx X hX).mono hB)) (by rw [List.length_drop, hl]) hn (by omega) hA' (Nat.le_trans hB (lx X hX).size))
 generalize (if cap = wh then A else A.map (·.add wh)) = A' at *
 have hmb : AllBytes (zs.drop wh ++ SH.tail (len - wh) len) := all_append (all_drop hb wh) (tail_bytes _ _)
 have hml : (zs.drop wh ++ SH.tail (len - wh) len).length % 64 = 0 := by
  rw [List.length_append, List.length_drop, SH.tail_len, hl]; unfold SH.gap; omega
 have C4 := Lib.hid (fun (X : World) (hX : Below W0.heap.size W0 X) (A4 : Option Addr) (n4 c4 : Nat) (hy : Byt X X.heap.size A4 (zs.drop wh ++ SH.tail (len - wh) len)) (h1 : (zs.drop wh ++ SH.tail (len - wh) len).length = n4) (h2 : n4 ≤ c4) (h3 : c4 ≤ maxLen) => blocks_any (SH.all SH.H0 (zs.take wh)) (SH.all_ok _ SH.H0_ok) A4 n4 c4 _ X (hlaid.below (lx X hX) (Nat.le_refl _)) hy h1 (by rw [← h1]; exact hml) h2 h3 hmb (Nat.le_refl _))
 have C5 := Lib.hid (fun (X : World) => dig_any (SH.all (SH.all SH.H0 (zs.take wh)) (zs.drop wh ++ SH.tail (len - wh) len)) (SH.all_ok _ (SH.all_ok _ SH.H0_ok)) X)
 have HE : SH.dig (SH.all (SH.all SH.H0 (zs.take wh)) (zs.drop wh ++ SH.tail (len - wh) len)) = SH.sum zs := by
  rw [SH.sum_parts, hl, ← hwh, show len - wh = len % 64 by omega]
 unfold FirstPost at C1
 unfold BlocksPost at C2 C4
 unfold DigPost at C5
 rw [HE] at C5
 have HP : Hid (∀ e w', e = .returned (.agg (bvals (SH.sum zs))) → Below w.heap.size w w' → DSumPost zs w e w') := Lib.hid (fun _ _ h1 h2 => ⟨h1, h2⟩)
 generalize SH.all (SH.all SH.H0 (zs.take wh)) (zs.drop wh ++ SH.tail (len - wh) len) = s2 at *
 generalize SH.all SH.H0 (zs.take wh) = s1 at *
 have I1 := Lib.hid (size8 s1)
 have I2 := Lib.hid (size8 s2)
 have Z1 := Lib.hid (show (vals (List.replicate 8 0)).size = (vals s1.list).size by rw [vals_size, vals_size, list_len, List.length_replicate])
 have Z2 := Lib.hid (show (vals s1.list).size = (vals s2.list).size by rw [vals_size, vals_size, list_len, list_len])
 have O1 := Lib.hid (vals_one s1.list)
 have O2 := Lib.hid (vals_one s2.list)
 have RN := Lib.hid (fun X => heap_alloc_new X (.cells (vals (List.replicate 8 0)) 123))
 have RBx : ∀ (X X' : World) (g : Nat) (V : Array Value), X.heap[g]? = some (.cells V 123 (0, 0)) → Below X.heap.size X X' → X'.heap[g]? = some (.cells V 123 (0, 0)) := fun X X' g V hX hb => by
  have hlt : g < X.heap.size := by
   rcases Nat.lt_or_ge g X.heap.size with h3 | h3
   ·exact h3
   ·rw [Array.getElem?_eq_none h3] at hX; cases hX
  rw [hb.block g hlt]; exact hX
 generalize vals (List.replicate 8 0) = Z8 at *
 generalize vals s1.list = V1 at *
 generalize hV2 : vals s2.list = V2 at *
 have RB := Lib.hid (fun (X X' : World) (g : Nat) => RBx X X' g Z8)
 have RV := Lib.hid (fun (X X' : World) => RBx X X')
 have PUT := Lib.hid (fun (X : World) (g : Nat) (hr : X.heap[g]? = some (.cells Z8 123 (0, 0))) (hg : W0.heap.size ≤ g) (hX : Below W0.heap.size W0 X) => (⟨setRow_heap X g _ V1 _ _ hr, below_setRow hX hg V1⟩ : (X.setRow g V1).heap[g]? = some (.cells V1 123 (0, 0)) ∧ Below W0.heap.size W0 (X.setRow g V1)))
 have PUT2 := Lib.hid (fun (X : World) (g : Nat) (hr : X.heap[g]? = some (.cells V1 123 (0, 0))) (hg : W0.heap.size ≤ g) (hX : Below W0.heap.size W0 X) => (⟨setRow_heap X g _ V2 _ _ hr, below_setRow hX hg V2⟩ : (X.setRow g V2).heap[g]? = some (.cells V2 123 (0, 0)) ∧ Below W0.heap.size W0 (X.setRow g V2)))
 have hIs := Lib.hid (show (Tryd.prog.info? 23).map (·.size) = some (bvals (SH.sum zs)).size by rw [sizeD, bvals_size, SH.sum_len])
 have hZs := Lib.hid (show (bvals (List.replicate 32 0)).size = (bvals (SH.sum zs)).size by rw [bvals_size, bvals_size, SH.sum_len, List.length_replicate])
 have hOs := Lib.hid (bvals_one (SH.sum zs))
 have HRA := Lib.hid (fun (X : World) (hX : Below W0.heap.size W0 X) => hrA.below hX (by rw [hszA]; omega))
 have FIN := Lib.hid (fun (X : World) (hX : Below W0.heap.size W0 X) => (⟨(hrA.below hX (by rw [hszA]; omega)).put (SH.sum zs), below_setRow (lx X hX) (Nat.le_refl _) (bvals (SH.sum zs))⟩ : BRow (X.setRow w.heap.size (bvals (SH.sum zs))) w.heap.size 23 (SH.sum zs) ∧ Below w.heap.size w (X.setRow w.heap.size (bvals (SH.sum zs)))))
 unfold BRow at HRA FIN
 generalize bvals (List.replicate 32 0) = Z32 at *
 generalize bvals (SH.sum zs) = VS at *
 have HW0 := Lib.hid hW0
 clear hW0 hbA hrA hszA lx hlaid h hnil hb hA' hmb hml HE hwh
 go_enter Tryd.func45, Tryd.ntmps45
 go_wp2_with fail
 rw [HW0.out]
 refine wp_region_held_drew (S := fun w' => Below W0.heap.size W0 w') (by kernel_rfl) (Below.refl _ _).drew (fun hS => ?_)
 refine wpHv (i := 1) (oi := ⟨some 12, _, _, _, _, _⟩) (v := ?_) rfl ?_ hS ?_; rotate_left; (focus (intro w9 hSw; (try dsimp only at hSw); go_simp; try with_reducible rfl)); simp only [Act.put, Z2, Z3, Z4]
 refine wpHv (i := 2) (oi := ⟨some 13, _, _, _, _, _⟩) (v := ?_) rfl ?_ hS ?_; rotate_left; (focus (intro w9 hSw; (try dsimp only at hSw); go_simp; try with_reducible rfl)); simp only [Act.put, Z2, Z3, Z4]
 refine wpHv (i := 3) (oi := ⟨some 14, _, _, _, _, _⟩) (v := ?_) rfl ?_ hS ?_; rotate_left; (focus (intro w9 hSw; (try dsimp only at hSw); have s9 := S1.out w9; go_simp; try with_reducible rfl)); simp only [Act.put, Z2, Z3, Z4]
 have hcx : Below W0.heap.size W0 W0.drew := (Below.refl _ _).drew
 generalize W0.drew = x at *
 refine wpAnyH_ready (rs := [0, 5]) (by kernel_rfl) (by simp) (AllReadyH.cons (o := ⟨some 11, _, _, _, _, _⟩) rfl (fun K hK => ?_) (AllReadyH.cons (o := ⟨some 4, _, _, _, _, _⟩) rfl (fun K hK => ?_) AllReadyH.nil))
 go_simp
 refine (C1.out x hcx).mono ?_
 rintro e x1 ⟨rfl, hbx1⟩
 have hcx1 := hcx.trans (hbx1.mono hcx.size)
 refine hK.out _ _ hcx1 (fun hS => ?_)
 clear hK K
 refine wpAnyH_ready (rs := [4, 5]) (by kernel_rfl) (by simp) (AllReadyH.cons (o := ⟨some 15, _, _, _, _, _⟩) rfl (fun K hK => ?_) (AllReadyH.cons (o := ⟨some 4, _, _, _, _, _⟩) rfl (fun K hK => ?_) AllReadyH.nil))
 go_simp
 refine (C2.out x1 hcx1).mono ?_
 rintro e x2 ⟨rfl, hbx2⟩
 have hcx2 := hcx1.trans (hbx2.mono hcx1.size)
 refine hK.out _ _ hcx2 (fun hS => ?_)
 clear hK K
 refine wpAnyH_ready (rs := [5]) (by kernel_rfl) (by simp) (AllReadyH.cons (o := ⟨some 4, _, _, _, _, _⟩) rfl (fun K hK => ?_) AllReadyH.nil)
 go_simp
 have hbx3 : Below x2.heap.size x2 (x2.alloc (.cells Z8 123)) := (Below.refl _ _).alloc (Nat.le_refl _) _
 have hcx3 := hcx2.trans (hbx3.mono hcx2.size)
 have hrx3 := RN.out x2
 have hg : W0.heap.size ≤ x2.heap.size := hcx2.size
 refine hK.out _ _ hcx3 (fun hS => ?_)
 clear hK K
 generalize x2.alloc (.cells Z8 123) = x3 at *
 generalize x2.heap.size = G at hrx3 hg ⊢
 refine wpAnyH_ready (rs := [6]) (by kernel_rfl) (by simp) (AllReadyH.cons (o := ⟨none, _, _, _, _, _⟩) rfl (fun K hK => ?_) AllReadyH.nil)
 rw [if_pos (by rfl)]
 refine wp_store_row 123 (.tmp 4) (.tmp 15) rfl G V1 (by rfl) (by rfl) 123 Z8 hrx3 I1.out Z1.out O1.out ?_
 have hcY := below_setRow hcx3 hg V1
 refine hK.out _ _ hcY (fun hS => ?_)
 clear hK K
 have HY := Lib.hid (PUT.out x3 G hrx3 hg hcx3)
 clear hrx3 hcY
 generalize x3.setRow G V1 = Y at *
 refine wpAnyH_done (by kernel_rfl) ?_ _
 simp only [Act.put]
 rotate_left
 go_simp
 have hbx2 : Below x1.heap.size x1 (x1.alloc (.cells Z8 123)) := (Below.refl _ _).alloc (Nat.le_refl _) _
 have hcx2 := hcx1.trans (hbx2.mono hcx1.size)
 have hrx2 := RN.out x1
 have hg : W0.heap.size ≤ x1.heap.size := hcx1.size
 refine hK.out _ _ hcx2 (fun hS => ?_)
 clear hK K
 generalize x1.alloc (.cells Z8 123) = x2 at *
 generalize x1.heap.size = G at hrx2 hg ⊢
 refine wpAnyH_ready (rs := [4]) (by kernel_rfl) (by simp) (AllReadyH.cons (o := ⟨some 15, _, _, _, _, _⟩) rfl (fun K hK => ?_) AllReadyH.nil)
 go_simp
 refine (C2.out x2 hcx2).mono ?_
 rintro e x3 ⟨rfl, hbx3⟩
 have hcx3 := hcx2.trans (hbx3.mono hcx2.size)
 refine hK.out _ _ hcx3 (fun hS => ?_)
 clear hK K
 have hrx3 := RB.out _ _ _ hrx2 hbx3
 refine wpAnyH_ready (rs := [6]) (by kernel_rfl) (by simp) (AllReadyH.cons (o := ⟨none, _, _, _, _, _⟩) rfl (fun K hK => ?_) AllReadyH.nil)
 rw [if_pos (by rfl)]
 refine wp_store_row 123 (.tmp 4) (.tmp 15) rfl G V1 (by rfl) (by rfl) 123 Z8 hrx3 I1.out Z1.out O1.out ?_
 have hcY := below_setRow hcx3 hg V1
 refine hK.out _ _ hcY (fun hS => ?_)
 clear hK K
 have HY := Lib.hid (PUT.out x3 G hrx3 hg hcx3)
 clear hrx3 hcY
 generalize x3.setRow G V1 = Y at *
 refine wpAnyH_done (by kernel_rfl) ?_ _
 simp only [Act.put]
 rotate_left
 go_simp
 have hbx1 : Below x.heap.size x (x.alloc (.cells Z8 123)) := (Below.refl _ _).alloc (Nat.le_refl _) _
 have hcx1 := hcx.trans (hbx1.mono hcx.size)
 have hrx1 := RN.out x
 have hg : W0.heap.size ≤ x.heap.size := hcx.size
 refine hK.out _ _ hcx1 (fun hS => ?_)
 clear hK K
 generalize x.alloc (.cells Z8 123) = x1 at *
 generalize x.heap.size = G at hrx1 hg ⊢
 refine wpAnyH_ready (rs := [0]) (by kernel_rfl) (by simp) (AllReadyH.cons (o := ⟨some 11, _, _, _, _, _⟩) rfl (fun K hK => ?_) AllReadyH.nil)
 go_simp
 refine (C1.out x1 hcx1).mono ?_
 rintro e x2 ⟨rfl, hbx2⟩
 have hcx2 := hcx1.trans (hbx2.mono hcx1.size)
 refine hK.out _ _ hcx2 (fun hS => ?_)
 clear hK K
 have hrx2 := RB.out _ _ _ hrx1 hbx2
 refine wpAnyH_ready (rs := [4]) (by kernel_rfl) (by simp) (AllReadyH.cons (o := ⟨some 15, _, _, _, _, _⟩) rfl (fun K hK => ?_) AllReadyH.nil)
 go_simp
 refine (C2.out x2 hcx2).mono ?_
 rintro e x3 ⟨rfl, hbx3⟩
 have hcx3 := hcx2.trans (hbx3.mono hcx2.size)
 refine hK.out _ _ hcx3 (fun hS => ?_)
 clear hK K
 have hrx3 := RB.out _ _ _ hrx2 hbx3
 refine wpAnyH_ready (rs := [6]) (by kernel_rfl) (by simp) (AllReadyH.cons (o := ⟨none, _, _, _, _, _⟩) rfl (fun K hK => ?_) AllReadyH.nil)
 rw [if_pos (by rfl)]
 refine wp_store_row 123 (.tmp 4) (.tmp 15) rfl G V1 (by rfl) (by rfl) 123 Z8 hrx3 I1.out Z1.out O1.out ?_
 have hcY := below_setRow hcx3 hg V1
 refine hK.out _ _ hcY (fun hS => ?_)
 clear hK K
 have HY := Lib.hid (PUT.out x3 G hrx3 hg hcx3)
 clear hrx3 hcY
 generalize x3.setRow G V1 = Y at *
 refine wpAnyH_done (by kernel_rfl) ?_ _
 simp only [Act.put]
 all_goals (
  go_wp2_with fail
  obtain ⟨hrY, hcY⟩ := HY.out
  refine wp_region_held_drew (S := fun w' => Below W0.heap.size W0 w') (by kernel_rfl) hcY.drew (fun hS => ?_)
  refine wpHv (i := 1) (oi := ⟨some 17, _, _, _, _, _⟩) (v := ?_) rfl ?_ hS ?_; rotate_left; (focus (intro w9 hSw; (try dsimp only at hSw); go_simp; try with_reducible rfl)); simp only [Act.put, Z2, Z3, Z4]
  refine wpHv (i := 2) (oi := ⟨some 18, _, _, _, _, _⟩) (v := ?_) rfl ?_ hS ?_; rotate_left; (focus (intro w9 hSw; (try dsimp only at hSw); go_simp; try with_reducible rfl)); simp only [Act.put, Z2, Z3, Z4]
  refine wpHv (i := 3) (oi := ⟨some 19, _, _, _, _, _⟩) (v := ?_) rfl ?_ hS ?_; rotate_left; (focus (intro w9 hSw; (try dsimp only at hSw); have s9 := S2.out w9; go_simp; try with_reducible rfl)); simp only [Act.put, Z2, Z3, Z4]
  refine wpHv (i := 4) (oi := ⟨some 20, _, _, _, _, _⟩) (v := ?_) rfl ?_ hS ?_; rotate_left; (focus (intro w9 hSw; (try dsimp only at hSw); go_simp; try with_reducible rfl)); simp only [Act.put, Z2, Z3, Z4]
  refine wpHv (i := 5) (oi := ⟨some 21, _, _, _, _, _⟩) (v := ?_) rfl ?_ hS ?_; rotate_left; (focus (intro w9 hSw; (try dsimp only at hSw); go_simp; try with_reducible rfl)); simp only [Act.put, Z2, Z3, Z4]
  have hcz := hcY.drew
  have hrz : Y.drew.heap[G]? = some (.cells V1 123 (0, 0)) := hrY
  generalize Y.drew = z at *
  refine wpAnyH_ready (rs := [0, 6]) (by kernel_rfl) (by simp) (AllReadyH.cons (o := ⟨some 16, _, _, _, _, _⟩) rfl (fun K hK => ?_) (AllReadyH.cons (o := ⟨some 22, _, _, _, _, _⟩) rfl (fun K hK => ?_) AllReadyH.nil))
  rw [if_pos (by rfl)]
  refine wp_load_row 123 (.tmp 4) rfl G (by rfl) 123 V1 (0, 0) _ hrz Tryd.underlying123 rfl I1.out ?_
  refine hK.out _ _ hcz (fun hS => ?_)
  clear hK K
  simp only [Act.put, Z2, Z3, Z4]
  refine wpAnyH_ready (rs := [6]) (by kernel_rfl) (by simp) (AllReadyH.cons (o := ⟨some 22, _, _, _, _, _⟩) rfl (fun K hK => ?_) AllReadyH.nil)
  go_simp
  refine (C3.out z hcz).mono ?_
  rintro e z1 ⟨A4, n4, c4, rfl, hn4, hnc4, hcm4, hown4, hbz1⟩
  have hcz1 := hcz.trans (hbz1.mono hcz.size)
  have hrz1 := RV.out _ _ _ _ hrz hbz1
  have hy4 := Byt.own hown4
  refine hK.out _ _ hcz1 (fun hS => ?_)
  clear hK K
  refine wpAnyH_ready (rs := [7]) (by kernel_rfl) (by simp) (AllReadyH.cons (o := ⟨some 23, _, _, _, _, _⟩) rfl (fun K hK => ?_) AllReadyH.nil)
  go_simp
  refine (C4.out z1 hcz1 A4 n4 c4 hy4 hn4 hnc4 hcm4).mono ?_
  rintro e x9 ⟨rfl, hbx9⟩
  have hcx9 := hcz1.trans (hbx9.mono hcz1.size)
  have hrx9 := RV.out _ _ _ _ hrz1 hbx9
  refine hK.out _ _ hcx9 (fun hS => ?_)
  clear hK K
  refine wpAnyH_ready (rs := [8]) (by kernel_rfl) (by simp) (AllReadyH.cons (o := ⟨none, _, _, _, _, _⟩) rfl (fun K hK => ?_) AllReadyH.nil)
  rw [if_pos (by rfl)]
  refine wp_store_row 123 (.tmp 4) (.tmp 23) rfl G V2 (by rfl) (by rfl) 123 V1 hrx9 I2.out Z2.out O2.out ?_
  have hcY := below_setRow hcx9 hg V2
  refine hK.out _ _ hcY (fun hS => ?_)
  clear hK K
  have HY2 := Lib.hid (PUT2.out x9 G hrx9 hg hcx9)
  clear hrx9 hcY
  generalize x9.setRow G V2 = Y2 at *
  refine wpAnyH_done (by kernel_rfl) ?_ _
  simp only [Act.put]
  rotate_left
  go_simp
  refine (C3.out z hcz).mono ?_
  rintro e z1 ⟨A4, n4, c4, rfl, hn4, hnc4, hcm4, hown4, hbz1⟩
  have hcz1 := hcz.trans (hbz1.mono hcz.size)
  have hrz1 := RV.out _ _ _ _ hrz hbz1
  have hy4 := Byt.own hown4
  refine hK.out _ _ hcz1 (fun hS => ?_)
  clear hK K
  refine wpAnyH_ready (rs := [0]) (by kernel_rfl) (by simp) (AllReadyH.cons (o := ⟨some 16, _, _, _, _, _⟩) rfl (fun K hK => ?_) AllReadyH.nil)
  rw [if_pos (by rfl)]
  refine wp_load_row 123 (.tmp 4) rfl G (by rfl) 123 V1 (0, 0) _ hrz1 Tryd.underlying123 rfl I1.out ?_
  refine hK.out _ _ hcz1 (fun hS => ?_)
  clear hK K
  simp only [Act.put, Z2, Z3, Z4]
  refine wpAnyH_ready (rs := [7]) (by kernel_rfl) (by simp) (AllReadyH.cons (o := ⟨some 23, _, _, _, _, _⟩) rfl (fun K hK => ?_) AllReadyH.nil)
  go_simp
  refine (C4.out z1 hcz1 A4 n4 c4 hy4 hn4 hnc4 hcm4).mono ?_
  rintro e x9 ⟨rfl, hbx9⟩
  have hcx9 := hcz1.trans (hbx9.mono hcz1.size)
  have hrx9 := RV.out _ _ _ _ hrz1 hbx9
  refine hK.out _ _ hcx9 (fun hS => ?_)
  clear hK K
  refine wpAnyH_ready (rs := [8]) (by kernel_rfl) (by simp) (AllReadyH.cons (o := ⟨none, _, _, _, _, _⟩) rfl (fun K hK => ?_) AllReadyH.nil)
  rw [if_pos (by rfl)]
  refine wp_store_row 123 (.tmp 4) (.tmp 23) rfl G V2 (by rfl) (by rfl) 123 V1 hrx9 I2.out Z2.out O2.out ?_
  have hcY := below_setRow hcx9 hg V2
  refine hK.out _ _ hcY (fun hS => ?_)
  clear hK K
  have HY2 := Lib.hid (PUT2.out x9 G hrx9 hg hcx9)
  clear hrx9 hcY
  generalize x9.setRow G V2 = Y2 at *
  refine wpAnyH_done (by kernel_rfl) ?_ _
  simp only [Act.put])
 all_goals (
  obtain ⟨hrY2, hcY2⟩ := HY2.out
  have Hr := Lib.hid hrY2
  have Hc := Lib.hid hcY2
  clear hrY2 hcY2
  go_wp2_with (first | ((with_reducible refine wpList_load_row (o := ⟨some 24, .load 123 (.tmp 4), _, _, _, _⟩) ?e1 123 (.tmp 4) ?e2 G ?e3 123 V2 (0, 0) _ Hr.out Tryd.underlying123 ?e4 I2.out ?_); (case e1 => rfl); (case e2 => rfl); (case e3 => rfl); (case e4 => rfl)))
  refine (C5.out Y2).mono ?_
  rintro e x ⟨rfl, hbx⟩
  have hcx := Hc.out.trans (hbx.mono Hc.out.size)
  have h0 := Lib.hid (HRA.out x hcx)
  have hf := FIN.out x hcx
  have HF := Lib.hid hf
  clear hf hbx hcx
  go_wp2_with (first | ((with_reducible refine wpList_store_row (o := ⟨none, .store 23 (.tmp 2) (.tmp 25), _, _, _, _⟩) ?e1 23 (.tmp 2) (.tmp 25) ?e2 w.heap.size VS ?e3 ?e4 23 _ h0.out hIs.out hZs.out hOs.out ?_); (case e1 => rfl); (case e2 => rfl); (case e3 => rfl); (case e4 => rfl)))
  exact bodyPost_ret (v := .agg VS) (by exact results_cell_row Tryd.results45 _ _ w.heap.size 23 VS (0, 0) _ rfl HF.out.1 Tryd.underlying23 rfl hIs.out) (by rfl) (HP.out _ _ rfl HF.out.2))
end
section
open Go.RowKit WM
theorem below_bytes (w : World) (e : TypeId) (s : ByteArray) : Below w.heap.size w (Lib.bytesWorld w e s) :=
 ⟨by simp [Lib.bytesWorld, World.freeze, World.alloc, World.drew, -World.alloc_eq, -World.drew_eq], by simp [Lib.bytesWorld, World.freeze, World.alloc, World.drew, -World.alloc_eq, -World.drew_eq], by simp [Lib.bytesWorld, World.freeze, World.alloc, World.drew, -World.alloc_eq, -World.drew_eq], by rw [Lib.bytesWorld_size]; omega, fun k hk => Lib.bytesWorld_at_old w e s k hk⟩
theorem byt_bytes (w : World) (e : TypeId) (s : ByteArray) : Byt (Lib.bytesWorld w e s) (Lib.bytesWorld w e s).heap.size (some ⟨w.heap.size, 0, none⟩) (nums s) := fun _ => by
 refine ⟨_, _, rfl, by rw [Lib.bytesWorld_size]; omega, fun i hi => ?_⟩
 rw [nums_len] at hi
 rw [Nat.zero_add, Lib.bytesWorld_cell w e s i hi]
 have hi' : i < s.data.toList.length := by rw [Array.length_toList]; exact hi
 simp [nums, List.getD, List.getElem?_eq_getElem hi']
set_option maxHeartbeats 1000000 in
theorem of_any (s : ByteArray) (w : World) (hlaid : Laid w) (hs : s.size ≤ 1152921504606846975) :
  Calls Tryd.prog 46 #[.string s] w (DSumPost (nums s) w) := by
 have hz := zeroD
 have hcv := fun (w9 : World) => Lib.run_convert_string_bytes (P := Tryd.prog) w9 9 27 5 s Tryd.underlying9 Tryd.underlying27 Tryd.underlying5
 have hbA : Below w.heap.size w (w.alloc (.cells (bvals (List.replicate 32 0)) 23)) := (Below.refl _ _).alloc (Nat.le_refl _) _
 have hrA := BRow.new w 23 (List.replicate 32 0)
 have hszA : (w.alloc (.cells (bvals (List.replicate 32 0)) 23)).heap.size = w.heap.size + 1 := World.size_alloc _ _
 have HIs := Lib.hid (show (Tryd.prog.info? 23).map (·.size) = some (bvals (SH.sum (nums s))).size by rw [sizeD, bvals_size, SH.sum_len])
 have HZs := Lib.hid (show (bvals (List.replicate 32 0)).size = (bvals (SH.sum (nums s))).size by rw [bvals_size, bvals_size, SH.sum_len, List.length_replicate])
 have HOs := Lib.hid (bvals_one (SH.sum (nums s)))
 have HP : Hid (∀ e w', e = .returned (.agg (bvals (SH.sum (nums s)))) → Below w.heap.size w w' → DSumPost (nums s) w e w') := Lib.hid (fun _ _ h1 h2 => ⟨h1, h2⟩)
 have HC := Lib.hid (fun (X : World) (hX : Below w.heap.size w X) => dsum_any (some ⟨X.heap.size, 0, none⟩) s.size (grownCap X s.size 0 5) (nums s) (Lib.bytesWorld X 5 s) (hlaid.below (hX.trans ((below_bytes X 5 s).mono hX.size)) (Nat.le_refl _)) (byt_bytes X 5 s) (nums_len s) (grownCap_ge _ _ _ _) (grownCap_le_maxLen _ _ _ _ (by unfold maxLen; omega)) hs (fun e => by cases e) (nums_bytes s) (Nat.le_refl _))
 have HC := Lib.hid (HC.out _ hbA)
 rw [hszA] at HC
 unfold DSumPost at HC
 have FIN := Lib.hid (fun (X : World) (hX : Below (w.heap.size + 1) (w.alloc (.cells (bvals (List.replicate 32 0)) 23)) X) => (⟨hrA.below hX (by omega), (hrA.below hX (by omega)).put (SH.sum (nums s)), below_setRow (hbA.trans (hX.mono (by omega))) (Nat.le_refl _) (bvals (SH.sum (nums s)))⟩ : BRow X w.heap.size 23 (List.replicate 32 0) ∧ BRow (X.setRow w.heap.size (bvals (SH.sum (nums s)))) w.heap.size 23 (SH.sum (nums s)) ∧ Below w.heap.size w (X.setRow w.heap.size (bvals (SH.sum (nums s))))))
 unfold BRow at FIN
 have HBA := Lib.hid hbA
 have HSZ := Lib.hid hszA
 clear hrA hbA hszA hlaid
 generalize bvals (List.replicate 32 0) = Z32 at *
 generalize bvals (SH.sum (nums s)) = VS at *
 go_enter Tryd.func46, Tryd.ntmps46
 go_wp2_with fail
 refine HC.out.mono ?_
 rintro e x ⟨rfl, hbx⟩
 have hX : Below (w.heap.size + 1) (w.alloc (.cells Z32 23)) x := by
  have h1 := below_bytes (w.alloc (.cells Z32 23)) 5 s
  rw [HSZ.out] at h1
  exact h1.trans (hbx.mono (by rw [Lib.bytesWorld_size, HSZ.out]; omega))
 obtain ⟨f1, f2, f3⟩ := FIN.out x hX
 have F1 := Lib.hid f1
 have F2 := Lib.hid f2
 have F3 := Lib.hid f3
 clear f1 f2 f3 hX hbx
 go_wp2_with (first | ((with_reducible refine wpList_store_row (o := ⟨none, .store 23 (.tmp 2) (.tmp 5), _, _, _, _⟩) ?e1 23 (.tmp 2) (.tmp 5) ?e2 w.heap.size VS ?e3 ?e4 23 _ F1.out HIs.out HZs.out HOs.out ?_); (case e1 => rfl); (case e2 => rfl); (case e3 => rfl); (case e4 => rfl)))
 exact bodyPost_ret (v := .agg VS) (by exact results_cell_row Tryd.results46 _ _ w.heap.size 23 VS (0, 0) _ rfl F2.out Tryd.underlying23 rfl HIs.out) (by rfl) (HP.out _ _ rfl F3.out)
theorem bvals_u8 {xs : List Int} (h : AllBytes xs) : bvals xs = ((xs.map fun z => UInt8.ofNat z.toNat).map Extern.Stop.cell).toArray := by
 unfold bvals
 congr 1
 rw [List.map_map]
 refine List.map_congr_left fun z hz => ?_
 have := h z hz
 simp [Extern.Stop.cell, UInt8.toNat_ofNat']
 omega
theorem u8_inj {xs ys : List Int} (hx : AllBytes xs) (hy : AllBytes ys) : ((xs.map fun z => UInt8.ofNat z.toNat) == (ys.map fun z => UInt8.ofNat z.toNat)) = (xs == ys) := by
 rw [Bool.eq_iff_iff, beq_iff_eq, beq_iff_eq]
 constructor
 ·intro h
  have := (strOfNums_inj hx hy).1 (by rw [show strOfNums xs = ⟨(xs.map fun z => UInt8.ofNat z.toNat).toArray⟩ from rfl, show strOfNums ys = ⟨(ys.map fun z => UInt8.ofNat z.toNat).toArray⟩ from rfl, h])
  exact this
 ·rintro rfl; rfl
theorem eq_dig {xs ys : List Int} (hx : AllBytes xs) (hy : AllBytes ys) (lx : xs.length = 32) (ly : ys.length = 32) (w : World) : (Op.equalIn 10000 23 (.agg (bvals xs)) (.agg (bvals ys))).run Tryd.prog w = .ok (xs == ys) w := by
 rw [bvals_u8 hx, bvals_u8 hy, ← u8_inj hx hy]
 exact run_equalIn_bytes w 9998 23 5 32 Tryd.underlying23 Tryd.underlying5 (fun w => sizeByte w) _ _ (by rw [List.length_map, lx]) (by rw [List.length_map, ly])
end
end
section
section
open Go.RowKit WM
section
variable {P : Program} {ops : Array Oper} {Q : Exit → Act → World → Prop} {md : Region.Mode} {S : World → Prop}
def Uni (P : Program) (S : World → Prop) (x : Sem Next) (v : Value) : Prop :=
 ∀ w, S w → x.run P w = .ok (.value v) w ∨ ∃ f args, x.run P w = .ok (.enter f args) w ∧ Calls P f args w fun e w' => e = .returned v ∧ S w'
def UniIf (P : Program) (ops : Array Oper) (S : World → Prop) (o : Oper) (v : Value) (a : Act) : Prop :=
 (Region.wanted o (yielded ops a.tmps) = true ∧ Uni P S (execOp a.eval o) v) ∨ (Region.wanted o (yielded ops a.tmps) = false ∧ v = undef)
def wpU (P : Program) (md : Region.Mode) (ops : Array Oper) (Q : Exit → Act → World → Prop) (S : World → Prop) : Nat → Array Bool → Act → Prop
 | 0, listed, a => Region.ready md ops listed = [] ∧ ∀ w, S w → Q .normal a w
 | fuel + 1, listed, a =>
  (Region.ready md ops listed = [] → ∀ w, S w → Q .normal a w) ∧
  ∀ i ∈ Region.ready md ops listed, ∃ o v, ops[i]? = some o ∧ UniIf P ops S o v a ∧ wpU P md ops Q S fuel (listed.setIfInBounds i true) (a.put o.dst v)
theorem wpU_done {listed : Array Bool} {a : Act} (hr : Region.ready md ops listed = []) (h : ∀ w, S w → Q .normal a w) : ∀ fuel, wpU P md ops Q S fuel listed a
 | 0 => ⟨hr, h⟩
 | _ + 1 => ⟨fun _ => h, by rw [hr]; simp⟩
end
end
section
open Go.RowKit WM
abbrev Blks := List (Nat × Array Value × TypeId)
def HasBlks (L : Blks) (w : World) : Prop := ∀ x ∈ L, w.heap[x.1]? = some (.cells x.2.1 x.2.2)
theorem HasBlks.lt {L : Blks} {w : World} (h : HasBlks L w) {x : Nat × Array Value × TypeId} (hx : x ∈ L) : x.1 < w.heap.size := by
 rcases Nat.lt_or_ge x.1 w.heap.size with h1 | h1
 ·exact h1
 ·have := h x hx; rw [Array.getElem?_eq_none h1] at this; cases this
theorem HasBlks.below {L : Blks} {w w' : World} (h : HasBlks L w) (hb : Below w.heap.size w w') : HasBlks L w' := fun x hx => by
 rw [hb.block _ (h.lt hx)]; exact h x hx
section
variable {P : Program} {ops : Array Oper} {Q : Exit → Act → World → Prop} {md : Region.Mode} {W0 : World}
def UniB (P : Program) (W0 : World) (x : Sem Next) (v : Value) : Prop :=
 ∀ w, Below W0.heap.size W0 w → x.run P w = .ok (.value v) w ∨ ∃ f args, x.run P w = .ok (.enter f args) w ∧ Calls P f args w fun e w' => e = .returned v ∧ Below w.heap.size w w'
def UniBIf (P : Program) (ops : Array Oper) (W0 : World) (o : Oper) (v : Value) (a : Act) : Prop :=
 (Region.wanted o (yielded ops a.tmps) = true ∧ UniB P W0 (execOp a.eval o) v) ∨ (Region.wanted o (yielded ops a.tmps) = false ∧ v = undef)
def AllocOp (P : Program) (ops : Array Oper) (W0 : World) (o : Oper) (z : Array Value) (t : TypeId) (a : Act) : Prop :=
 Region.wanted o (yielded ops a.tmps) = true ∧ ∀ w, Below W0.heap.size W0 w → (execOp a.eval o).run P w = .ok (.value (.pointer (some ⟨w.heap.size, 0, none⟩))) (w.alloc (.cells z t))
def StoreOp (P : Program) (ops : Array Oper) (W0 : World) (L L' : Blks) (o : Oper) (v : Value) (a : Act) : Prop :=
 Region.wanted o (yielded ops a.tmps) = true ∧ ∀ w, Below W0.heap.size W0 w → HasBlks L w → ∃ w', ((execOp a.eval o).run P w = .ok (.value v) w' ∨ ((execOp a.eval o).run P w = .ok .skip w' ∧ v = undef)) ∧ Below W0.heap.size W0 w' ∧ HasBlks L' w'
def Same (P : Program) (ops : Array Oper) (o : Oper) (a a' : Act) : Prop := execOp a'.eval o = execOp a.eval o ∧ Region.wanted o (yielded ops a'.tmps) = Region.wanted o (yielded ops a.tmps)
theorem UniBIf.of_same {o : Oper} {v : Value} {a a' : Act} (hy : UniBIf P ops W0 o v a) (h : Same P ops o a a') : UniBIf P ops W0 o v a' := by
 unfold UniBIf at *; rw [h.1, h.2]; exact hy
theorem AllocOp.of_same {o : Oper} {z : Array Value} {t : TypeId} {a a' : Act} (hy : AllocOp P ops W0 o z t a) (h : Same P ops o a a') : AllocOp P ops W0 o z t a' := by
 unfold AllocOp at *; rw [h.1, h.2]; exact hy
theorem StoreOp.of_same {o : Oper} {L L' : Blks} {v : Value} {a a' : Act} (hy : StoreOp P ops W0 L L' o v a) (h : Same P ops o a a') : StoreOp P ops W0 L L' o v a' := by
 unfold StoreOp at *; rw [h.1, h.2]; exact hy
def wpG (P : Program) (md : Region.Mode) (ops : Array Oper) (Q : Exit → Act → World → Prop) (W0 : World) : Nat → Blks → Array Bool → Act → Prop
 | 0, L, listed, a => Region.ready md ops listed = [] ∧ ∀ w, Below W0.heap.size W0 w → HasBlks L w → Q .normal a w
 | fuel + 1, L, listed, a =>
  (Region.ready md ops listed = [] → ∀ w, Below W0.heap.size W0 w → HasBlks L w → Q .normal a w) ∧
  ∀ i ∈ Region.ready md ops listed, ∃ o, ops[i]? = some o ∧
   ((∃ v, UniBIf P ops W0 o v a ∧ wpG P md ops Q W0 fuel L (listed.setIfInBounds i true) (a.put o.dst v)) ∨
    (∃ z t, AllocOp P ops W0 o z t a ∧ ∀ g, W0.heap.size ≤ g → (∀ x ∈ L, x.1 ≠ g) → wpG P md ops Q W0 fuel ((g, z, t) :: L) (listed.setIfInBounds i true) (a.put o.dst (.pointer (some ⟨g, 0, none⟩)))) ∨
    (∃ L' v, StoreOp P ops W0 L L' o v a ∧ wpG P md ops Q W0 fuel L' (listed.setIfInBounds i true) (a.put o.dst v)))
theorem wpAny_of_G : ∀ (fuel : Nat) (L : Blks) (listed : Array Bool) (a : Act), wpG P md ops Q W0 fuel L listed a → ∀ w, Below W0.heap.size W0 w → HasBlks L w → wpAny P md ops Q fuel listed a w
 | 0, _, _, _, h, w, hS, hL => ⟨h.1, h.2 w hS hL⟩
 | fuel + 1, L, _, a, h, w, hS, hL => ⟨fun h0 => h.1 h0 w hS hL, fun i hi => by
   obtain ⟨o, ho, h1⟩ := h.2 i hi
   unfold Go.wpOp
   simp only [ho]
   rcases h1 with ⟨v, hu, hr⟩ | ⟨z, t, hu, hr⟩ | ⟨L', v, hu, hr⟩
   ·rcases hu with ⟨hw, hv⟩ | ⟨hw, rfl⟩
    ·simp only [hw, if_true, Oper.wp]
     refine .inl ?_
     rcases hv w hS with h1 | ⟨f, args, h1, h2⟩
     ·rw [h1]; exact wpAny_of_G fuel L _ _ hr w hS hL
     ·rw [h1, Oper.upon_enter]
      refine h2.mono ?_
      rintro e w' ⟨rfl, hb⟩
      exact wpAny_of_G fuel L _ _ hr w' (hS.trans (hb.mono hS.size)) (hL.below hb)
    ·simp only [hw, Bool.false_eq_true, if_false]; exact wpAny_of_G fuel L _ _ hr w hS hL
   ·simp only [hu.1, if_true, Oper.wp]
    refine .inl ?_
    rw [hu.2 w hS]
    have hb := (Below.refl w.heap.size w).alloc (Nat.le_refl _) (.cells z t)
    refine wpAny_of_G fuel _ _ _ (hr w.heap.size hS.size (fun x hx => Nat.ne_of_lt (hL.lt hx))) _ (hS.trans (hb.mono hS.size)) ?_
    intro x hx
    rcases List.mem_cons.1 hx with rfl | hx
    ·exact heap_alloc_new w _
    ·exact hL.below hb x hx
   ·simp only [hu.1, if_true, Oper.wp]
    refine .inl ?_
    obtain ⟨w', h1, h2, h3⟩ := hu.2 w hS hL
    rcases h1 with h1 | ⟨h1, rfl⟩
    ·rw [h1]; exact wpAny_of_G fuel L' _ _ hr w' h2 h3
    ·rw [h1]; exact wpAny_of_G fuel L' _ _ hr w' h2 h3⟩
theorem wpG_first {i : Nat} {oi : Oper} {v : Value} (hi : ops[i]? = some oi) (hsel : ∀ (j : Nat) (o : Oper) cs b, ops[j]? = some o → o.op ≠ .select cs b) :
  ∀ (fuel : Nat) (L : Blks) (listed : Array Bool) (a : Act),
   (∀ j oj, ops[j]? = some oj → j ≠ i → listed.getD j true = false → (∀ e ∈ oj.after, Region.binds md e = true → e.on ≠ i) → oi.apart ops oj = true) →
   i ∈ Region.ready md ops listed → UniBIf P ops W0 oi v a →
   wpG P md ops Q W0 fuel L (listed.setIfInBounds i true) (a.put oi.dst v) → wpG P md ops Q W0 (fuel + 1) L listed a := by
 intro fuel
 induction fuel with
 | zero =>
  intro L listed a _ hr hy H
  refine ⟨fun h => (by rw [h] at hr; cases hr), fun j hj => ?_⟩
  by_cases hji : j = i
  ·subst hji; exact ⟨oi, hi, .inl ⟨v, hy, H⟩⟩
  ·have := ready_mono hj hji
   rw [H.1] at this
   cases this
 | succ fuel ih =>
  intro L listed a hfree hr hy H
  refine ⟨fun h => (by rw [h] at hr; cases hr), fun j hj => ?_⟩
  by_cases hji : j = i
  ·subst hji; exact ⟨oi, hi, .inl ⟨v, hy, H⟩⟩
  ·obtain ⟨oj, hoj, hr1⟩ := H.2 j (ready_mono hj hji)
   obtain ⟨hjun, oj', hoj', hall⟩ := mem_ready.1 hj
   obtain rfl : oj = oj' := by rw [hoj] at hoj'; exact Option.some.inj hoj'
   have hnot : ∀ e ∈ oj.after, Region.binds md e = true → e.on ≠ i := fun e he hb heq => by
    have h1 := hall e he hb
    have h0 := (mem_ready.1 hr).1
    rw [heq] at h1
    rcases Nat.lt_or_ge i listed.size with h' | h'
    ·simp [h'] at h0 h1; rw [h0] at h1; cases h1
    ·simp [Array.getElem?_eq_none h'] at h1
   obtain ⟨h1, h2, h3⟩ := Oper.apart_spec (hfree j oj hoj hji hjun hnot)
   have hfree' : ∀ k ok, ops[k]? = some ok → k ≠ i → (listed.setIfInBounds j true).getD k true = false →
     (∀ e ∈ ok.after, Region.binds md e = true → e.on ≠ i) → oi.apart ops ok = true := fun k ok hk hki hun hno => by
    refine hfree k ok hk hki ?_ hno
    by_cases hjk : j = k
    ·subst hjk; exact hjun
    ·rw [getD_set_ne true hjk] at hun; exact hun
   have hsame : Same P ops oj (a.put oi.dst v) a := ⟨(execOp_put oj (fun cs b => hsel j oj cs b hoj) a oi.dst v h1).symm, (wanted_put oj a oi.dst v h1).symm⟩
   have hsi : ∀ u, UniBIf P ops W0 oi v (a.put oj.dst u) := fun u => hy.of_same ⟨execOp_put oi (fun cs b => hsel i oi cs b hi) a oj.dst u h3, wanted_put oi a oj.dst u h3⟩
   have hgo : ∀ (L' : Blks) (u : Value), wpG P md ops Q W0 fuel L' ((listed.setIfInBounds i true).setIfInBounds j true) ((a.put oi.dst v).put oj.dst u) → wpG P md ops Q W0 (fuel + 1) L' (listed.setIfInBounds j true) (a.put oj.dst u) := fun L' u h => by
    refine ih L' (listed.setIfInBounds j true) _ hfree' (ready_mono hr (Ne.symm hji)) (hsi u) ?_
    rw [Array.setIfInBounds_comm _ _ hji, ← Act.put_comm a v u h2]
    exact h
   refine ⟨oj, hoj, ?_⟩
   rcases hr1 with ⟨u, hu, hr⟩ | ⟨z, t, hu, hr⟩ | ⟨L', u, hu, hr⟩
   ·exact .inl ⟨u, hu.of_same hsame, hgo L u hr⟩
   ·exact .inr (.inl ⟨z, t, hu.of_same hsame, fun g hg hn => hgo _ _ (hr g hg hn)⟩)
   ·exact .inr (.inr ⟨L', u, hu.of_same hsame, hgo L' u hr⟩)
theorem wpG_take {i : Nat} {oi : Oper} {v : Value} {fuel : Nat} {L : Blks} {listed : Array Bool} {a : Act} (hi : ops[i]? = some oi)
  (hs : Region.noSelect ops = true) (hf : Region.free md ops listed i = true) (hr : (Region.ready md ops listed).contains i = true)
  (hy : UniBIf P ops W0 oi v a) (h : wpG P md ops Q W0 fuel L (listed.setIfInBounds i true) (a.put oi.dst v)) : wpG P md ops Q W0 (fuel + 1) L listed a :=
 wpG_first hi (Region.noSelect_spec hs) fuel L listed a (Region.free_spec hi hf) (by simpa using hr) hy h
theorem wpG_done {L : Blks} {listed : Array Bool} {a : Act} (hr : Region.ready md ops listed = []) (h : ∀ w, Below W0.heap.size W0 w → HasBlks L w → Q .normal a w) : ∀ fuel, wpG P md ops Q W0 fuel L listed a
 | 0 => ⟨hr, h⟩
 | _ + 1 => ⟨fun _ => h, by rw [hr]; simp⟩
theorem wp_region_G (W0 : World) {id : Nat} {a : Act} (hm : P.follows .mixedOrders = true)
  (h : wpG P .any ops Q W0 ops.size [] (Array.replicate ops.size false) a) : (Code.region id ops true).wp P Q a W0 :=
 wp_region_any hm (wpAny_of_G _ _ _ _ h _ ((Below.refl _ _).drew) (fun x hx => by cases hx))
theorem unib_val {x : Sem Next} {v : Value} (h : ∀ w, Below W0.heap.size W0 w → x.run P w = .ok (.value v) w) : UniB P W0 x v := fun w hS => .inl (h w hS)
theorem unib_call {x : Sem Next} {v : Value} {f : FuncId} {args : Array Value} (h : ∀ w, Below W0.heap.size W0 w → x.run P w = .ok (.enter f args) w) (hc : ∀ w, Calls P f args w fun e w' => e = .returned v ∧ Below w.heap.size w w') : UniB P W0 x v :=
 fun w hS => .inr ⟨f, args, h w hS, hc w⟩
theorem unib_call_if {x : Sem Next} {v : Value} {f : FuncId} {args : Array Value} (h : ∀ w, Below W0.heap.size W0 w → x.run P w = .ok (.enter f args) w) (hc : ∀ w, Below W0.heap.size W0 w → Calls P f args w fun e w' => e = .returned v ∧ Below w.heap.size w w') : UniB P W0 x v :=
 fun w hS => .inr ⟨f, args, h w hS, hc w hS⟩
end
end
end
section
open Go.RowKit WM
variable {P : Program} {ops : Array Oper} {Q : Exit → Act → World → Prop} {md : Region.Mode} {W0 : World}
theorem wpGv {i : Nat} {oi : Oper} {v : Value} {fuel : Nat} {L : Blks} {listed : Array Bool} {a : Act} (hi : ops[i]? = some oi) (hx : ∀ w, Below W0.heap.size W0 w → (execOp a.eval oi).run P w = .ok (.value v) w)
    (h : wpG P md ops Q W0 fuel L (listed.setIfInBounds i true) (a.put oi.dst v)) (hw : Region.wanted oi (yielded ops a.tmps) = true := by rfl) (hs : Region.noSelect ops = true := by kernel_rfl) (hf : Region.free md ops listed i = true := by kernel_rfl) (hr : (Region.ready md ops listed).contains i = true := by kernel_rfl) : wpG P md ops Q W0 (fuel + 1) L listed a :=
  wpG_take hi hs hf hr (Or.inl ⟨hw, unib_val hx⟩) h
theorem wpGo {i : Nat} {oi : Oper} {fuel : Nat} {L : Blks} {listed : Array Bool} {a : Act} (hi : ops[i]? = some oi) (h : wpG P md ops Q W0 fuel L (listed.setIfInBounds i true) (a.put oi.dst undef)) (hw : Region.wanted oi (yielded ops a.tmps) = false := by rfl)
    (hs : Region.noSelect ops = true := by kernel_rfl) (hf : Region.free md ops listed i = true := by kernel_rfl) (hr : (Region.ready md ops listed).contains i = true := by kernel_rfl) : wpG P md ops Q W0 (fuel + 1) L listed a :=
  wpG_take hi hs hf hr (Or.inr ⟨hw, rfl⟩) h
end
end Go.Proofs.YtkjimhlpbgeagaaDoor
