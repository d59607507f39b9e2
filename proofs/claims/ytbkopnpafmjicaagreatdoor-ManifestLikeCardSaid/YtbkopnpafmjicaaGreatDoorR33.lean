import Derived.Test.YtbkopnpafmjicaaGreatDoorR0
import Derived.Test.YtbkopnpafmjicaaGreatDoorR32
/-
  What the functions that a law of this layer reaches answer, part 33. Nothing that was there is written.
-/
namespace Go.Proofs.YtbkopnpafmjicaaGreatDoor
set_option linter.unusedVariables false
set_option linter.unusedSimpArgs false
section
open Go.RowKit WM
set_option maxRecDepth 100000
theorem drop_map9 {α β : Type} (f : α → β) (d : α) {xs : List α} {k : Nat} (hk : k < xs.length) : (xs.map f).drop k = f (xs.getD k d) :: (xs.map f).drop (k + 1) := by
 rw [List.drop_eq_getElem_cons (by rw [List.length_map]; exact hk), List.getElem_map, List.getD_eq_getElem?_getD, List.getElem?_eq_getElem hk]
 rfl
structure Ln2 (w : World) (x y : LnA) (X : World) : Prop where
 a : KLn.blk 43 X w.heap.size x
 b : KLn.blk 43 X (w.heap.size + 1) y
 below : Below w.heap.size w X
theorem Ln2.go {w X Y : World} {x y : LnA} (h : Ln2 w x y X) (hb : Below X.heap.size X Y) : Ln2 w x y Y :=
 ⟨Kind.blk_below h.a hb (Kind.blk_lt h.a), Kind.blk_below h.b hb (Kind.blk_lt h.b), h.below.trans (hb.mono h.below.size)⟩
theorem Ln2.new (w : World) (x y : LnA) : Ln2 w x y ((w.alloc (.cells (KLn.cs x).toArray 43)).alloc (.cells (KLn.cs y).toArray 43)) := by
 refine ⟨Kind.blk_old (Kind.blk_new w x _) _, ?_, ((Below.refl _ _).alloc (Nat.le_refl _) _).alloc (by rw [World.size_alloc]; omega) _⟩
 have := Kind.blk_new (K := KLn) (w.alloc (.cells (KLn.cs x).toArray 43)) y 43
 rw [World.size_alloc] at this
 exact this
theorem ln_eq (x y : Ln) : decide (x = y) = (decide (x.z = y.z) && (decide (x.n = y.n ∧ x.r = y.r) && decide (x.es = y.es))) := by
 obtain ⟨a, b, c, d⟩ := x
 obtain ⟨a', b', c', d'⟩ := y
 rw [Bool.eq_iff_iff]
 simp only [Bool.and_eq_true, decide_eq_true_eq, Ln.mk.injEq]
 constructor
 ·rintro ⟨h1, h2, h3, h4⟩; exact ⟨h1, ⟨h2, h3⟩, h4⟩
 ·rintro ⟨h1, ⟨h2, h3⟩, h4⟩; exact ⟨h1, h2, h3, h4⟩
set_option maxHeartbeats 8000000 in
theorem rlines_any (x y : LnA) (w : World) (hx : x.Ok w) (hy : y.Ok w) (hbd : ∀ e ∈ x.es, e.e.bs.length ≤ 1000000) (hxl : x.es.length ≤ 1000000) : Calls Tryz.prog 24 #[KLn.v x, KLn.v y] w fun e w' => e = .returned (.bool (decide (x.x = y.x))) ∧ Below w.heap.size w w' := by
 have S0 := Ln2.new w x y
 obtain ⟨w1, hw1⟩ : ∃ w1, w1 = (w.alloc (.cells (KLn.cs x).toArray 43)).alloc (.cells (KLn.cs y).toArray 43) := ⟨_, rfl⟩
 rw [← hw1] at S0
 have BW1 := Lib.hid S0.below
 have X1 := LnA.below hx (S0.below.mono (Nat.le_refl _))
 have Y1 := LnA.below hy (S0.below.mono (Nat.le_refl _))
 have HV := Lib.hid (ln_eq x.x y.x)
 have HX := Lib.hid hx.1
 have HY := Lib.hid hy.1
 have HC1 := Lib.hid (fun X (hX : Below w1.heap.size w1 X) => by have h := ln_c18 (Kind.at_blk (S0.go hX).a) hx.1; rw [Nat.zero_add] at h; exact h)
 have HC2 := Lib.hid (fun X (hX : Below w1.heap.size w1 X) => by have h := ln_c18 (Kind.at_blk (S0.go hX).b) hy.1; rw [Nat.zero_add] at h; exact h)
 have R1 := Lib.hid (fun h0 => en_row X1.2.2.2.2 h0)
 have R2 := Lib.hid (fun h0 => en_row Y1.2.2.2.2 h0)
 have HO1 := Lib.hid (fun k (hk : k < x.es.length) => show EnA.Ok w1 (x.es.getD k enA0) from Kind.row_ok X1.2.2.2.2 hk)
 have HO2 := Lib.hid (fun k (hk : k < y.es.length) => show EnA.Ok w1 (y.es.getD k enA0) from Kind.row_ok Y1.2.2.2.2 hk)
 have HBD := Lib.hid (fun k (hk : k < x.es.length) => hbd (x.es.getD k enA0) (by rw [List.getD_eq_getElem?_getD, List.getElem?_eq_getElem hk]; exact List.getElem_mem _))
 have L1 := Lib.hid (load_idM (ln_id (Kind.at_blk S0.a) hx.1) hx.1)
 have L2 := Lib.hid (load_idM (ln_id (Kind.at_blk S0.b) hy.1) hy.1)
 have HQ2 := Lib.hid (show ∀ X, (Op.equalIn 10000 38 (.agg (bvals x.z)) (.agg (bvals y.z))).run Tryz.prog X = .ok (decide (x.z = y.z)) X from fun X => by
  rw [eq_id hx.2.1 hy.2.1 hx.1 hy.1 X]; congr 1; rw [Bool.eq_iff_iff]; simp)
 have a1 := ln_c16 (Kind.at_blk S0.a) hx.1
 have a2 := ln_c17 (Kind.at_blk S0.a) hx.1
 have a3 := HC1.out w1 (Below.refl _ _)
 have b1 := ln_c16 (Kind.at_blk S0.b) hy.1
 have b2 := ln_c17 (Kind.at_blk S0.b) hy.1
 have b3 := HC2.out w1 (Below.refl _ _)
 simp only [Nat.zero_add] at a1 a2 b1 b2
 generalize decide (x.x = y.x) = V at *
 rw [show KLn.v x = .agg (KLn.cs x).toArray from rfl, show KLn.v y = .agg (KLn.cs y).toArray from rfl]
 generalize (KLn.cs x).toArray = E at *
 generalize (KLn.cs y).toArray = G at *
 obtain ⟨z, n, r, A, c, xs⟩ := x
 obtain ⟨z', n', r', A', c', ys⟩ := y
 dsimp only [LnA.x] at *
 generalize bvals z = D at *
 generalize bvals z' = D' at *
 clear S0 hx hy X1 Y1 hbd
 have HV := Lib.hid (show V = (decide (z = z') && (decide (n = n' ∧ r = r') && decide (xs.map (fun e : EnA => e.e) = ys.map (fun e : EnA => e.e)))) from HV.out)
 subst hw1
 go_enter Tryz.func24, Tryz.ntmps24
 by_cases t1 : z = z'
 ·rw [decide_eq_true t1] at HV HQ2
  by_cases t2 : n = n' ∧ r = r'
  ·obtain ⟨rfl, rfl⟩ := t2
   by_cases t3 : xs.length = ys.length
   ·have HV2 := Lib.hid (show V = decide ((xs.map (fun e : EnA => e.e)).drop 0 = (ys.map (fun e : EnA => e.e)).drop 0) by rw [HV.out]; simp)
    clear HV
    generalize hN : xs.length = N at *
    generalize hM : ys.length = M at *
    subst t3
    have HNX := Lib.hid hN
    have HNY := Lib.hid hM
    clear hN hM
    go_wp2_with (first | ((with_reducible refine wpList_load_at (o := ⟨some 8, .load 38 (.tmp 7), _, _, _, _⟩) ?e1 38 (.tmp 7) ?e2 ⟨w.heap.size, 0, none⟩ ?e3 _ L1.out ?_); (case e1 => rfl); (case e2 => rfl); (case e3 => rfl)) | ((with_reducible refine wpList_load_at (o := ⟨some 10, .load 38 (.tmp 9), _, _, _, _⟩) ?e1 38 (.tmp 9) ?e2 ⟨w.heap.size + 1, 0, none⟩ ?e3 _ L2.out ?_); (case e1 => rfl); (case e2 => rfl); (case e3 => rfl)) | ((with_reducible refine wpList_neqM (o := ⟨some 11, .binOp .neq 38 (.tmp 8) (.tmp 10) 38, _, _, _, _⟩) ?e1 38 (.tmp 8) (.tmp 10) 38 ?e2 ?e3 ?e4 guardIdM (HQ2.out _) ?_); (case e1 => rfl); (case e2 => rfl); (case e3 => rfl); (case e4 => rfl)))
    clear a1 a2 a3 b1 b2 b3
    generalize (w.alloc (.cells E 43)).alloc (.cells G 43) = w1 at *
    go_loopw [5] (fun i wr => ∃ k : Nat, k ≤ N ∧ i = .int .i64 k ∧ Below w1.heap.size w1 wr ∧ V = decide ((xs.map (fun e : EnA => e.e)).drop k = (ys.map (fun e : EnA => e.e)).drop k)) (fun i _ => N - (intOf i).toNat)
    case atStart => exact ⟨0, Nat.zero_le _, rfl, Below.refl _ _, HV2.out⟩
    case round =>
     obtain ⟨k, hk, rfl, hb, hf⟩ := hrel
     have HBB := Lib.hid hb
     have B9 := Lib.hid (BW1.out.trans (hb.mono BW1.out.size))
     have cc1 := HC1.out wr hb
     by_cases hlt : k < N
     ·have t1 : (k : Int) < (N : Int) := by omega
      have hx9 : k < xs.length := by rw [HNX.out]; exact hlt
      have hy9 : k < ys.length := by rw [HNY.out]; exact hlt
      obtain ⟨b1, off1, hA1, hb1w, hx1, hi1⟩ := R1.out (by omega)
      obtain ⟨b2, off2, hA2, hb2w, hx2, hi2⟩ := R2.out (by omega)
      have IX1 := Lib.hid (hi1 k hlt k rfl)
      have IX2 := Lib.hid (hi2 k hlt k rfl)
      rw [← hA1] at IX1
      rw [← hA2] at IX2
      have Q1 := Lib.hid (hx1 k hlt)
      have Q2 := Lib.hid (hx2 k hlt)
      have HB1 := Lib.hid hb1w
      have HB2 := Lib.hid hb2w
      have HSAME := Lib.hid (fun w9 (h9 : Below wr.heap.size wr w9) b (hb9 : b < w1.heap.size) => (hb.trans (h9.mono hb.size)).block b hb9)
      have HS1 := Lib.hid (fun w9 (h9 : Below wr.heap.size wr w9) => HC1.out w9 (hb.trans (h9.mono hb.size)))
      have HS2 := Lib.hid (fun w9 (h9 : Below wr.heap.size wr w9) => HC2.out w9 (hb.trans (h9.mono hb.size)))
      have HP1 := Lib.hid (fun w9 (h9 : Below wr.heap.size wr w9) => EnA.below (HO1.out k hlt) ((hb.trans (h9.mono hb.size)).mono (Nat.le_refl _)))
      have HP2 := Lib.hid (fun w9 (h9 : Below wr.heap.size wr w9) => EnA.below (HO2.out k hlt) ((hb.trans (h9.mono hb.size)).mono (Nat.le_refl _)))
      rw [drop_map9 (fun e : EnA => e.e) enA0 hx9, drop_map9 (fun e : EnA => e.e) enA0 hy9] at hf
      have HLX := Lib.hid (HBD.out k hlt)
      generalize xs.getD k enA0 = p at *
      generalize ys.getD k enA0 = q at *
      have HCL := Lib.hid (fun w9 (h9 : Below wr.heap.size wr w9) => rentries_any p q w9 (HP1.out w9 h9) (HP2.out w9 h9) HLX.out)
      rw [show KEn.v p = .agg (KEn.cs p).toArray from rfl, show KEn.v q = .agg (KEn.cs q).toArray from rfl] at HCL
      have HF := Lib.hid (show V = (decide ((fun e : EnA => e.e) p = (fun e : EnA => e.e) q) && decide ((xs.map (fun e : EnA => e.e)).drop (k + 1) = (ys.map (fun e : EnA => e.e)).drop (k + 1))) by rw [hf, Bool.eq_iff_iff]; simp)
      clear hx1 hx2 hi1 hi2 hA1 hA2 hf hb hb1w hb2w hx9 hy9
      cases hd : decide ((fun e : EnA => e.e) p = (fun e : EnA => e.e) q)
      ·rw [hd] at HCL HF
       have HW := Lib.hid (show V = false from HF.out)
       clear HF hd
       go_wp2_with fail
       refine wp_region_G _ (by kernel_rfl) ?_
       refine wpGv (i := 0) (oi := ⟨some 35, _, _, _, _, _⟩) (v := ?_) rfl ?_ ?_; rotate_left; (focus (intro w9 hSw; go_simp; try with_reducible rfl)); simp only [Act.put, Z2, Z3, Z4]
       refine wpGv (i := 1) (oi := ⟨some 36, _, _, _, _, _⟩) (v := ?_) rfl ?_ ?_; rotate_left; (focus (intro w9 hSw; have q0 := HS1.out w9 hSw; go_simp; try with_reducible rfl)); simp only [Act.put, Z2, Z3, Z4]
       refine wpGv (i := 2) (oi := ⟨some 37, _, _, _, _, _⟩) (v := ?_) rfl ?_ ?_; rotate_left; (focus (intro w9 hSw; go_simp; try with_reducible rfl)); simp only [Act.put, Z2, Z3, Z4]
       refine wpGv (i := 3) (oi := ⟨some 38, _, _, _, _, _⟩) (v := ?_) rfl ?_ ?_; rotate_left; (focus (intro w9 hSw; have q0 := IX1.out w9; go_simp; try with_reducible rfl)); simp only [Act.put, Z2, Z3, Z4]
       refine wpGv (i := 4) (oi := ⟨some 39, _, _, _, _, _⟩) (v := (.agg (KEn.cs p).toArray)) rfl ?_ ?_; (focus (intro w9 hSw; exact exec_load_at 48 _ rfl _ rfl (load_en (Kind.at_same Q1.out (HSAME.out w9 hSw _ HB1.out)) (HP1.out w9 hSw)))); simp only [Act.put, Z2, Z3, Z4]
       refine wpGv (i := 5) (oi := ⟨some 40, _, _, _, _, _⟩) (v := ?_) rfl ?_ ?_; rotate_left; (focus (intro w9 hSw; go_simp; try with_reducible rfl)); simp only [Act.put, Z2, Z3, Z4]
       refine wpGv (i := 6) (oi := ⟨some 41, _, _, _, _, _⟩) (v := ?_) rfl ?_ ?_; rotate_left; (focus (intro w9 hSw; have q0 := HS2.out w9 hSw; go_simp; try with_reducible rfl)); simp only [Act.put, Z2, Z3, Z4]
       refine wpGv (i := 7) (oi := ⟨some 42, _, _, _, _, _⟩) (v := ?_) rfl ?_ ?_; rotate_left; (focus (intro w9 hSw; go_simp; try with_reducible rfl)); simp only [Act.put, Z2, Z3, Z4]
       refine wpGv (i := 8) (oi := ⟨some 43, _, _, _, _, _⟩) (v := ?_) rfl ?_ ?_; rotate_left; (focus (intro w9 hSw; have q0 := IX2.out w9; go_simp; try with_reducible rfl)); simp only [Act.put, Z2, Z3, Z4]
       refine wpGv (i := 9) (oi := ⟨some 44, _, _, _, _, _⟩) (v := (.agg (KEn.cs q).toArray)) rfl ?_ ?_; (focus (intro w9 hSw; exact exec_load_at 48 _ rfl _ rfl (load_en (Kind.at_same Q2.out (HSAME.out w9 hSw _ HB2.out)) (HP2.out w9 hSw)))); simp only [Act.put, Z2, Z3, Z4]
       refine wpG_take (i := 10) (oi := ⟨some 45, _, _, _, _, _⟩) rfl (by kernel_rfl) (by kernel_rfl) (by kernel_rfl) (Or.inl ⟨by rfl, unib_call_if ?_ HCL.out⟩) ?_; (focus (intro w9 hSw; go_simp; try with_reducible rfl)); simp only [Act.put, Z2, Z3, Z4]
       refine wpGv (i := 11) (oi := ⟨some 6, _, _, _, _, _⟩) (v := ?_) rfl ?_ ?_; rotate_left; (focus (intro w9 hSw; go_simp; try with_reducible rfl)); simp only [Act.put, Z2, Z3, Z4]
       refine wpG_done (by kernel_rfl) ?_ _
       intro w9 hSw _
       have B10 := Lib.hid (B9.out.trans (hSw.mono B9.out.size))
       clear hSw cc1
       go_wp2
       go_ret
       exact ⟨by rw [HW.out]; try rfl, B10.out⟩
      ·rw [hd] at HCL HF
       have HW := Lib.hid (show V = decide ((xs.map (fun e : EnA => e.e)).drop (k + 1) = (ys.map (fun e : EnA => e.e)).drop (k + 1)) from HF.out)
       clear HF hd
       go_wp2_with fail
       refine wp_region_G _ (by kernel_rfl) ?_
       refine wpGv (i := 0) (oi := ⟨some 35, _, _, _, _, _⟩) (v := ?_) rfl ?_ ?_; rotate_left; (focus (intro w9 hSw; go_simp; try with_reducible rfl)); simp only [Act.put, Z2, Z3, Z4]
       refine wpGv (i := 1) (oi := ⟨some 36, _, _, _, _, _⟩) (v := ?_) rfl ?_ ?_; rotate_left; (focus (intro w9 hSw; have q0 := HS1.out w9 hSw; go_simp; try with_reducible rfl)); simp only [Act.put, Z2, Z3, Z4]
       refine wpGv (i := 2) (oi := ⟨some 37, _, _, _, _, _⟩) (v := ?_) rfl ?_ ?_; rotate_left; (focus (intro w9 hSw; go_simp; try with_reducible rfl)); simp only [Act.put, Z2, Z3, Z4]
       refine wpGv (i := 3) (oi := ⟨some 38, _, _, _, _, _⟩) (v := ?_) rfl ?_ ?_; rotate_left; (focus (intro w9 hSw; have q0 := IX1.out w9; go_simp; try with_reducible rfl)); simp only [Act.put, Z2, Z3, Z4]
       refine wpGv (i := 4) (oi := ⟨some 39, _, _, _, _, _⟩) (v := (.agg (KEn.cs p).toArray)) rfl ?_ ?_; (focus (intro w9 hSw; exact exec_load_at 48 _ rfl _ rfl (load_en (Kind.at_same Q1.out (HSAME.out w9 hSw _ HB1.out)) (HP1.out w9 hSw)))); simp only [Act.put, Z2, Z3, Z4]
       refine wpGv (i := 5) (oi := ⟨some 40, _, _, _, _, _⟩) (v := ?_) rfl ?_ ?_; rotate_left; (focus (intro w9 hSw; go_simp; try with_reducible rfl)); simp only [Act.put, Z2, Z3, Z4]
       refine wpGv (i := 6) (oi := ⟨some 41, _, _, _, _, _⟩) (v := ?_) rfl ?_ ?_; rotate_left; (focus (intro w9 hSw; have q0 := HS2.out w9 hSw; go_simp; try with_reducible rfl)); simp only [Act.put, Z2, Z3, Z4]
       refine wpGv (i := 7) (oi := ⟨some 42, _, _, _, _, _⟩) (v := ?_) rfl ?_ ?_; rotate_left; (focus (intro w9 hSw; go_simp; try with_reducible rfl)); simp only [Act.put, Z2, Z3, Z4]
       refine wpGv (i := 8) (oi := ⟨some 43, _, _, _, _, _⟩) (v := ?_) rfl ?_ ?_; rotate_left; (focus (intro w9 hSw; have q0 := IX2.out w9; go_simp; try with_reducible rfl)); simp only [Act.put, Z2, Z3, Z4]
       refine wpGv (i := 9) (oi := ⟨some 44, _, _, _, _, _⟩) (v := (.agg (KEn.cs q).toArray)) rfl ?_ ?_; (focus (intro w9 hSw; exact exec_load_at 48 _ rfl _ rfl (load_en (Kind.at_same Q2.out (HSAME.out w9 hSw _ HB2.out)) (HP2.out w9 hSw)))); simp only [Act.put, Z2, Z3, Z4]
       refine wpG_take (i := 10) (oi := ⟨some 45, _, _, _, _, _⟩) rfl (by kernel_rfl) (by kernel_rfl) (by kernel_rfl) (Or.inl ⟨by rfl, unib_call_if ?_ HCL.out⟩) ?_; (focus (intro w9 hSw; go_simp; try with_reducible rfl)); simp only [Act.put, Z2, Z3, Z4]
       refine wpGv (i := 11) (oi := ⟨some 6, _, _, _, _, _⟩) (v := ?_) rfl ?_ ?_; rotate_left; (focus (intro w9 hSw; go_simp; try with_reducible rfl)); simp only [Act.put, Z2, Z3, Z4]
       refine wpG_done (by kernel_rfl) ?_ _
       intro w9 hSw _
       have B10 := Lib.hid (HBB.out.trans (hSw.mono HBB.out.size))
       clear hSw cc1
       go_wp2
       go_roundw
       case rel => exact ⟨k + 1, by omega, by go_num, B10.out, HW.out⟩
       case measure => simp [intOf]; omega
     ·obtain rfl : k = N := by omega
      have t1 : ¬ (k : Int) < (k : Int) := by omega
      have HF := Lib.hid (show V = true by rw [hf, List.drop_eq_nil_of_le (by rw [List.length_map, HNX.out]; exact Nat.le_refl _), List.drop_eq_nil_of_le (by rw [List.length_map, HNY.out]; exact Nat.le_refl _)]; rfl)
      clear hf hb
      go_wp2
      go_ret
      exact ⟨by rw [HF.out]; try rfl, B9.out⟩
   ·have t4 : ¬ (xs.length : Int) = (ys.length : Int) := by omega
    have HF := Lib.hid (show V = false by rw [HV.out, decide_eq_false (p := xs.map (fun e : EnA => e.e) = ys.map (fun e : EnA => e.e)) (fun h => t3 (by have := congrArg List.length h; simpa using this))]; simp)
    clear HV
    go_wp2_with (first | ((with_reducible refine wpList_load_at (o := ⟨some 8, .load 38 (.tmp 7), _, _, _, _⟩) ?e1 38 (.tmp 7) ?e2 ⟨w.heap.size, 0, none⟩ ?e3 _ L1.out ?_); (case e1 => rfl); (case e2 => rfl); (case e3 => rfl)) | ((with_reducible refine wpList_load_at (o := ⟨some 10, .load 38 (.tmp 9), _, _, _, _⟩) ?e1 38 (.tmp 9) ?e2 ⟨w.heap.size + 1, 0, none⟩ ?e3 _ L2.out ?_); (case e1 => rfl); (case e2 => rfl); (case e3 => rfl)) | ((with_reducible refine wpList_neqM (o := ⟨some 11, .binOp .neq 38 (.tmp 8) (.tmp 10) 38, _, _, _, _⟩) ?e1 38 (.tmp 8) (.tmp 10) 38 ?e2 ?e3 ?e4 guardIdM (HQ2.out _) ?_); (case e1 => rfl); (case e2 => rfl); (case e3 => rfl); (case e4 => rfl)))
    go_ret
    exact ⟨by rw [HF.out]; try rfl, BW1.out⟩
  ·have HF := Lib.hid (show V = false by rw [HV.out, decide_eq_false t2]; simp)
   have hne := fun X => st_ne t2 X
   clear HV
   go_wp2_with (first | ((with_reducible refine wpList_load_at (o := ⟨some 8, .load 38 (.tmp 7), _, _, _, _⟩) ?e1 38 (.tmp 7) ?e2 ⟨w.heap.size, 0, none⟩ ?e3 _ L1.out ?_); (case e1 => rfl); (case e2 => rfl); (case e3 => rfl)) | ((with_reducible refine wpList_load_at (o := ⟨some 10, .load 38 (.tmp 9), _, _, _, _⟩) ?e1 38 (.tmp 9) ?e2 ⟨w.heap.size + 1, 0, none⟩ ?e3 _ L2.out ?_); (case e1 => rfl); (case e2 => rfl); (case e3 => rfl)) | ((with_reducible refine wpList_neqM (o := ⟨some 11, .binOp .neq 38 (.tmp 8) (.tmp 10) 38, _, _, _, _⟩) ?e1 38 (.tmp 8) (.tmp 10) 38 ?e2 ?e3 ?e4 guardIdM (HQ2.out _) ?_); (case e1 => rfl); (case e2 => rfl); (case e3 => rfl); (case e4 => rfl)))
   go_ret
   exact ⟨by rw [HF.out]; try rfl, BW1.out⟩
 ·rw [decide_eq_false t1] at HV HQ2
  have HF := Lib.hid (show V = false by rw [HV.out]; rfl)
  clear HV
  go_wp2_with (first | ((with_reducible refine wpList_load_at (o := ⟨some 8, .load 38 (.tmp 7), _, _, _, _⟩) ?e1 38 (.tmp 7) ?e2 ⟨w.heap.size, 0, none⟩ ?e3 _ L1.out ?_); (case e1 => rfl); (case e2 => rfl); (case e3 => rfl)) | ((with_reducible refine wpList_load_at (o := ⟨some 10, .load 38 (.tmp 9), _, _, _, _⟩) ?e1 38 (.tmp 9) ?e2 ⟨w.heap.size + 1, 0, none⟩ ?e3 _ L2.out ?_); (case e1 => rfl); (case e2 => rfl); (case e3 => rfl)) | ((with_reducible refine wpList_neqM (o := ⟨some 11, .binOp .neq 38 (.tmp 8) (.tmp 10) 38, _, _, _, _⟩) ?e1 38 (.tmp 8) (.tmp 10) 38 ?e2 ?e3 ?e4 guardIdM (HQ2.out _) ?_); (case e1 => rfl); (case e2 => rfl); (case e3 => rfl); (case e4 => rfl)))
  go_ret
  exact ⟨by rw [HF.out]; try rfl, BW1.out⟩
end
end Go.Proofs.YtbkopnpafmjicaaGreatDoor
