import Derived.Test.YtnlhkpmgbpfjmaaGreatDoorQc0
import Derived.Test.YtnlhkpmgbpfjmaaGreatDoorQc9
import Derived.Test.YtnlhkpmgbpfjmaaGreatDoorQc1
import Derived.Test.YtnlhkpmgbpfjmaaGreatDoorQc15
/-
  What the functions that a law of this layer reaches answer, part 27. Nothing that was there is written.
-/
namespace Go.Proofs.YtnlhkpmgbpfjmaaGreatDoor
set_option linter.unusedVariables false
set_option linter.unusedSimpArgs false
section
open Go.RowKit WM
set_option maxRecDepth 100000
def blks (n : Int) : Int := if n < 24 then 0 else n / 8
def pmE (e : En) : Bool := may e.n e.r && (decide (0 ≤ e.len) && (decide (e.len ≤ 200) && decide ((e.bs.length : Int) = blks e.len)))
theorem enOk_p (n r last : Int) (e : En) : enOk n r last e = (decide (last < e.no) && (decide (e.no < 8) && (pmE e && stLess n r e.n e.r))) := by
 rw [enOk_eq]
 unfold pmE blks
 rw [Bool.eq_iff_iff]
 by_cases h : e.len < 24
 ·rw [if_pos h, if_pos h]
  simp only [Bool.and_eq_true, decide_eq_true_eq]
  constructor
  ·rintro ⟨a, b, c, d, e, f, g⟩; exact ⟨c, d, ⟨a, e, f, g⟩, b⟩
  ·rintro ⟨c, d, ⟨a, e, f, g⟩, b⟩; exact ⟨a, b, c, d, e, f, g⟩
 ·rw [if_neg h, if_neg h]
  simp only [Bool.and_eq_true, decide_eq_true_eq]
  constructor
  ·rintro ⟨a, b, c, d, e, f, g⟩; exact ⟨c, d, ⟨a, e, f, g⟩, b⟩
  ·rintro ⟨c, d, ⟨a, e, f, g⟩, b⟩; exact ⟨a, b, c, d, e, f, g⟩
theorem blksOf_any (n : Int) (w : World) (h0 : 0 ≤ n) (h1 : n ≤ 200) : Calls Tryz.prog 119 #[.int .i64 n] w fun e w' => e = .returned (.int .i64 (blks n)) ∧ Below w.heap.size w w' := by
 unfold blks
 by_cases h : n < 24
 ·rw [if_pos h]
  go_enter Tryz.func119, Tryz.ntmps119
  go_wp2
  go_ret
  exact ⟨rfl, Below.refl _ _⟩
 ·rw [if_neg h]
  have hq : Int.tdiv n 8 = n / 8 := Int.tdiv_eq_ediv_of_nonneg (by omega)
  have hw9 : IntKind.i64.wrap (n / 8) = n / 8 := IntWalk.i64_in _ (by omega)
  go_enter Tryz.func119, Tryz.ntmps119
  go_wp2
  go_ret
  exact ⟨rfl, Below.refl _ _⟩
set_option maxHeartbeats 8000000 in
theorem pmayE_any (x : EnA) (w : World) (hx : x.Ok w) : Calls Tryz.prog 97 #[KEn.v x] w fun e w' => e = .returned (.bool (pmE x.e)) ∧ Below w.heap.size w w' := by
 have S0 := Kind.blk_new (K := KEn) w x 68
 have HC1 := Lib.hid (fun X => may_any x.e.n x.e.r X)
 have HCB0 := Lib.hid (fun X (h : 0 ≤ x.e.len ∧ x.e.len ≤ 200) => blksOf_any x.e.len X h.1 h.2)
 have HDL := Lib.hid hx.2.2.2.2.1
 have hv : KEn.v x = .agg (KEn.cs x).toArray := rfl
 have HV := Lib.hid (show pmE x.e = (may x.e.n x.e.r && (decide (0 ≤ x.e.len) && (decide (x.e.len ≤ 200) && decide ((x.e.bs.length : Int) = blks x.e.len)))) from rfl)
 rw [hv]
 generalize pmE x.e = V at *
 unfold st at HC1
 obtain ⟨w1, hw1⟩ : ∃ w1, w1 = w.alloc (.cells (KEn.cs x).toArray 68) := ⟨_, rfl⟩
 rw [← hw1] at S0
 have B1 := Lib.hid (show Below w.heap.size w w1 by rw [hw1]; exact (Below.refl _ _).alloc (Nat.le_refl _) _)
 have K1 := Lib.hid (fun w9 (h9 : Below w1.heap.size w1 w9) => by have h := en_c1 (Kind.at_blk (Kind.blk_below S0 h9 (Kind.blk_lt S0))); rw [Nat.zero_add] at h; exact h)
 have K2 := Lib.hid (fun w9 (h9 : Below w1.heap.size w1 w9) => by have h := en_c2 (Kind.at_blk (Kind.blk_below S0 h9 (Kind.blk_lt S0))); rw [Nat.zero_add] at h; exact h)
 have K3 := Lib.hid (fun w9 (h9 : Below w1.heap.size w1 w9) => by have h := en_c3 (Kind.at_blk (Kind.blk_below S0 h9 (Kind.blk_lt S0))); rw [Nat.zero_add] at h; exact h)
 have K36 := Lib.hid (fun w9 (h9 : Below w1.heap.size w1 w9) => by have h := en_c36 (Kind.at_blk (Kind.blk_below S0 h9 (Kind.blk_lt S0))) HDL.out; rw [Nat.zero_add] at h; exact h)
 generalize (KEn.cs x).toArray = E at *
 obtain ⟨⟨no, en, er, ln, ds, bs⟩, A, c⟩ := x
 dsimp only at K1 K2 K3 K36 HC1 HCB0 HDL HV
 generalize may en er = b1 at *
 have hbl : bs.length ≤ 9223372036854775807 := by
  have a1 := hx.2.2.2.2.2.2.1
  have a2 := hx.2.2.2.2.2.2.2.1
  simp only [maxLen] at a2
  dsimp only at a1 a2
  omega
 generalize bs.length = M at *
 clear S0 hv hx
 subst hw1
 go_enter Tryz.func97, Tryz.ntmps97
 cases b1
 ·have HF := Lib.hid (show V = false by rw [HV.out]; rfl)
  go_wp2_with fail
  refine wp_region_G _ (by kernel_rfl) ?_
  refine wpGv (i := 0) (oi := ⟨some 3, _, _, _, _, _⟩) (v := ?_) rfl ?_ ?_; rotate_left; (focus (intro w9 hSw; go_simp; try with_reducible rfl)); simp only [Act.put, Z2, Z3, Z4]
  refine wpGv (i := 1) (oi := ⟨some 4, _, _, _, _, _⟩) (v := ?_) rfl ?_ ?_; rotate_left; (focus (intro w9 hSw; have q1 := K1.out w9 hSw; have q2 := K2.out w9 hSw; go_simp; try with_reducible rfl)); simp only [Act.put, Z2, Z3, Z4]
  refine wpG_take (i := 2) (oi := ⟨some 5, _, _, _, _, _⟩) rfl (by kernel_rfl) (by kernel_rfl) (by kernel_rfl) (Or.inl ⟨by rfl, unib_call ?_ HC1.out⟩) ?_; (focus (intro w9 hSw; go_simp; try with_reducible rfl)); simp only [Act.put, Z2, Z3, Z4]
  refine wpGv (i := 3) (oi := ⟨some 6, _, _, _, _, _⟩) (v := ?_) rfl ?_ ?_; rotate_left; (focus (intro w9 hSw; go_simp; try with_reducible rfl)); simp only [Act.put, Z2, Z3, Z4]
  refine wpGo (i := 4) (oi := ⟨some 7, _, _, _, _, _⟩) rfl ?_; simp only [Act.put, Z2, Z3, Z4]
  refine wpGo (i := 5) (oi := ⟨some 8, _, _, _, _, _⟩) rfl ?_; simp only [Act.put, Z2, Z3, Z4]
  refine wpGo (i := 6) (oi := ⟨some 9, _, _, _, _, _⟩) rfl ?_; simp only [Act.put, Z2, Z3, Z4]
  refine wpGv (i := 7) (oi := ⟨some 10, _, _, _, _, _⟩) (v := ?_) rfl ?_ ?_; rotate_left; (focus (intro w9 hSw; go_simp; try with_reducible rfl)); simp only [Act.put, Z2, Z3, Z4]
  refine wpGv (i := 8) (oi := ⟨some 11, _, _, _, _, _⟩) (v := ?_) rfl ?_ ?_; rotate_left; (focus (intro w9 hSw; go_simp; try with_reducible rfl)); simp only [Act.put, Z2, Z3, Z4]
  refine wpGo (i := 9) (oi := ⟨some 12, _, _, _, _, _⟩) rfl ?_; simp only [Act.put, Z2, Z3, Z4]
  refine wpGo (i := 10) (oi := ⟨some 13, _, _, _, _, _⟩) rfl ?_; simp only [Act.put, Z2, Z3, Z4]
  refine wpGo (i := 11) (oi := ⟨some 14, _, _, _, _, _⟩) rfl ?_; simp only [Act.put, Z2, Z3, Z4]
  refine wpGv (i := 12) (oi := ⟨some 15, _, _, _, _, _⟩) (v := ?_) rfl ?_ ?_; rotate_left; (focus (intro w9 hSw; go_simp; try with_reducible rfl)); simp only [Act.put, Z2, Z3, Z4]
  refine wpGv (i := 13) (oi := ⟨some 16, _, _, _, _, _⟩) (v := ?_) rfl ?_ ?_; rotate_left; (focus (intro w9 hSw; go_simp; try with_reducible rfl)); simp only [Act.put, Z2, Z3, Z4]
  refine wpGo (i := 14) (oi := ⟨some 17, _, _, _, _, _⟩) rfl ?_; simp only [Act.put, Z2, Z3, Z4]
  refine wpGo (i := 15) (oi := ⟨some 18, _, _, _, _, _⟩) rfl ?_; simp only [Act.put, Z2, Z3, Z4]
  refine wpGo (i := 16) (oi := ⟨some 19, _, _, _, _, _⟩) rfl ?_; simp only [Act.put, Z2, Z3, Z4]
  refine wpGo (i := 17) (oi := ⟨some 20, _, _, _, _, _⟩) rfl ?_; simp only [Act.put, Z2, Z3, Z4]
  refine wpGo (i := 18) (oi := ⟨some 21, _, _, _, _, _⟩) rfl ?_; simp only [Act.put, Z2, Z3, Z4]
  refine wpGo (i := 19) (oi := ⟨some 22, _, _, _, _, _⟩) rfl ?_; simp only [Act.put, Z2, Z3, Z4]
  refine wpGo (i := 20) (oi := ⟨some 23, _, _, _, _, _⟩) rfl ?_; simp only [Act.put, Z2, Z3, Z4]
  refine wpGv (i := 21) (oi := ⟨some 24, _, _, _, _, _⟩) (v := ?_) rfl ?_ ?_; rotate_left; (focus (intro w9 hSw; go_simp; try with_reducible rfl)); simp only [Act.put, Z2, Z3, Z4]
  refine wpGv (i := 22) (oi := ⟨some 2, _, _, _, _, _⟩) (v := ?_) rfl ?_ ?_; rotate_left; (focus (intro w9 hSw; go_simp; try with_reducible rfl)); simp only [Act.put, Z2, Z3, Z4]
  refine wpG_done (by kernel_rfl) ?_ _
  intro w9 hSw _
  have BW := Lib.hid (B1.out.trans (hSw.mono B1.out.size))
  clear hSw
  go_wp2
  go_ret
  exact ⟨by rw [HF.out]; try rfl, BW.out⟩
 by_cases t1 : 0 ≤ ln
 ·by_cases t2 : ln ≤ 200
  ·have HCB := Lib.hid (fun X => HCB0.out X ⟨t1, t2⟩)
   have HF := Lib.hid (show V = decide ((M : Int) = blks ln) by rw [HV.out, decide_eq_true t1, decide_eq_true t2]; rfl)
   generalize blks ln = q at *
   have hmq : ((M : Int) == q) = decide ((M : Int) = q) := by rw [Bool.eq_iff_iff]; simp
   have HMQ := Lib.hid hmq
   clear hmq
   go_wp2_with fail
   refine wp_region_G _ (by kernel_rfl) ?_
   refine wpGv (i := 0) (oi := ⟨some 3, _, _, _, _, _⟩) (v := ?_) rfl ?_ ?_; rotate_left; (focus (intro w9 hSw; go_simp; try with_reducible rfl)); simp only [Act.put, Z2, Z3, Z4]
   refine wpGv (i := 1) (oi := ⟨some 4, _, _, _, _, _⟩) (v := ?_) rfl ?_ ?_; rotate_left; (focus (intro w9 hSw; have q1 := K1.out w9 hSw; have q2 := K2.out w9 hSw; go_simp; try with_reducible rfl)); simp only [Act.put, Z2, Z3, Z4]
   refine wpG_take (i := 2) (oi := ⟨some 5, _, _, _, _, _⟩) rfl (by kernel_rfl) (by kernel_rfl) (by kernel_rfl) (Or.inl ⟨by rfl, unib_call ?_ HC1.out⟩) ?_; (focus (intro w9 hSw; go_simp; try with_reducible rfl)); simp only [Act.put, Z2, Z3, Z4]
   refine wpGv (i := 3) (oi := ⟨some 6, _, _, _, _, _⟩) (v := ?_) rfl ?_ ?_; rotate_left; (focus (intro w9 hSw; go_simp; try with_reducible rfl)); simp only [Act.put, Z2, Z3, Z4]
   refine wpGv (i := 4) (oi := ⟨some 7, _, _, _, _, _⟩) (v := ?_) rfl ?_ ?_; rotate_left; (focus (intro w9 hSw; go_simp; try with_reducible rfl)); simp only [Act.put, Z2, Z3, Z4]
   refine wpGv (i := 5) (oi := ⟨some 8, _, _, _, _, _⟩) (v := ?_) rfl ?_ ?_; rotate_left; (focus (intro w9 hSw; have q0 := K3.out w9 hSw; go_simp; try with_reducible rfl)); simp only [Act.put, Z2, Z3, Z4]
   refine wpGv (i := 6) (oi := ⟨some 9, _, _, _, _, _⟩) (v := ?_) rfl ?_ ?_; rotate_left; (focus (intro w9 hSw; go_simp; try with_reducible rfl)); simp only [Act.put, Z2, Z3, Z4]
   refine wpGv (i := 7) (oi := ⟨some 10, _, _, _, _, _⟩) (v := ?_) rfl ?_ ?_; rotate_left; (focus (intro w9 hSw; go_simp; try with_reducible rfl)); simp only [Act.put, Z2, Z3, Z4]
   refine wpGv (i := 8) (oi := ⟨some 11, _, _, _, _, _⟩) (v := ?_) rfl ?_ ?_; rotate_left; (focus (intro w9 hSw; go_simp; try with_reducible rfl)); simp only [Act.put, Z2, Z3, Z4]
   refine wpGv (i := 9) (oi := ⟨some 12, _, _, _, _, _⟩) (v := ?_) rfl ?_ ?_; rotate_left; (focus (intro w9 hSw; go_simp; try with_reducible rfl)); simp only [Act.put, Z2, Z3, Z4]
   refine wpGv (i := 10) (oi := ⟨some 13, _, _, _, _, _⟩) (v := ?_) rfl ?_ ?_; rotate_left; (focus (intro w9 hSw; have q0 := K3.out w9 hSw; go_simp; try with_reducible rfl)); simp only [Act.put, Z2, Z3, Z4]
   refine wpGv (i := 11) (oi := ⟨some 14, _, _, _, _, _⟩) (v := ?_) rfl ?_ ?_; rotate_left; (focus (intro w9 hSw; go_simp; try with_reducible rfl)); simp only [Act.put, Z2, Z3, Z4]
   refine wpGv (i := 12) (oi := ⟨some 15, _, _, _, _, _⟩) (v := ?_) rfl ?_ ?_; rotate_left; (focus (intro w9 hSw; go_simp; try with_reducible rfl)); simp only [Act.put, Z2, Z3, Z4]
   refine wpGv (i := 13) (oi := ⟨some 16, _, _, _, _, _⟩) (v := ?_) rfl ?_ ?_; rotate_left; (focus (intro w9 hSw; go_simp; try with_reducible rfl)); simp only [Act.put, Z2, Z3, Z4]
   refine wpGv (i := 14) (oi := ⟨some 17, _, _, _, _, _⟩) (v := ?_) rfl ?_ ?_; rotate_left; (focus (intro w9 hSw; go_simp; try with_reducible rfl)); simp only [Act.put, Z2, Z3, Z4]
   refine wpGv (i := 15) (oi := ⟨some 18, _, _, _, _, _⟩) (v := ?_) rfl ?_ ?_; rotate_left; (focus (intro w9 hSw; have q0 := K36.out w9 hSw; go_simp; try with_reducible rfl)); simp only [Act.put, Z2, Z3, Z4]
   refine wpGv (i := 16) (oi := ⟨some 19, _, _, _, _, _⟩) (v := ?_) rfl ?_ ?_; rotate_left; (focus (intro w9 hSw; go_simp; try with_reducible rfl)); simp only [Act.put, Z2, Z3, Z4]
   refine wpGv (i := 17) (oi := ⟨some 20, _, _, _, _, _⟩) (v := ?_) rfl ?_ ?_; rotate_left; (focus (intro w9 hSw; go_simp; try with_reducible rfl)); simp only [Act.put, Z2, Z3, Z4]
   refine wpGv (i := 18) (oi := ⟨some 21, _, _, _, _, _⟩) (v := ?_) rfl ?_ ?_; rotate_left; (focus (intro w9 hSw; have q0 := K3.out w9 hSw; go_simp; try with_reducible rfl)); simp only [Act.put, Z2, Z3, Z4]
   refine wpG_take (i := 19) (oi := ⟨some 22, _, _, _, _, _⟩) rfl (by kernel_rfl) (by kernel_rfl) (by kernel_rfl) (Or.inl ⟨by rfl, unib_call ?_ HCB.out⟩) ?_; (focus (intro w9 hSw; go_simp; try with_reducible rfl)); simp only [Act.put, Z2, Z3, Z4]
   refine wpGv (i := 20) (oi := ⟨some 23, _, _, _, _, _⟩) (v := ?_) rfl ?_ ?_; rotate_left; (focus (intro w9 hSw; go_simp; try with_reducible rfl)); simp only [Act.put, Z2, Z3, Z4]
   refine wpGv (i := 21) (oi := ⟨some 24, _, _, _, _, _⟩) (v := ?_) rfl ?_ ?_; rotate_left; (focus (intro w9 hSw; go_simp; try with_reducible rfl)); simp only [Act.put, Z2, Z3, Z4]
   refine wpGv (i := 22) (oi := ⟨some 2, _, _, _, _, _⟩) (v := ?_) rfl ?_ ?_; rotate_left; (focus (intro w9 hSw; go_simp; try with_reducible rfl)); simp only [Act.put, Z2, Z3, Z4]
   refine wpG_done (by kernel_rfl) ?_ _
   intro w9 hSw _
   have BW := Lib.hid (B1.out.trans (hSw.mono B1.out.size))
   clear hSw
   go_wp2
   go_ret
   exact ⟨by rw [HF.out, ← HMQ.out]; rfl, BW.out⟩
  ·have HF := Lib.hid (show V = false by rw [HV.out, decide_eq_false t2]; simp)
   have d2 : decide (ln ≤ 200) = false := decide_eq_false t2
   clear t2
   go_wp2_with fail
   refine wp_region_G _ (by kernel_rfl) ?_
   refine wpGv (i := 0) (oi := ⟨some 3, _, _, _, _, _⟩) (v := ?_) rfl ?_ ?_; rotate_left; (focus (intro w9 hSw; go_simp; try with_reducible rfl)); simp only [Act.put, Z2, Z3, Z4]
   refine wpGv (i := 1) (oi := ⟨some 4, _, _, _, _, _⟩) (v := ?_) rfl ?_ ?_; rotate_left; (focus (intro w9 hSw; have q1 := K1.out w9 hSw; have q2 := K2.out w9 hSw; go_simp; try with_reducible rfl)); simp only [Act.put, Z2, Z3, Z4]
   refine wpG_take (i := 2) (oi := ⟨some 5, _, _, _, _, _⟩) rfl (by kernel_rfl) (by kernel_rfl) (by kernel_rfl) (Or.inl ⟨by rfl, unib_call ?_ HC1.out⟩) ?_; (focus (intro w9 hSw; go_simp; try with_reducible rfl)); simp only [Act.put, Z2, Z3, Z4]
   refine wpGv (i := 3) (oi := ⟨some 6, _, _, _, _, _⟩) (v := ?_) rfl ?_ ?_; rotate_left; (focus (intro w9 hSw; go_simp; try with_reducible rfl)); simp only [Act.put, Z2, Z3, Z4]
   refine wpGv (i := 4) (oi := ⟨some 7, _, _, _, _, _⟩) (v := ?_) rfl ?_ ?_; rotate_left; (focus (intro w9 hSw; go_simp; try with_reducible rfl)); simp only [Act.put, Z2, Z3, Z4]
   refine wpGv (i := 5) (oi := ⟨some 8, _, _, _, _, _⟩) (v := ?_) rfl ?_ ?_; rotate_left; (focus (intro w9 hSw; have q0 := K3.out w9 hSw; go_simp; try with_reducible rfl)); simp only [Act.put, Z2, Z3, Z4]
   refine wpGv (i := 6) (oi := ⟨some 9, _, _, _, _, _⟩) (v := ?_) rfl ?_ ?_; rotate_left; (focus (intro w9 hSw; go_simp; try with_reducible rfl)); simp only [Act.put, Z2, Z3, Z4]
   refine wpGv (i := 7) (oi := ⟨some 10, _, _, _, _, _⟩) (v := ?_) rfl ?_ ?_; rotate_left; (focus (intro w9 hSw; go_simp; try with_reducible rfl)); simp only [Act.put, Z2, Z3, Z4]
   refine wpGv (i := 8) (oi := ⟨some 11, _, _, _, _, _⟩) (v := ?_) rfl ?_ ?_; rotate_left; (focus (intro w9 hSw; go_simp; try with_reducible rfl)); simp only [Act.put, Z2, Z3, Z4]
   refine wpGv (i := 9) (oi := ⟨some 12, _, _, _, _, _⟩) (v := ?_) rfl ?_ ?_; rotate_left; (focus (intro w9 hSw; go_simp; try with_reducible rfl)); simp only [Act.put, Z2, Z3, Z4]
   refine wpGv (i := 10) (oi := ⟨some 13, _, _, _, _, _⟩) (v := ?_) rfl ?_ ?_; rotate_left; (focus (intro w9 hSw; have q0 := K3.out w9 hSw; go_simp; try with_reducible rfl)); simp only [Act.put, Z2, Z3, Z4]
   refine wpGv (i := 11) (oi := ⟨some 14, _, _, _, _, _⟩) (v := ?_) rfl ?_ ?_; rotate_left; (focus (intro w9 hSw; go_simp; try with_reducible rfl)); simp only [Act.put, Z2, Z3, Z4]
   refine wpGv (i := 12) (oi := ⟨some 15, _, _, _, _, _⟩) (v := ?_) rfl ?_ ?_; rotate_left; (focus (intro w9 hSw; go_simp; try with_reducible rfl)); simp only [Act.put, Z2, Z3, Z4]
   refine wpGv (i := 13) (oi := ⟨some 16, _, _, _, _, _⟩) (v := ?_) rfl ?_ ?_; rotate_left; (focus (intro w9 hSw; go_simp; try with_reducible rfl)); simp only [Act.put, Z2, Z3, Z4]
   refine wpGo (i := 14) (oi := ⟨some 17, _, _, _, _, _⟩) rfl ?_; simp only [Act.put, Z2, Z3, Z4]
   refine wpGo (i := 15) (oi := ⟨some 18, _, _, _, _, _⟩) rfl ?_; simp only [Act.put, Z2, Z3, Z4]
   refine wpGo (i := 16) (oi := ⟨some 19, _, _, _, _, _⟩) rfl ?_; simp only [Act.put, Z2, Z3, Z4]
   refine wpGo (i := 17) (oi := ⟨some 20, _, _, _, _, _⟩) rfl ?_; simp only [Act.put, Z2, Z3, Z4]
   refine wpGo (i := 18) (oi := ⟨some 21, _, _, _, _, _⟩) rfl ?_; simp only [Act.put, Z2, Z3, Z4]
   refine wpGo (i := 19) (oi := ⟨some 22, _, _, _, _, _⟩) rfl ?_; simp only [Act.put, Z2, Z3, Z4]
   refine wpGo (i := 20) (oi := ⟨some 23, _, _, _, _, _⟩) rfl ?_; simp only [Act.put, Z2, Z3, Z4]
   refine wpGv (i := 21) (oi := ⟨some 24, _, _, _, _, _⟩) (v := ?_) rfl ?_ ?_; rotate_left; (focus (intro w9 hSw; go_simp; try with_reducible rfl)); simp only [Act.put, Z2, Z3, Z4]
   refine wpGv (i := 22) (oi := ⟨some 2, _, _, _, _, _⟩) (v := ?_) rfl ?_ ?_; rotate_left; (focus (intro w9 hSw; go_simp; try with_reducible rfl)); simp only [Act.put, Z2, Z3, Z4]
   refine wpG_done (by kernel_rfl) ?_ _
   intro w9 hSw _
   have BW := Lib.hid (B1.out.trans (hSw.mono B1.out.size))
   clear hSw
   go_wp2
   go_ret
   exact ⟨by rw [HF.out]; try rfl, BW.out⟩
 ·have HF := Lib.hid (show V = false by rw [HV.out, decide_eq_false t1]; simp)
  have d1 : decide (0 ≤ ln) = false := decide_eq_false t1
  clear t1
  go_wp2_with fail
  refine wp_region_G _ (by kernel_rfl) ?_
  refine wpGv (i := 0) (oi := ⟨some 3, _, _, _, _, _⟩) (v := ?_) rfl ?_ ?_; rotate_left; (focus (intro w9 hSw; go_simp; try with_reducible rfl)); simp only [Act.put, Z2, Z3, Z4]
  refine wpGv (i := 1) (oi := ⟨some 4, _, _, _, _, _⟩) (v := ?_) rfl ?_ ?_; rotate_left; (focus (intro w9 hSw; have q1 := K1.out w9 hSw; have q2 := K2.out w9 hSw; go_simp; try with_reducible rfl)); simp only [Act.put, Z2, Z3, Z4]
  refine wpG_take (i := 2) (oi := ⟨some 5, _, _, _, _, _⟩) rfl (by kernel_rfl) (by kernel_rfl) (by kernel_rfl) (Or.inl ⟨by rfl, unib_call ?_ HC1.out⟩) ?_; (focus (intro w9 hSw; go_simp; try with_reducible rfl)); simp only [Act.put, Z2, Z3, Z4]
  refine wpGv (i := 3) (oi := ⟨some 6, _, _, _, _, _⟩) (v := ?_) rfl ?_ ?_; rotate_left; (focus (intro w9 hSw; go_simp; try with_reducible rfl)); simp only [Act.put, Z2, Z3, Z4]
  refine wpGv (i := 4) (oi := ⟨some 7, _, _, _, _, _⟩) (v := ?_) rfl ?_ ?_; rotate_left; (focus (intro w9 hSw; go_simp; try with_reducible rfl)); simp only [Act.put, Z2, Z3, Z4]
  refine wpGv (i := 5) (oi := ⟨some 8, _, _, _, _, _⟩) (v := ?_) rfl ?_ ?_; rotate_left; (focus (intro w9 hSw; have q0 := K3.out w9 hSw; go_simp; try with_reducible rfl)); simp only [Act.put, Z2, Z3, Z4]
  refine wpGv (i := 6) (oi := ⟨some 9, _, _, _, _, _⟩) (v := ?_) rfl ?_ ?_; rotate_left; (focus (intro w9 hSw; go_simp; try with_reducible rfl)); simp only [Act.put, Z2, Z3, Z4]
  refine wpGv (i := 7) (oi := ⟨some 10, _, _, _, _, _⟩) (v := ?_) rfl ?_ ?_; rotate_left; (focus (intro w9 hSw; go_simp; try with_reducible rfl)); simp only [Act.put, Z2, Z3, Z4]
  refine wpGv (i := 8) (oi := ⟨some 11, _, _, _, _, _⟩) (v := ?_) rfl ?_ ?_; rotate_left; (focus (intro w9 hSw; go_simp; try with_reducible rfl)); simp only [Act.put, Z2, Z3, Z4]
  refine wpGo (i := 9) (oi := ⟨some 12, _, _, _, _, _⟩) rfl ?_; simp only [Act.put, Z2, Z3, Z4]
  refine wpGo (i := 10) (oi := ⟨some 13, _, _, _, _, _⟩) rfl ?_; simp only [Act.put, Z2, Z3, Z4]
  refine wpGo (i := 11) (oi := ⟨some 14, _, _, _, _, _⟩) rfl ?_; simp only [Act.put, Z2, Z3, Z4]
  refine wpGv (i := 12) (oi := ⟨some 15, _, _, _, _, _⟩) (v := ?_) rfl ?_ ?_; rotate_left; (focus (intro w9 hSw; go_simp; try with_reducible rfl)); simp only [Act.put, Z2, Z3, Z4]
  refine wpGv (i := 13) (oi := ⟨some 16, _, _, _, _, _⟩) (v := ?_) rfl ?_ ?_; rotate_left; (focus (intro w9 hSw; go_simp; try with_reducible rfl)); simp only [Act.put, Z2, Z3, Z4]
  refine wpGo (i := 14) (oi := ⟨some 17, _, _, _, _, _⟩) rfl ?_; simp only [Act.put, Z2, Z3, Z4]
  refine wpGo (i := 15) (oi := ⟨some 18, _, _, _, _, _⟩) rfl ?_; simp only [Act.put, Z2, Z3, Z4]
  refine wpGo (i := 16) (oi := ⟨some 19, _, _, _, _, _⟩) rfl ?_; simp only [Act.put, Z2, Z3, Z4]
  refine wpGo (i := 17) (oi := ⟨some 20, _, _, _, _, _⟩) rfl ?_; simp only [Act.put, Z2, Z3, Z4]
  refine wpGo (i := 18) (oi := ⟨some 21, _, _, _, _, _⟩) rfl ?_; simp only [Act.put, Z2, Z3, Z4]
  refine wpGo (i := 19) (oi := ⟨some 22, _, _, _, _, _⟩) rfl ?_; simp only [Act.put, Z2, Z3, Z4]
  refine wpGo (i := 20) (oi := ⟨some 23, _, _, _, _, _⟩) rfl ?_; simp only [Act.put, Z2, Z3, Z4]
  refine wpGv (i := 21) (oi := ⟨some 24, _, _, _, _, _⟩) (v := ?_) rfl ?_ ?_; rotate_left; (focus (intro w9 hSw; go_simp; try with_reducible rfl)); simp only [Act.put, Z2, Z3, Z4]
  refine wpGv (i := 22) (oi := ⟨some 2, _, _, _, _, _⟩) (v := ?_) rfl ?_ ?_; rotate_left; (focus (intro w9 hSw; go_simp; try with_reducible rfl)); simp only [Act.put, Z2, Z3, Z4]
  refine wpG_done (by kernel_rfl) ?_ _
  intro w9 hSw _
  have BW := Lib.hid (B1.out.trans (hSw.mono B1.out.size))
  clear hSw
  go_wp2
  go_ret
  exact ⟨by rw [HF.out]; try rfl, BW.out⟩
end
section
open Go.RowKit WM
set_option maxRecDepth 100000
theorem wf_lo {n : Int} (h : (Lit.int .i64 n).wf = true) : -9223372036854775808 ≤ n := by
 simp [Lit.wf, IntKind.min, IntKind.max, IntKind.bits, IntKind.signed] at h
 omega
set_option maxHeartbeats 16000000 in
theorem pmayL_any (x : LnA) (w : World) (hx : x.Ok w) : Calls Tryz.prog 74 #[KLn.v x] w fun e w' => e = .returned (.bool (lnOk x.x)) ∧ Below w.heap.size w w' := by
 have S0 := Kind.blk_new (K := KLn) w x 63
 have HMAY := Lib.hid (fun X => may_any x.n x.r X)
 unfold st at HMAY
 have HV := Lib.hid (show lnOk x.x = (may x.n x.r && (!(decide (x.es.map (·.e) = [] ∧ x.n = 0 ∧ x.r = 0)) && esOk x.n x.r (lastA x.es 0) ((x.es.drop 0).map (·.e)))) by unfold lnOk; rw [Bool.and_assoc]; rfl)
 have hv : KLn.v x = .agg (KLn.cs x).toArray := rfl
 rw [hv]
 generalize lnOk x.x = V at *
 obtain ⟨w1, hw1⟩ : ∃ w1, w1 = w.alloc (.cells (KLn.cs x).toArray 63) := ⟨_, rfl⟩
 rw [← hw1] at S0
 have B1 := Lib.hid (show Below w.heap.size w w1 by rw [hw1]; exact (Below.refl _ _).alloc (Nat.le_refl _) _)
 have hx1 := LnA.below hx (B1.out.mono (Nat.le_refl _))
 have k16 := Lib.hid (fun w9 (h9 : Below w1.heap.size w1 w9) => by have h := ln_c16 (Kind.at_blk (Kind.blk_below S0 h9 (Kind.blk_lt S0))) hx.1; rw [Nat.zero_add] at h; exact h)
 have k17 := Lib.hid (fun w9 (h9 : Below w1.heap.size w1 w9) => by have h := ln_c17 (Kind.at_blk (Kind.blk_below S0 h9 (Kind.blk_lt S0))) hx.1; rw [Nat.zero_add] at h; exact h)
 have k18 := Lib.hid (fun w9 (h9 : Below w1.heap.size w1 w9) => by have h := ln_c18 (Kind.at_blk (Kind.blk_below S0 h9 (Kind.blk_lt S0))) hx.1; rw [Nat.zero_add] at h; exact h)
 have hMb : x.es.length ≤ 9223372036854775807 := by
  have a1 := hx.2.2.2.2.1
  have a2 := hx.2.2.2.2.2.1
  simp only [maxLen] at a2
  omega
 have HE := Lib.hid (fun h0 => en_row hx1.2.2.2.2 h0)
 have HEO := Lib.hid (fun j (hj : j < x.es.length) => show EnA.Ok w1 (x.es.getD j enA0) from Kind.row_ok hx1.2.2.2.2 hj)
 have HES := Lib.hid (fun j (hj : j < x.es.length) => esOk_step (n := x.n) (r := x.r) hj)
 generalize (KLn.cs x).toArray = E43 at *
 obtain ⟨z, dn, dr, Ae, ce, es⟩ := x
 dsimp only at k16 k17 k18 HE HEO HES HV HMAY hMb
 generalize may dn dr = b0 at *
 have HNE := Lib.hid (show es.map (fun e : EnA => e.e) = [] ↔ es.length = 0 by simp)
 generalize hM : es.length = M at *
 have HM := Lib.hid hM
 have HEQ := Lib.hid (fun X => eq_st (n := dn) (r := dr) (m := 0) (s := 0) X)
 have a16 := k16.out w1 (Below.refl _ _)
 have a17 := k17.out w1 (Below.refl _ _)
 clear S0 hv hx hx1 hM
 subst hw1
 go_enter Tryz.func74, Tryz.ntmps74
 go_wp2_with fail
 refine (HMAY.out _).mono ?_
 rintro e w3 ⟨rfl, hb3⟩
 have a16 := k16.out w3 hb3
 have a17 := k17.out w3 hb3
 have a18 := k18.out w3 hb3
 have B3 := Lib.hid (B1.out.trans (hb3.mono B1.out.size))
 have BW3 := Lib.hid hb3
 have B10 := B3
 cases b0
 ·have HF := Lib.hid (show V = false by rw [HV.out]; rfl)
  clear hb3
  go_wp2
  go_ret
  exact ⟨by rw [HF.out]; try rfl, B10.out⟩
 have F16 := Lib.hid (fun w9 (h9 : Below w3.heap.size w3 w9) => k16.out w9 (BW3.out.trans (h9.mono BW3.out.size)))
 have F17 := Lib.hid (fun w9 (h9 : Below w3.heap.size w3 w9) => k17.out w9 (BW3.out.trans (h9.mono BW3.out.size)))
 have F18 := Lib.hid (fun w9 (h9 : Below w3.heap.size w3 w9) => k18.out w9 (BW3.out.trans (h9.mono BW3.out.size)))
 clear hb3
 by_cases hM0 : M = 0
 ·have t2 : (M : Int) = 0 := by omega
  by_cases hD : dn = 0 ∧ dr = 0
  ·have HF := Lib.hid (show V = false by rw [HV.out, decide_eq_true (show es.map (fun e : EnA => e.e) = [] ∧ dn = 0 ∧ dr = 0 from ⟨HNE.out.2 hM0, hD⟩)]; rfl)
   rw [decide_eq_true hD] at HEQ
   clear HV hD
   go_wp2_with (first | ((with_reducible refine wpList_eqlM (o := ⟨some 19, .binOp .eql 33 (.tmp 17) (.tmp 18) 33, _, _, _, _⟩) ?e1 33 (.tmp 17) (.tmp 18) 33 ?e2 ?e3 ?e4 guardStM (HEQ.out _) ?_); (case e1 => rfl); (case e2 => rfl); (case e3 => rfl); (case e4 => rfl)))
   go_ret
   exact ⟨by rw [HF.out]; try rfl, B10.out⟩
  ·have HE0 := Lib.hid (show V = esOk dn dr (lastA es 0) ((es.drop 0).map (·.e)) by rw [HV.out, decide_eq_false (show ¬ (es.map (fun e : EnA => e.e) = [] ∧ dn = 0 ∧ dr = 0) from fun h => hD h.2)]; rfl)
   rw [decide_eq_false hD] at HEQ
   clear HV hD
   go_wp2_with (first | ((with_reducible refine wpList_eqlM (o := ⟨some 19, .binOp .eql 33 (.tmp 17) (.tmp 18) 33, _, _, _, _⟩) ?e1 33 (.tmp 17) (.tmp 18) 33 ?e2 ?e3 ?e4 guardStM (HEQ.out _) ?_); (case e1 => rfl); (case e2 => rfl); (case e3 => rfl); (case e4 => rfl)))
   clear a16 a17 a18
   go_loopw [3, 25] (fun u3 u25 wr => ∃ j : Nat, j ≤ M ∧ u3 = .int .i64 (lastA es j + 1) ∧ u25 = .int .i64 j ∧ Below w3.heap.size w3 wr ∧ V = esOk dn dr (lastA es j) ((es.drop j).map (·.e))) (fun _ i _ => M - (intOf i).toNat)
   case atStart => exact ⟨0, Nat.zero_le _, rfl, rfl, Below.refl _ _, HE0.out⟩
   case round =>
    obtain ⟨j, hj, rfl, rfl, hb2, hf2⟩ := hrel
    have HB2 := Lib.hid hb2
    by_cases hjt : j < M
    ·omega
    ·obtain rfl : j = M := by omega
     have t3 : ¬ (j : Int) < (j : Int) := by omega
     have HF := Lib.hid (show V = true by rw [hf2, List.drop_eq_nil_of_le (by rw [HM.out]; exact Nat.le_refl _)]; rfl)
     have B10 := Lib.hid (B3.out.trans (hb2.mono B3.out.size))
     clear hf2 hb2
     go_wp2
     go_ret
     exact ⟨by rw [HF.out]; try rfl, B10.out⟩
 ·have t2 : ¬ (M : Int) = 0 := by omega
  have HE0 := Lib.hid (show V = esOk dn dr (lastA es 0) ((es.drop 0).map (·.e)) by rw [HV.out, decide_eq_false (show ¬ (es.map (fun e : EnA => e.e) = [] ∧ dn = 0 ∧ dr = 0) from fun h => hM0 (HNE.out.1 h.1))]; rfl)
  clear HV
  go_wp2
  clear a16 a17 a18
  go_loopw [3, 25] (fun u3 u25 wr => ∃ j : Nat, j ≤ M ∧ u3 = .int .i64 (lastA es j + 1) ∧ u25 = .int .i64 j ∧ Below w3.heap.size w3 wr ∧ V = esOk dn dr (lastA es j) ((es.drop j).map (·.e))) (fun _ i _ => M - (intOf i).toNat)
  case atStart => exact ⟨0, Nat.zero_le _, rfl, rfl, Below.refl _ _, HE0.out⟩
  case round =>
   obtain ⟨j, hj, rfl, rfl, hb2, hf2⟩ := hrel
   have HB2 := Lib.hid hb2
   by_cases hjt : j < M
   ·have t3 : (j : Int) < (M : Int) := by omega
    obtain ⟨b2, off2, hA2, hb2w, hx2, hi2⟩ := HE.out (by omega)
    have ix2 := hi2 j hjt j rfl
    rw [← hA2] at ix2
    have hokE := HEO.out j hjt
    have hok3 : (es.getD j enA0).Ok wr := EnA.below hokE ((BW3.out.trans (hb2.mono BW3.out.size)).mono (Nat.le_refl _))
    have LL := Lib.hid (load_en (Kind.at_same (hx2 j hjt) ((BW3.out.trans (hb2.mono BW3.out.size)).block b2 hb2w)) hok3)
    rw [show KEn.v (es.getD j enA0) = .agg (KEn.cs (es.getD j enA0)).toArray from rfl] at LL
    have hxb := Kind.blk_new (K := KEn) wr (es.getD j enA0) 68
    have hba : Below wr.heap.size wr (wr.alloc (.cells (KEn.cs (es.getD j enA0)).toArray 68)) := (Below.refl _ _).alloc (Nat.le_refl _) _
    have BA := Lib.hid (hb2.trans (hba.mono hb2.size))
    have SZ := Lib.hid (en_size hok3)
    have SQ := Lib.hid (show (KEn.cs enA0).toArray.size = (KEn.cs (es.getD j enA0)).toArray.size by rw [enA0_size, List.size_toArray]; exact (EnA.len hok3).symm)
    have SO := Lib.hid (en_ones (es.getD j enA0))
    have hok4 := EnA.below hok3 hba
    have LE := Lib.hid (load_en (Kind.at_blk hxb) hok4)
    rw [show KEn.v (es.getD j enA0) = .agg (KEn.cs (es.getD j enA0)).toArray from rfl] at LE
    have HCE := Lib.hid (pmayE_any (es.getD j enA0) _ hok4)
    rw [show KEn.v (es.getD j enA0) = .agg (KEn.cs (es.getD j enA0)).toArray from rfl] at HCE
    have c0 := en_c0 (Kind.at_blk hxb)
    have G0 := Lib.hid (fun w9 (h9 : Below (wr.alloc (.cells (KEn.cs (es.getD j enA0)).toArray 68)).heap.size (wr.alloc (.cells (KEn.cs (es.getD j enA0)).toArray 68)) w9) => en_c0 (Kind.at_blk (Kind.blk_below hxb h9 (Kind.blk_lt hxb))))
    have G1 := Lib.hid (fun w9 (h9 : Below (wr.alloc (.cells (KEn.cs (es.getD j enA0)).toArray 68)).heap.size (wr.alloc (.cells (KEn.cs (es.getD j enA0)).toArray 68)) w9) => by have h := en_c1 (Kind.at_blk (Kind.blk_below hxb h9 (Kind.blk_lt hxb))); rw [Nat.zero_add] at h; exact h)
    have G2 := Lib.hid (fun w9 (h9 : Below (wr.alloc (.cells (KEn.cs (es.getD j enA0)).toArray 68)).heap.size (wr.alloc (.cells (KEn.cs (es.getD j enA0)).toArray 68)) w9) => by have h := en_c2 (Kind.at_blk (Kind.blk_below hxb h9 (Kind.blk_lt hxb))); rw [Nat.zero_add] at h; exact h)
    rw [HES.out j hjt, enOk_p] at hf2
    have HLA := Lib.hid (show lastA es (j + 1) = (es.getD j enA0).e.no by unfold lastA; rw [if_neg (by omega), Nat.add_sub_cancel])
    have HCL := Lib.hid (fun X => stLess_any dn dr (es.getD j enA0).e.n (es.getD j enA0).e.r X)
    unfold st at HCL
    have hnow := wf_lo hok3.1
    generalize lastA es j = L at *
    generalize hWX : wr.alloc (.cells (KEn.cs (es.getD j enA0)).toArray 68) = wx at *
    generalize (KEn.cs (es.getD j enA0)).toArray = E at *
    generalize (es.getD j enA0).e = y at *
    obtain ⟨no, en, er, ln, ds, bs⟩ := y
    dsimp only at hf2 HLA HCL c0 G0 G1 G2 HCE hnow
    generalize pmE ⟨no, en, er, ln, ds, bs⟩ = b8 at *
    generalize stLess dn dr en er = b9 at *
    have HF2 := Lib.hid hf2
    have hz := zeroEn
    rw [show KEn.v enA0 = .agg (KEn.cs enA0).toArray from rfl] at hz
    have hzne : ¬ (KEn.cs enA0).toArray = #[] := by decide
    have hzs := enA0_size
    have HWR := Lib.hid (rfl : wr.heap.size = wr.heap.size)
    clear hx2 hi2 hA2 hokE hok3 hok4 hf2 hb2 hb2w hxb hba
    have B10 := Lib.hid (B3.out.trans (BA.out.mono B3.out.size))
    subst hWX
    by_cases t4 : no < L + 1
    ·have HF := Lib.hid (show V = false by rw [HF2.out, decide_eq_false (show ¬ L < no by omega)]; rfl)
     go_wp2_with (first | ((with_reducible refine wpList_load_at (o := ⟨some 28, .load 68 (.tmp 27), _, _, _, _⟩) ?e1 68 (.tmp 27) ?e2 ⟨b2, off2 + j * 37, none⟩ ?e3 _ LL.out ?_); (case e1 => rfl); (case e2 => rfl); (case e3 => rfl)) | ((with_reducible refine wpList_store_new (o := ⟨none, .store 68 (.tmp 5) (.tmp 28), _, _, _, _⟩) ?e1 68 (.tmp 5) (.tmp 28) ?e2 ?e3 (KEn.cs enA0).toArray E ?e4 SZ.out SQ.out SO.out ?_); (case e1 => rfl); (case e2 => rfl); (case e3 => rfl); (case e4 => rfl)))
     go_ret
     exact ⟨by rw [HF.out]; try rfl, B10.out⟩
    by_cases t5 : 8 ≤ no
    ·have HF := Lib.hid (show V = false by rw [HF2.out, decide_eq_false (show ¬ no < 8 by omega)]; simp)
     go_wp2_with (first | ((with_reducible refine wpList_load_at (o := ⟨some 28, .load 68 (.tmp 27), _, _, _, _⟩) ?e1 68 (.tmp 27) ?e2 ⟨b2, off2 + j * 37, none⟩ ?e3 _ LL.out ?_); (case e1 => rfl); (case e2 => rfl); (case e3 => rfl)) | ((with_reducible refine wpList_store_new (o := ⟨none, .store 68 (.tmp 5) (.tmp 28), _, _, _, _⟩) ?e1 68 (.tmp 5) (.tmp 28) ?e2 ?e3 (KEn.cs enA0).toArray E ?e4 SZ.out SQ.out SO.out ?_); (case e1 => rfl); (case e2 => rfl); (case e3 => rfl); (case e4 => rfl)))
     go_ret
     exact ⟨by rw [HF.out]; try rfl, B10.out⟩
    have HF3 := Lib.hid (show V = ((b8 && b9) && esOk dn dr (lastA es (j + 1)) ((es.drop (j + 1)).map (·.e))) by rw [HF2.out, decide_eq_true (show L < no by omega), decide_eq_true (show no < 8 by omega)]; rfl)
    go_wp2_with (first | ((with_reducible refine wpList_load_at (o := ⟨some 28, .load 68 (.tmp 27), _, _, _, _⟩) ?e1 68 (.tmp 27) ?e2 ⟨b2, off2 + j * 37, none⟩ ?e3 _ LL.out ?_); (case e1 => rfl); (case e2 => rfl); (case e3 => rfl)) | ((with_reducible refine wpList_store_new (o := ⟨none, .store 68 (.tmp 5) (.tmp 28), _, _, _, _⟩) ?e1 68 (.tmp 5) (.tmp 28) ?e2 ?e3 (KEn.cs enA0).toArray E ?e4 SZ.out SQ.out SO.out ?_); (case e1 => rfl); (case e2 => rfl); (case e3 => rfl); (case e4 => rfl)) | ((with_reducible refine wpList_load_at (o := ⟨some 39, .load 68 (.tmp 5), _, _, _, _⟩) ?e1 68 (.tmp 5) ?e2 ⟨wr.heap.size, 0, none⟩ ?e3 _ LE.out ?_); (case e1 => rfl); (case e2 => rfl); (case e3 => rfl)))
    refine HCE.out.mono ?_
    rintro e w5 ⟨rfl, hb5⟩
    have c0 := G0.out w5 hb5
    have c1 := G1.out w5 hb5
    have c2 := G2.out w5 hb5
    have B5 := Lib.hid (BA.out.trans (hb5.mono BA.out.size))
    have B10 := Lib.hid (B3.out.trans (B5.out.mono B3.out.size))
    have a16 := F16.out w5 B5.out
    have a17 := F17.out w5 B5.out
    cases b8
    ·have HF := Lib.hid (show V = false by rw [HF3.out]; rfl)
     clear hb5
     go_wp2
     go_ret
     exact ⟨by rw [HF.out]; try rfl, B10.out⟩
    have H5 := Lib.hid hb5
    clear hb5
    go_wp2_with fail
    refine (HCL.out _).mono ?_
    rintro e w6 ⟨rfl, hb6⟩
    have c0 := G0.out w6 (H5.out.trans (hb6.mono H5.out.size))
    have B6 := Lib.hid (B5.out.trans (hb6.mono B5.out.size))
    have B10 := Lib.hid (B3.out.trans (B6.out.mono B3.out.size))
    have a18 := F18.out w6 B6.out
    have x1 : IntKind.i64.wrap (no + 1) = no + 1 := IntWalk.i64_in _ (by omega)
    clear hb6
    cases b9
    ·have HF := Lib.hid (show V = false by rw [HF3.out]; rfl)
     go_wp2
     go_ret
     exact ⟨by rw [HF.out]; try rfl, B10.out⟩
    have HF := Lib.hid (show V = esOk dn dr (lastA es (j + 1)) ((es.drop (j + 1)).map (·.e)) by rw [HF3.out]; rfl)
    go_wp2
    go_roundw
    case rel => exact ⟨j + 1, by omega, by rw [HLA.out], by go_num, B6.out, HF.out⟩
    case measure => simp [intOf]; omega
   ·obtain rfl : j = M := by omega
    have t3 : ¬ (j : Int) < (j : Int) := by omega
    have HF := Lib.hid (show V = true by rw [hf2, List.drop_eq_nil_of_le (by rw [HM.out]; exact Nat.le_refl _)]; rfl)
    have B10 := Lib.hid (B3.out.trans (hb2.mono B3.out.size))
    clear hf2 hb2
    go_wp2
    go_ret
    exact ⟨by rw [HF.out]; try rfl, B10.out⟩
end
end Go.Proofs.YtnlhkpmgbpfjmaaGreatDoor
