import Derived.Test.YtkjimhlpbgeagaaDoorC0
import Derived.Test.YtkjimhlpbgeagaaDoorC9
import Derived.Test.YtkjimhlpbgeagaaDoorC10
import Derived.WalkLawsBesides
import Derived.Recover
import Derived.Laws.Cover3
import Derived.Lib.AppendZeros
import Derived.Deep.Draws
import Derived.Lib.LazyBuf
import Derived.RangeFuncNested
import Derived.Sort.MapsRangeIn
import Derived.Shelf.SlSortCmp.InsertionK
import Derived.Shelf.SlSortCmp.SmallK
import Derived.Maps.OwnSet
import Derived.Maps.Views
import Derived.Maps.Range
import Derived.DeepKeys4
import Derived.Defers
/-
  What the functions that a law of this layer reaches answer, part 11. Nothing that was there is written.
-/
namespace Go.Proofs.YtkjimhlpbgeagaaDoor
set_option linter.unusedVariables false
set_option linter.unusedSimpArgs false
section
section
open Go.RowKit WM
theorem lessL_goes : ∀ {xs ys zs : List Int}, lessL xs ys = true → lessL ys zs = true → lessL xs zs = true
 | _, [], _, h, _ => by simp [lessL] at h
 | _, _ :: _, [], _, h => by simp [lessL] at h
 | [], _ :: _, _ :: _, _, _ => rfl
 | x :: xs, y :: ys, z :: zs, h1, h2 => by
  rw [lessL] at h1 h2 ⊢
  simp only [Bool.or_eq_true, Bool.and_eq_true, decide_eq_true_eq, beq_iff_eq] at h1 h2 ⊢
  rcases h1 with h1 | ⟨h1, h1'⟩ <;> rcases h2 with h2 | ⟨h2, h2'⟩
  ·exact .inl (by omega)
  ·exact .inl (by omega)
  ·exact .inl (by omega)
  ·exact .inr ⟨by omega, lessL_goes h1' h2'⟩
end
section
open Go.RowKit WM
theorem il_trans : ∀ {x y z : List Int}, lessL x y = true → lessL y z = true → lessL x z = true
 | x, [], z, h, _ => by cases x <;> simp [lessL] at h
 | x, y :: ys, [], _, h => by simp [lessL] at h
 | [], y :: ys, z :: zs, _, _ => rfl
 | x :: xs, y :: ys, z :: zs, h1, h2 => by
  rw [lessL] at h1 h2 ⊢
  simp only [Bool.or_eq_true, Bool.and_eq_true, decide_eq_true_eq, beq_iff_eq] at h1 h2 ⊢
  rcases h1 with h1 | ⟨rfl, h1⟩
  ·rcases h2 with h2 | ⟨rfl, h2⟩
   ·exact .inl (by omega)
   ·exact .inl h1
  ·rcases h2 with h2 | ⟨rfl, h2⟩
   ·exact .inl h2
   ·exact .inr ⟨rfl, il_trans h1 h2⟩
def AllMay (bs : List Rc) : Prop := ∀ r ∈ bs, r.may = true
def Rise (bs : List Rc) : Prop := bs.Pairwise fun a b => lessL a.z b.z = true
def pzok : Option (List Int) → List Int → Bool
 | none, _ => true
 | some z, y => lessL z y
def okB (p : Option (List Int)) : List Rc → Bool
 | [] => true
 | r :: rs => r.may && pzok p r.z && okB (some r.z) rs
def bmay (bs : List Rc) : Bool := decide (bs.length ≤ 10) && okB none bs
theorem okB_some {z : List Int} : ∀ {bs : List Rc}, okB (some z) bs = true ↔ (AllMay bs ∧ Rise bs ∧ ∀ r ∈ bs, lessL z r.z = true)
 | [] => by simp [okB, AllMay, Rise]
 | r :: rs => by
  rw [okB, pzok]
  simp only [Bool.and_eq_true, okB_some (bs := rs)]
  constructor
  ·rintro ⟨⟨h1, h2⟩, h3, h4, h5⟩
   refine ⟨fun x hx => ?_, List.pairwise_cons.2 ⟨h5, h4⟩, fun x hx => ?_⟩
   ·rcases List.mem_cons.1 hx with rfl | hx
    ·exact h1
    ·exact h3 x hx
   ·rcases List.mem_cons.1 hx with rfl | hx
    ·exact h2
    ·exact il_trans h2 (h5 x hx)
  ·rintro ⟨h1, h2, h3⟩
   obtain ⟨h4, h5⟩ := List.pairwise_cons.1 h2
   exact ⟨⟨h1 r List.mem_cons_self, h3 r List.mem_cons_self⟩, fun x hx => h1 x (List.mem_cons_of_mem _ hx), h5, h4⟩
theorem okB_none {bs : List Rc} : okB none bs = true ↔ (AllMay bs ∧ Rise bs) := by
 cases bs with
 | nil => simp [okB, AllMay, Rise]
 | cons r rs =>
  rw [okB, pzok]
  simp only [Bool.and_eq_true, okB_some, and_true]
  constructor
  ·rintro ⟨h1, h3, h4, h5⟩
   refine ⟨fun x hx => ?_, List.pairwise_cons.2 ⟨h5, h4⟩⟩
   rcases List.mem_cons.1 hx with rfl | hx
   ·exact h1
   ·exact h3 x hx
  ·rintro ⟨h1, h2⟩
   obtain ⟨h4, h5⟩ := List.pairwise_cons.1 h2
   exact ⟨h1 r List.mem_cons_self, fun x hx => h1 x (List.mem_cons_of_mem _ hx), h5, h4⟩
theorem bmay_iff {bs : List Rc} : bmay bs = true ↔ (bs.length ≤ 10 ∧ AllMay bs ∧ Rise bs) := by
 unfold bmay
 simp only [Bool.and_eq_true, decide_eq_true_eq, okB_none]
end
end
section
open Go.RowKit WM
set_option maxRecDepth 20000
theorem xmay_any (x : RcA) (w : World) (h : RvAt w x) : Calls Tryd.prog 43 #[.agg x.cells] w fun e w' => e = .returned (.bool x.R.may) ∧ Below w.heap.size w w' := may_any' x.R x.A x.c w h.1 h.2
def XAt (w : World) (b : Nat) (x : RcA) : Prop := x.R.z.length = 16 ∧ w.heap[b]? = some (.cells x.cells 73)
section
variable {w w' : World} {b B : Nat} {x : RcA}
theorem XAt.rc (h : XAt w b x) : RcAt w b x.R.z x.R.n x.R.r x.s := h
theorem XAt.lt (h : XAt w b x) : b < w.heap.size := h.rc.lt
theorem XAt.below (h : XAt w b x) (hb : Below B w w') (hB : b < B) : XAt w' b x := h.rc.below hb hB
theorem XAt.old (h : XAt w b x) (o : Obj) : XAt (w.alloc o) b x := h.rc.old o
theorem XAt.new (w : World) (hz : x.R.z.length = 16) : XAt (w.alloc (.cells x.cells 73)) w.heap.size x := ⟨hz, heap_alloc_new w _⟩
theorem XAt.rec (h : XAt w b x) : RecAt w b 0 x := RecAt.of_row h.1 h.2
theorem XAt.load (h : XAt w b x) : (loadVar 73 ⟨b, 0, none⟩).run Tryd.prog w = .ok (.agg x.cells) w := h.rec.load
theorem XAt.load_id (h : XAt w b x) : (loadVar 44 ⟨b, 0, none⟩).run Tryd.prog w = .ok (.agg (bvals x.R.z)) w := h.rec.load_id
theorem XAt.c16 (h : XAt w b x) : w.cell? ⟨b, 16, none⟩ = some (.int .i64 x.R.n) := h.rc.c16
theorem XAt.c17 (h : XAt w b x) : w.cell? ⟨b, 17, none⟩ = some (.int .i64 x.R.r) := h.rc.c17
theorem XAt.c18 (h : XAt w b x) : w.cell? ⟨b, 18, none⟩ = some (.slice x.A x.R.fs.length x.c) := h.rc.c18
end
theorem zrec : rcA0.cells = rcells z16 0 0 (.slice none 0 0) := rfl
theorem zeroX (w : World) : (zeroValue 73).run Tryd.prog w = .ok (.agg rcA0.cells) w := zeroRec w
theorem x_one (x : RcA) : x.cells.all (·.oneCell') = true := rcells_one rfl
theorem x_size {x : RcA} (h : x.R.z.length = 16) : (Tryd.prog.info? 73).map (·.size) = some x.cells.size := size_rcells h _ _ _
theorem wpList_store_newx {w : World} {ops : Array Oper} {rest : List Oper} {o : Oper} {a : Act} {Q : Exit → Act → World → Prop} (hgd : o.guard = none) (p q : Operand) (hop : o.op = .store 73 p q)
  (b : Nat) (hb : b = w.heap.size) (hx : a.eval p = .pointer (some ⟨b, 0, none⟩)) (x : RcA) (hy : a.eval q = .agg x.cells) (hz : x.R.z.length = 16)
  (hK : ∀ w', Below w.heap.size w w' → XAt w' b x → w'.heap.size = w.heap.size + 1 → wpList Tryd.prog ops Q rest (a.put o.dst undef) w') : wpList Tryd.prog ops Q (o :: rest) a (w.alloc (.cells rcA0.cells 73)) := by
 subst hb
 refine wpList_store_row hgd 73 p q hop w.heap.size x.cells hx hy 73 _ (RcAt.new w z16_len 0 0 (.slice none 0 0)).hp (x_size hz) ((rcells_size z16_len _ _ _).trans (cells_len hz).symm) (x_one x) ?_
 rw [zrec, putR]
 exact hK _ ((Below.refl w.heap.size w).alloc (Nat.le_refl _) _) (XAt.new w hz) (World.size_alloc _ _)
end
section
section
open Go.RowKit WM
set_option maxRecDepth 20000
def cnt (most : Int) (zs : List Int) : Option (Nat × List Int) :=
 match dec zs with
 | none => none
 | some (n, k) => if n ≤ most then some (n.toNat, zs.drop k) else none
end
section
open Go.RowKit WM
set_option maxRecDepth 20000
end
section
open Go.RowKit WM
set_option maxRecDepth 20000
end
section
open Go.RowKit WM
set_option maxRecDepth 20000
end
end
section
open Go.RowKit WM
set_option maxRecDepth 100000
def prevZ (xs : List RcA) (k : Nat) : Option (List Int) := if k = 0 then none else some (xs.getD (k - 1) rcA0).R.z
theorem okB_drop {xs : List RcA} {k : Nat} (p : Option (List Int)) (hk : k < xs.length) : okB p ((xs.drop k).map (·.R)) =
  ((xs.getD k rcA0).R.may && pzok p (xs.getD k rcA0).R.z && okB (some (xs.getD k rcA0).R.z) ((xs.drop (k + 1)).map (·.R))) := by
 rw [List.drop_eq_getElem_cons hk, List.map_cons, okB]
 simp only [List.getD, List.getElem?_eq_getElem hk, Option.getD_some]
theorem prevZ_succ (xs : List RcA) (k : Nat) : prevZ xs (k + 1) = some (xs.getD k rcA0).R.z := by
 unfold prevZ
 rw [if_neg (by omega), Nat.add_sub_cancel]
set_option maxHeartbeats 8000000 in
theorem bmay_any (b : Bk) (w : World) (h : BkAt w b) :
  Calls Tryd.prog 23 #[.agg #[.slice b.A b.xs.length b.c]] w fun e w' => e = .returned (.bool (bmay b.rs)) ∧ Below w.heap.size w w' := by
 obtain ⟨xs, A, c⟩ := b
 dsimp only
 have S0 := Lib.hid (BoAt.new w (.slice A xs.length c))
 have HB := Lib.hid ((Below.refl w.heap.size w).alloc (Nat.le_refl _) (.cells #[.slice A xs.length c] 42))
 have s0 := S0.out.c0
 have HRV := Lib.hid (fun i (hi : i < xs.length) => RsAt.rv h hi)
 obtain ⟨hc1, hc2, hc3, hcell, _⟩ := h
 dsimp only at hc1 hc2 hc3 hcell HRV
 simp only [maxLen] at hc2
 have HC := Lib.hid hcell
 have HV : Hid (bmay (Bk.rs ⟨xs, A, c⟩) = (decide (xs.length ≤ 10) && okB (prevZ xs 0) ((xs.drop 0).map (·.R)))) := Lib.hid (by unfold bmay Bk.rs; rw [List.length_map]; rfl)
 clear hcell
 have hz := zeroX
 generalize bmay (Bk.rs ⟨xs, A, c⟩) = V at HV ⊢
 by_cases h10 : xs.length ≤ 10
 ·have hV2 := HV.out
  rw [decide_eq_true h10, Bool.true_and] at hV2
  have HV2 := Lib.hid hV2
  generalize hlen : xs.length = len at *
  have HLN := Lib.hid hlen
  have t1 : ¬ 10 < (len : Int) := by omega
  clear hV2 hlen
  go_enter Tryd.func23, Tryd.ntmps23
  go_wp2
  clear s0
  go_loopw [12] (fun i wr => ∃ k : Nat, k ≤ len ∧ i = .int .i64 k ∧ BoAt wr w.heap.size (.slice A len c) ∧ Below w.heap.size w wr ∧ V = okB (prevZ xs k) ((xs.drop k).map (·.R))) (fun i _ => len - (intOf i).toNat)
  case atStart => exact ⟨0, Nat.zero_le _, rfl, S0.out, HB.out, HV2.out⟩
  case round =>
   obtain ⟨k, hk, rfl, hs, hb, hf⟩ := hrel
   by_cases hlt : k < len
   ·obtain ⟨b0, off, rfl, hb0, hcc⟩ := HC.out (by omega)
    have hx := (hcc k hlt).same (hb.block b0 hb0)
    have IX := ix_rec b0 off len c k hlt k rfl
    have HXV := Lib.hid ((HRV.out k hlt).below hb (Nat.le_refl _))
    rw [okB_drop _ (by rw [HLN.out]; exact hlt), ← prevZ_succ] at hf
    have HZ16 := Lib.hid HXV.out.len
    have HBS := Lib.hid (And.intro hs hb)
    have hb02 := Nat.lt_of_lt_of_le hb0 hb.size
    have LX := Lib.hid hx.load
    have HPZ := Lib.hid (show prevZ xs (k + 1) = some (xs.getD k rcA0).R.z from prevZ_succ _ _)
    have HY : Hid (0 < k → ∃ y : RcA, prevZ xs k = some y.R.z ∧ RvAt wr y ∧ RecAt wr b0 (off + (k - 1) * 19) y) := Lib.hid (fun h0 => ⟨xs.getD (k - 1) rcA0, by unfold prevZ; rw [if_neg (by omega)], (HRV.out (k - 1) (by omega)).below hb (Nat.le_refl _), (hcc (k - 1) (by omega)).same (hb.block b0 hb0)⟩)
    generalize xs.getD k rcA0 = x at *
    generalize hpzq : prevZ xs (k + 1) = pz at *
    have HPQ := Lib.hid hpzq
    generalize hox : off + k * 19 = ox at *
    clear hcc hs hb hx hox hpzq
    have hS3 := HBS.out.1.c0
    cases hm : x.R.may
    ·rw [hm] at hf
     simp only [Bool.false_and] at hf
     have HF := Lib.hid hf
     have HMY := Lib.hid hm
     clear hf hm
     go_wp2_with (first | ((with_reducible refine wpList_load_by (o := ⟨some 16, .load 73 (.tmp 15), _, _, _, _⟩) ?e1 73 (.tmp 15) ?e2 ⟨b0, ox, none⟩ ?e3 _ LX.out ?_); (case e1 => rfl); (case e2 => rfl); (case e3 => rfl)) | ((with_reducible refine wpList_store_newx (o := ⟨none, .store 73 (.tmp 4) (.tmp 16), _, _, _, _⟩) (w := wr) ?e1 (.tmp 4) (.tmp 16) ?e2 wr.heap.size ?e0 ?e3 x ?e4 HZ16.out ?_); (case e1 => rfl); (case e2 => rfl); (case e0 => rfl); (case e3 => rfl); (case e4 => rfl); intro w2 hb2 hx2 hs2; have X2 := Lib.hid hx2; have HS2 := Lib.hid hs2; have HW2 := Lib.hid hb2; have HB2 := Lib.hid (HBS.out.2.trans (hb2.mono HBS.out.2.size)); have B2 := Lib.hid (HBS.out.1.below hb2 HBS.out.1.lt); have HM := Lib.hid (fun (w9 : World) (hS : Below w2.heap.size w2 w9) => xmay_any x w9 ((HXV.out.below hb2 (Nat.le_refl _)).below hS (Nat.le_refl _))); rw [HMY.out] at HM; clear hb2 hx2 hs2))
     refine wp_region_G _ (by kernel_rfl) ?_
     refine wpGv (i := 0) (oi := ⟨some 17, _, _, _, _, _⟩) (v := (.agg x.cells)) rfl ?_ ?_; (focus (intro w9 hSw; exact exec_load_by 73 _ rfl ⟨wr.heap.size, 0, none⟩ rfl (X2.out.below hSw X2.out.lt).load)); simp only [Act.put, Z2, Z3, Z4]
     refine wpG_take (i := 1) (oi := ⟨some 18, _, _, _, _, _⟩) rfl (by kernel_rfl) (by kernel_rfl) (by kernel_rfl) (Or.inl ⟨by rfl, unib_call_if ?_ HM.out⟩) ?_; (focus (intro w9 hSw; go_simp; try with_reducible rfl)); simp only [Act.put, Z2, Z3, Z4]
     refine wpGv (i := 2) (oi := ⟨some 19, _, _, _, _, _⟩) (v := ?_) rfl ?_ ?_; rotate_left; (focus (intro w9 hSw; go_simp; try with_reducible rfl)); simp only [Act.put, Z2, Z3, Z4]
     refine wpGv (i := 3) (oi := ⟨some 20, _, _, _, _, _⟩) (v := ?_) rfl ?_ ?_; rotate_left; (focus (intro w9 hSw; go_simp; try with_reducible rfl)); simp only [Act.put, Z2, Z3, Z4]
     refine wpGo (i := 4) (oi := ⟨some 21, _, _, _, _, _⟩) rfl ?_; simp only [Act.put, Z2, Z3, Z4]
     refine wpGo (i := 5) (oi := ⟨some 22, _, _, _, _, _⟩) rfl ?_; simp only [Act.put, Z2, Z3, Z4]
     refine wpGo (i := 6) (oi := ⟨some 23, _, _, _, _, _⟩) rfl ?_; simp only [Act.put, Z2, Z3, Z4]
     refine wpGo (i := 7) (oi := ⟨some 24, _, _, _, _, _⟩) rfl ?_; simp only [Act.put, Z2, Z3, Z4]
     refine wpGo (i := 8) (oi := ⟨some 25, _, _, _, _, _⟩) rfl ?_; simp only [Act.put, Z2, Z3, Z4]
     refine wpGo (i := 9) (oi := ⟨some 26, _, _, _, _, _⟩) rfl ?_; simp only [Act.put, Z2, Z3, Z4]
     refine wpGo (i := 10) (oi := ⟨some 27, _, _, _, _, _⟩) rfl ?_; simp only [Act.put, Z2, Z3, Z4]
     refine wpGo (i := 11) (oi := ⟨some 28, _, _, _, _, _⟩) rfl ?_; simp only [Act.put, Z2, Z3, Z4]
     refine wpGo (i := 12) (oi := ⟨some 29, _, _, _, _, _⟩) rfl ?_; simp only [Act.put, Z2, Z3, Z4]
     refine wpGo (i := 13) (oi := ⟨some 30, _, _, _, _, _⟩) rfl ?_; simp only [Act.put, Z2, Z3, Z4]
     refine wpGo (i := 14) (oi := ⟨some 31, _, _, _, _, _⟩) rfl ?_; simp only [Act.put, Z2, Z3, Z4]
     refine wpGo (i := 15) (oi := ⟨some 32, _, _, _, _, _⟩) rfl ?_; simp only [Act.put, Z2, Z3, Z4]
     refine wpGo (i := 16) (oi := ⟨some 33, _, _, _, _, _⟩) rfl ?_; simp only [Act.put, Z2, Z3, Z4]
     refine wpGo (i := 17) (oi := ⟨some 34, _, _, _, _, _⟩) rfl ?_; simp only [Act.put, Z2, Z3, Z4]
     refine wpGo (i := 18) (oi := ⟨some 35, _, _, _, _, _⟩) rfl ?_; simp only [Act.put, Z2, Z3, Z4]
     refine wpGv (i := 19) (oi := ⟨some 36, _, _, _, _, _⟩) (v := ?_) rfl ?_ ?_; rotate_left; (focus (intro w9 hSw; go_simp; try with_reducible rfl)); simp only [Act.put, Z2, Z3, Z4]
     refine wpG_done (by kernel_rfl) ?_ _
     intro w9 hSw _
     have B9 := Lib.hid (HB2.out.trans (hSw.mono HB2.out.size))
     have BO9 := Lib.hid (B2.out.below hSw B2.out.lt)
     clear hSw
     go_wp2
     go_ret
     exact ⟨by rw [HF.out]; rfl, B9.out⟩
    ·rw [hm] at hf
     simp only [Bool.true_and] at hf
     have HMY := Lib.hid hm
     clear hm
     by_cases h0 : k = 0
     ·have HF := Lib.hid (show V = okB pz ((xs.drop (k + 1)).map (·.R)) by rw [hf, prevZ, if_pos h0]; rfl)
      have t3 : ¬ (0 : Int) < (k : Int) := by omega
      clear hf h0
      go_wp2_with (first | ((with_reducible refine wpList_load_by (o := ⟨some 16, .load 73 (.tmp 15), _, _, _, _⟩) ?e1 73 (.tmp 15) ?e2 ⟨b0, ox, none⟩ ?e3 _ LX.out ?_); (case e1 => rfl); (case e2 => rfl); (case e3 => rfl)) | ((with_reducible refine wpList_store_newx (o := ⟨none, .store 73 (.tmp 4) (.tmp 16), _, _, _, _⟩) (w := wr) ?e1 (.tmp 4) (.tmp 16) ?e2 wr.heap.size ?e0 ?e3 x ?e4 HZ16.out ?_); (case e1 => rfl); (case e2 => rfl); (case e0 => rfl); (case e3 => rfl); (case e4 => rfl); intro w2 hb2 hx2 hs2; have X2 := Lib.hid hx2; have HS2 := Lib.hid hs2; have HW2 := Lib.hid hb2; have HB2 := Lib.hid (HBS.out.2.trans (hb2.mono HBS.out.2.size)); have B2 := Lib.hid (HBS.out.1.below hb2 HBS.out.1.lt); have HM := Lib.hid (fun (w9 : World) (hS : Below w2.heap.size w2 w9) => xmay_any x w9 ((HXV.out.below hb2 (Nat.le_refl _)).below hS (Nat.le_refl _))); rw [HMY.out] at HM; clear hb2 hx2 hs2))
      refine wp_region_G _ (by kernel_rfl) ?_
      refine wpGv (i := 0) (oi := ⟨some 17, _, _, _, _, _⟩) (v := (.agg x.cells)) rfl ?_ ?_; (focus (intro w9 hSw; exact exec_load_by 73 _ rfl ⟨wr.heap.size, 0, none⟩ rfl (X2.out.below hSw X2.out.lt).load)); simp only [Act.put, Z2, Z3, Z4]
      refine wpG_take (i := 1) (oi := ⟨some 18, _, _, _, _, _⟩) rfl (by kernel_rfl) (by kernel_rfl) (by kernel_rfl) (Or.inl ⟨by rfl, unib_call_if ?_ HM.out⟩) ?_; (focus (intro w9 hSw; go_simp; try with_reducible rfl)); simp only [Act.put, Z2, Z3, Z4]
      refine wpGv (i := 2) (oi := ⟨some 19, _, _, _, _, _⟩) (v := ?_) rfl ?_ ?_; rotate_left; (focus (intro w9 hSw; go_simp; try with_reducible rfl)); simp only [Act.put, Z2, Z3, Z4]
      refine wpGv (i := 3) (oi := ⟨some 20, _, _, _, _, _⟩) (v := ?_) rfl ?_ ?_; rotate_left; (focus (intro w9 hSw; go_simp; try with_reducible rfl)); simp only [Act.put, Z2, Z3, Z4]
      refine wpGv (i := 4) (oi := ⟨some 21, _, _, _, _, _⟩) (v := ?_) rfl ?_ ?_; rotate_left; (focus (intro w9 hSw; go_simp; try with_reducible rfl)); simp only [Act.put, Z2, Z3, Z4]
      refine wpGv (i := 5) (oi := ⟨some 22, _, _, _, _, _⟩) (v := (.bool false)) rfl ?_ ?_; (focus (intro w9 hSw; have q0 := decide_eq_false (show ¬ (0 : Int) < (k : Int) by omega); first | (go_simp; done) | (go_simp; omega) | (go_simp; rfl) | (simp [go_sem, execOp, q0]; done) | (simp [go_sem, execOp, q0]; rfl))); simp only [Act.put, Z2, Z3, Z4]
      refine wpGv (i := 6) (oi := ⟨some 23, _, _, _, _, _⟩) (v := ?_) rfl ?_ ?_; rotate_left; (focus (intro w9 hSw; go_simp; try with_reducible rfl)); simp only [Act.put, Z2, Z3, Z4]
      refine wpGo (i := 7) (oi := ⟨some 24, _, _, _, _, _⟩) rfl ?_; simp only [Act.put, Z2, Z3, Z4]
      refine wpGo (i := 8) (oi := ⟨some 25, _, _, _, _, _⟩) rfl ?_; simp only [Act.put, Z2, Z3, Z4]
      refine wpGo (i := 9) (oi := ⟨some 26, _, _, _, _, _⟩) rfl ?_; simp only [Act.put, Z2, Z3, Z4]
      refine wpGo (i := 10) (oi := ⟨some 27, _, _, _, _, _⟩) rfl ?_; simp only [Act.put, Z2, Z3, Z4]
      refine wpGo (i := 11) (oi := ⟨some 28, _, _, _, _, _⟩) rfl ?_; simp only [Act.put, Z2, Z3, Z4]
      refine wpGo (i := 12) (oi := ⟨some 29, _, _, _, _, _⟩) rfl ?_; simp only [Act.put, Z2, Z3, Z4]
      refine wpGo (i := 13) (oi := ⟨some 30, _, _, _, _, _⟩) rfl ?_; simp only [Act.put, Z2, Z3, Z4]
      refine wpGo (i := 14) (oi := ⟨some 31, _, _, _, _, _⟩) rfl ?_; simp only [Act.put, Z2, Z3, Z4]
      refine wpGo (i := 15) (oi := ⟨some 32, _, _, _, _, _⟩) rfl ?_; simp only [Act.put, Z2, Z3, Z4]
      refine wpGo (i := 16) (oi := ⟨some 33, _, _, _, _, _⟩) rfl ?_; simp only [Act.put, Z2, Z3, Z4]
      refine wpGo (i := 17) (oi := ⟨some 34, _, _, _, _, _⟩) rfl ?_; simp only [Act.put, Z2, Z3, Z4]
      refine wpGv (i := 18) (oi := ⟨some 35, _, _, _, _, _⟩) (v := ?_) rfl ?_ ?_; rotate_left; (focus (intro w9 hSw; go_simp; try with_reducible rfl)); simp only [Act.put, Z2, Z3, Z4]
      refine wpGv (i := 19) (oi := ⟨some 36, _, _, _, _, _⟩) (v := ?_) rfl ?_ ?_; rotate_left; (focus (intro w9 hSw; go_simp; try with_reducible rfl)); simp only [Act.put, Z2, Z3, Z4]
      refine wpG_done (by kernel_rfl) ?_ _
      intro w9 hSw _
      have B9 := Lib.hid (HB2.out.trans (hSw.mono HB2.out.size))
      have BO9 := Lib.hid (B2.out.below hSw B2.out.lt)
      clear hSw
      go_wp2
      go_roundw
      case rel => exact ⟨k + 1, by omega, by go_num, BO9.out, B9.out, by rw [HPQ.out]; exact HF.out⟩
      case measure => simp [intOf]; omega
     ·obtain ⟨y, hpy, hyv, hya⟩ := HY.out (by omega)
      rw [hpy, pzok] at hf
      have t3 : (0 : Int) < (k : Int) := by omega
      have IXY := Lib.hid (fun w9 => ix_rec b0 off len c (k - 1) (by omega) ((k : Int) - 1) (by omega) w9)
      have HYV := Lib.hid hyv
      generalize hoy : off + (k - 1) * 19 = oy at *
      have HYA := Lib.hid hya
      clear hoy hyv hya hpy
      cases hl : lessL y.R.z x.R.z
      ·rw [hl] at hf
       simp only [Bool.false_and] at hf
       have HF := Lib.hid hf
       have HLS := Lib.hid hl
       clear hf hl
       go_wp2_with (first | ((with_reducible refine wpList_load_by (o := ⟨some 16, .load 73 (.tmp 15), _, _, _, _⟩) ?e1 73 (.tmp 15) ?e2 ⟨b0, ox, none⟩ ?e3 _ LX.out ?_); (case e1 => rfl); (case e2 => rfl); (case e3 => rfl)) | ((with_reducible refine wpList_store_newx (o := ⟨none, .store 73 (.tmp 4) (.tmp 16), _, _, _, _⟩) (w := wr) ?e1 (.tmp 4) (.tmp 16) ?e2 wr.heap.size ?e0 ?e3 x ?e4 HZ16.out ?_); (case e1 => rfl); (case e2 => rfl); (case e0 => rfl); (case e3 => rfl); (case e4 => rfl); intro w2 hb2 hx2 hs2; have X2 := Lib.hid hx2; have HS2 := Lib.hid hs2; have HW2 := Lib.hid hb2; have HB2 := Lib.hid (HBS.out.2.trans (hb2.mono HBS.out.2.size)); have B2 := Lib.hid (HBS.out.1.below hb2 HBS.out.1.lt); have HM := Lib.hid (fun (w9 : World) (hS : Below w2.heap.size w2 w9) => xmay_any x w9 ((HXV.out.below hb2 (Nat.le_refl _)).below hS (Nat.le_refl _))); rw [HMY.out] at HM; have Y2 := Lib.hid (HYA.out.same (hb2.block b0 hb02)); have HL := Lib.hid (fun (w9 : World) (hS : Below w2.heap.size w2 w9) => bless_any y.R.z x.R.z w9 HYV.out.1.2 HXV.out.1.2 HYV.out.len HXV.out.len); rw [HLS.out] at HL; have hb02 := Nat.lt_of_lt_of_le hb02 hb2.size; clear hb2 hx2 hs2))
       refine wp_region_G _ (by kernel_rfl) ?_
       refine wpGv (i := 0) (oi := ⟨some 17, _, _, _, _, _⟩) (v := (.agg x.cells)) rfl ?_ ?_; (focus (intro w9 hSw; exact exec_load_by 73 _ rfl ⟨wr.heap.size, 0, none⟩ rfl (X2.out.below hSw X2.out.lt).load)); simp only [Act.put, Z2, Z3, Z4]
       refine wpG_take (i := 1) (oi := ⟨some 18, _, _, _, _, _⟩) rfl (by kernel_rfl) (by kernel_rfl) (by kernel_rfl) (Or.inl ⟨by rfl, unib_call_if ?_ HM.out⟩) ?_; (focus (intro w9 hSw; go_simp; try with_reducible rfl)); simp only [Act.put, Z2, Z3, Z4]
       refine wpGv (i := 2) (oi := ⟨some 19, _, _, _, _, _⟩) (v := ?_) rfl ?_ ?_; rotate_left; (focus (intro w9 hSw; go_simp; try with_reducible rfl)); simp only [Act.put, Z2, Z3, Z4]
       refine wpGv (i := 3) (oi := ⟨some 20, _, _, _, _, _⟩) (v := ?_) rfl ?_ ?_; rotate_left; (focus (intro w9 hSw; go_simp; try with_reducible rfl)); simp only [Act.put, Z2, Z3, Z4]
       refine wpGv (i := 4) (oi := ⟨some 21, _, _, _, _, _⟩) (v := ?_) rfl ?_ ?_; rotate_left; (focus (intro w9 hSw; go_simp; try with_reducible rfl)); simp only [Act.put, Z2, Z3, Z4]
       refine wpGv (i := 5) (oi := ⟨some 22, _, _, _, _, _⟩) (v := (.bool true)) rfl ?_ ?_; (focus (intro w9 hSw; have q0 := decide_eq_true (show (0 : Int) < (k : Int) by omega); first | (go_simp; done) | (go_simp; omega) | (go_simp; rfl) | (simp [go_sem, execOp, q0]; done) | (simp [go_sem, execOp, q0]; rfl))); simp only [Act.put, Z2, Z3, Z4]
       refine wpGv (i := 6) (oi := ⟨some 23, _, _, _, _, _⟩) (v := ?_) rfl ?_ ?_; rotate_left; (focus (intro w9 hSw; go_simp; try with_reducible rfl)); simp only [Act.put, Z2, Z3, Z4]
       refine wpGv (i := 7) (oi := ⟨some 24, _, _, _, _, _⟩) (v := ?_) rfl ?_ ?_; rotate_left; (focus (intro w9 hSw; go_simp; try with_reducible rfl)); simp only [Act.put, Z2, Z3, Z4]
       refine wpGv (i := 8) (oi := ⟨some 25, _, _, _, _, _⟩) (v := ?_) rfl ?_ ?_; rotate_left; (focus (intro w9 hSw; have q0 := (B2.out.below hSw B2.out.lt).c0; go_simp; try with_reducible rfl)); simp only [Act.put, Z2, Z3, Z4]
       refine wpGv (i := 9) (oi := ⟨some 26, _, _, _, _, _⟩) (v := ?_) rfl ?_ ?_; rotate_left; (focus (intro w9 hSw; go_simp; try with_reducible rfl)); simp only [Act.put, Z2, Z3, Z4]
       refine wpGv (i := 10) (oi := ⟨some 27, _, _, _, _, _⟩) (v := ?_) rfl ?_ ?_; rotate_left; (focus (intro w9 hSw; have x1 : IntKind.i64.wrap ((k : Int) - 1) = (k : Int) - 1 := IntWalk.i64_in _ (by omega); go_simp; try with_reducible rfl)); simp only [Act.put, Z2, Z3, Z4]
       refine wpGv (i := 11) (oi := ⟨some 28, _, _, _, _, _⟩) (v := ?_) rfl ?_ ?_; rotate_left; (focus (intro w9 hSw; have q0 := IXY.out w9; go_simp; try with_reducible rfl)); simp only [Act.put, Z2, Z3, Z4]
       refine wpGv (i := 12) (oi := ⟨some 29, _, _, _, _, _⟩) (v := ?_) rfl ?_ ?_; rotate_left; (focus (intro w9 hSw; go_simp; try with_reducible rfl)); simp only [Act.put, Z2, Z3, Z4]
       refine wpGv (i := 13) (oi := ⟨some 30, _, _, _, _, _⟩) (v := (.agg (bvals y.R.z))) rfl ?_ ?_; (focus (intro w9 hSw; exact exec_load_by 44 _ rfl ⟨b0, oy, none⟩ rfl (Y2.out.same (hSw.block b0 hb02)).load_id)); simp only [Act.put, Z2, Z3, Z4]
       refine wpGv (i := 14) (oi := ⟨some 31, _, _, _, _, _⟩) (v := ?_) rfl ?_ ?_; rotate_left; (focus (intro w9 hSw; go_simp; try with_reducible rfl)); simp only [Act.put, Z2, Z3, Z4]
       refine wpGv (i := 15) (oi := ⟨some 32, _, _, _, _, _⟩) (v := (.agg (bvals x.R.z))) rfl ?_ ?_; (focus (intro w9 hSw; exact exec_load_by 44 _ rfl ⟨wr.heap.size, 0, none⟩ rfl (X2.out.below hSw X2.out.lt).load_id)); simp only [Act.put, Z2, Z3, Z4]
       refine wpG_take (i := 16) (oi := ⟨some 33, _, _, _, _, _⟩) rfl (by kernel_rfl) (by kernel_rfl) (by kernel_rfl) (Or.inl ⟨by rfl, unib_call_if ?_ HL.out⟩) ?_; (focus (intro w9 hSw; go_simp; try with_reducible rfl)); simp only [Act.put, Z2, Z3, Z4]
       refine wpGv (i := 17) (oi := ⟨some 34, _, _, _, _, _⟩) (v := ?_) rfl ?_ ?_; rotate_left; (focus (intro w9 hSw; go_simp; try with_reducible rfl)); simp only [Act.put, Z2, Z3, Z4]
       refine wpGv (i := 18) (oi := ⟨some 35, _, _, _, _, _⟩) (v := ?_) rfl ?_ ?_; rotate_left; (focus (intro w9 hSw; go_simp; try with_reducible rfl)); simp only [Act.put, Z2, Z3, Z4]
       refine wpGv (i := 19) (oi := ⟨some 36, _, _, _, _, _⟩) (v := ?_) rfl ?_ ?_; rotate_left; (focus (intro w9 hSw; go_simp; try with_reducible rfl)); simp only [Act.put, Z2, Z3, Z4]
       refine wpG_done (by kernel_rfl) ?_ _
       intro w9 hSw _
       have B9 := Lib.hid (HB2.out.trans (hSw.mono HB2.out.size))
       have BO9 := Lib.hid (B2.out.below hSw B2.out.lt)
       clear hSw
       go_wp2
       go_ret
       exact ⟨by rw [HF.out]; rfl, B9.out⟩
      ·rw [hl] at hf
       simp only [Bool.true_and] at hf
       have HF := Lib.hid hf
       have HLS := Lib.hid hl
       clear hf hl
       go_wp2_with (first | ((with_reducible refine wpList_load_by (o := ⟨some 16, .load 73 (.tmp 15), _, _, _, _⟩) ?e1 73 (.tmp 15) ?e2 ⟨b0, ox, none⟩ ?e3 _ LX.out ?_); (case e1 => rfl); (case e2 => rfl); (case e3 => rfl)) | ((with_reducible refine wpList_store_newx (o := ⟨none, .store 73 (.tmp 4) (.tmp 16), _, _, _, _⟩) (w := wr) ?e1 (.tmp 4) (.tmp 16) ?e2 wr.heap.size ?e0 ?e3 x ?e4 HZ16.out ?_); (case e1 => rfl); (case e2 => rfl); (case e0 => rfl); (case e3 => rfl); (case e4 => rfl); intro w2 hb2 hx2 hs2; have X2 := Lib.hid hx2; have HS2 := Lib.hid hs2; have HW2 := Lib.hid hb2; have HB2 := Lib.hid (HBS.out.2.trans (hb2.mono HBS.out.2.size)); have B2 := Lib.hid (HBS.out.1.below hb2 HBS.out.1.lt); have HM := Lib.hid (fun (w9 : World) (hS : Below w2.heap.size w2 w9) => xmay_any x w9 ((HXV.out.below hb2 (Nat.le_refl _)).below hS (Nat.le_refl _))); rw [HMY.out] at HM; have Y2 := Lib.hid (HYA.out.same (hb2.block b0 hb02)); have HL := Lib.hid (fun (w9 : World) (hS : Below w2.heap.size w2 w9) => bless_any y.R.z x.R.z w9 HYV.out.1.2 HXV.out.1.2 HYV.out.len HXV.out.len); rw [HLS.out] at HL; have hb02 := Nat.lt_of_lt_of_le hb02 hb2.size; clear hb2 hx2 hs2))
       refine wp_region_G _ (by kernel_rfl) ?_
       refine wpGv (i := 0) (oi := ⟨some 17, _, _, _, _, _⟩) (v := (.agg x.cells)) rfl ?_ ?_; (focus (intro w9 hSw; exact exec_load_by 73 _ rfl ⟨wr.heap.size, 0, none⟩ rfl (X2.out.below hSw X2.out.lt).load)); simp only [Act.put, Z2, Z3, Z4]
       refine wpG_take (i := 1) (oi := ⟨some 18, _, _, _, _, _⟩) rfl (by kernel_rfl) (by kernel_rfl) (by kernel_rfl) (Or.inl ⟨by rfl, unib_call_if ?_ HM.out⟩) ?_; (focus (intro w9 hSw; go_simp; try with_reducible rfl)); simp only [Act.put, Z2, Z3, Z4]
       refine wpGv (i := 2) (oi := ⟨some 19, _, _, _, _, _⟩) (v := ?_) rfl ?_ ?_; rotate_left; (focus (intro w9 hSw; go_simp; try with_reducible rfl)); simp only [Act.put, Z2, Z3, Z4]
       refine wpGv (i := 3) (oi := ⟨some 20, _, _, _, _, _⟩) (v := ?_) rfl ?_ ?_; rotate_left; (focus (intro w9 hSw; go_simp; try with_reducible rfl)); simp only [Act.put, Z2, Z3, Z4]
       refine wpGv (i := 4) (oi := ⟨some 21, _, _, _, _, _⟩) (v := ?_) rfl ?_ ?_; rotate_left; (focus (intro w9 hSw; go_simp; try with_reducible rfl)); simp only [Act.put, Z2, Z3, Z4]
       refine wpGv (i := 5) (oi := ⟨some 22, _, _, _, _, _⟩) (v := (.bool true)) rfl ?_ ?_; (focus (intro w9 hSw; have q0 := decide_eq_true (show (0 : Int) < (k : Int) by omega); first | (go_simp; done) | (go_simp; omega) | (go_simp; rfl) | (simp [go_sem, execOp, q0]; done) | (simp [go_sem, execOp, q0]; rfl))); simp only [Act.put, Z2, Z3, Z4]
       refine wpGv (i := 6) (oi := ⟨some 23, _, _, _, _, _⟩) (v := ?_) rfl ?_ ?_; rotate_left; (focus (intro w9 hSw; go_simp; try with_reducible rfl)); simp only [Act.put, Z2, Z3, Z4]
       refine wpGv (i := 7) (oi := ⟨some 24, _, _, _, _, _⟩) (v := ?_) rfl ?_ ?_; rotate_left; (focus (intro w9 hSw; go_simp; try with_reducible rfl)); simp only [Act.put, Z2, Z3, Z4]
       refine wpGv (i := 8) (oi := ⟨some 25, _, _, _, _, _⟩) (v := ?_) rfl ?_ ?_; rotate_left; (focus (intro w9 hSw; have q0 := (B2.out.below hSw B2.out.lt).c0; go_simp; try with_reducible rfl)); simp only [Act.put, Z2, Z3, Z4]
       refine wpGv (i := 9) (oi := ⟨some 26, _, _, _, _, _⟩) (v := ?_) rfl ?_ ?_; rotate_left; (focus (intro w9 hSw; go_simp; try with_reducible rfl)); simp only [Act.put, Z2, Z3, Z4]
       refine wpGv (i := 10) (oi := ⟨some 27, _, _, _, _, _⟩) (v := ?_) rfl ?_ ?_; rotate_left; (focus (intro w9 hSw; have x1 : IntKind.i64.wrap ((k : Int) - 1) = (k : Int) - 1 := IntWalk.i64_in _ (by omega); go_simp; try with_reducible rfl)); simp only [Act.put, Z2, Z3, Z4]
       refine wpGv (i := 11) (oi := ⟨some 28, _, _, _, _, _⟩) (v := ?_) rfl ?_ ?_; rotate_left; (focus (intro w9 hSw; have q0 := IXY.out w9; go_simp; try with_reducible rfl)); simp only [Act.put, Z2, Z3, Z4]
       refine wpGv (i := 12) (oi := ⟨some 29, _, _, _, _, _⟩) (v := ?_) rfl ?_ ?_; rotate_left; (focus (intro w9 hSw; go_simp; try with_reducible rfl)); simp only [Act.put, Z2, Z3, Z4]
       refine wpGv (i := 13) (oi := ⟨some 30, _, _, _, _, _⟩) (v := (.agg (bvals y.R.z))) rfl ?_ ?_; (focus (intro w9 hSw; exact exec_load_by 44 _ rfl ⟨b0, oy, none⟩ rfl (Y2.out.same (hSw.block b0 hb02)).load_id)); simp only [Act.put, Z2, Z3, Z4]
       refine wpGv (i := 14) (oi := ⟨some 31, _, _, _, _, _⟩) (v := ?_) rfl ?_ ?_; rotate_left; (focus (intro w9 hSw; go_simp; try with_reducible rfl)); simp only [Act.put, Z2, Z3, Z4]
       refine wpGv (i := 15) (oi := ⟨some 32, _, _, _, _, _⟩) (v := (.agg (bvals x.R.z))) rfl ?_ ?_; (focus (intro w9 hSw; exact exec_load_by 44 _ rfl ⟨wr.heap.size, 0, none⟩ rfl (X2.out.below hSw X2.out.lt).load_id)); simp only [Act.put, Z2, Z3, Z4]
       refine wpG_take (i := 16) (oi := ⟨some 33, _, _, _, _, _⟩) rfl (by kernel_rfl) (by kernel_rfl) (by kernel_rfl) (Or.inl ⟨by rfl, unib_call_if ?_ HL.out⟩) ?_; (focus (intro w9 hSw; go_simp; try with_reducible rfl)); simp only [Act.put, Z2, Z3, Z4]
       refine wpGv (i := 17) (oi := ⟨some 34, _, _, _, _, _⟩) (v := ?_) rfl ?_ ?_; rotate_left; (focus (intro w9 hSw; go_simp; try with_reducible rfl)); simp only [Act.put, Z2, Z3, Z4]
       refine wpGv (i := 18) (oi := ⟨some 35, _, _, _, _, _⟩) (v := ?_) rfl ?_ ?_; rotate_left; (focus (intro w9 hSw; go_simp; try with_reducible rfl)); simp only [Act.put, Z2, Z3, Z4]
       refine wpGv (i := 19) (oi := ⟨some 36, _, _, _, _, _⟩) (v := ?_) rfl ?_ ?_; rotate_left; (focus (intro w9 hSw; go_simp; try with_reducible rfl)); simp only [Act.put, Z2, Z3, Z4]
       refine wpG_done (by kernel_rfl) ?_ _
       intro w9 hSw _
       have B9 := Lib.hid (HB2.out.trans (hSw.mono HB2.out.size))
       have BO9 := Lib.hid (B2.out.below hSw B2.out.lt)
       clear hSw
       go_wp2
       go_roundw
       case rel => exact ⟨k + 1, by omega, by go_num, BO9.out, B9.out, by rw [HPQ.out]; exact HF.out⟩
       case measure => simp [intOf]; omega
   ·obtain rfl : k = len := by omega
    rw [List.drop_eq_nil_of_le (by rw [HLN.out]; exact Nat.le_refl _), List.map_nil, okB] at hf
    have HF := Lib.hid hf
    have HBB := Lib.hid hb
    clear hf hb hs
    go_wp2
    go_ret
    exact ⟨by rw [HF.out]; rfl, HBB.out⟩
 ·have hV2 := HV.out
  rw [decide_eq_false h10, Bool.false_and] at hV2
  have HF := Lib.hid hV2
  have t1 : 10 < (xs.length : Int) := by omega
  clear hV2
  go_enter Tryd.func23, Tryd.ntmps23
  go_wp2
  go_ret
  exact ⟨by rw [HF.out]; rfl, HB.out⟩
end
section
open Go.RowKit WM
def fenc (f : Fld) : List Int := f.no :: cenc f.c
def renc (R : Rc) : List Int := R.z ++ (enc (R.n * 8 + R.r) ++ (enc R.fs.length ++ R.fs.flatMap fenc))
def benc (X : List Rc) : List Int := enc X.length ++ X.flatMap renc
theorem okFrom_mem {n r : Int} : ∀ {fs : List Fld} {m : Int}, 0 ≤ m → okFrom n r m fs = true → ∀ f ∈ fs, 0 ≤ f.no ∧ f.no < 8 ∧ cmay f.c = true
 | [], _, _, _, f, hf => by cases hf
 | g :: fs, m, hm, h, f, hf => by
  rw [okFrom] at h
  simp only [Bool.and_eq_true, decide_eq_true_eq] at h
  rcases List.mem_cons.1 hf with rfl | hf
  ·exact ⟨by omega, h.1.1.1.2, h.1.1.2⟩
  ·exact okFrom_mem (m := g.no + 1) (by omega) h.2 f hf
theorem may_fs {R : Rc} (h : R.may = true) : may R.n R.r = true ∧ R.fs.length ≤ 8 ∧ ∀ f ∈ R.fs, 0 ≤ f.no ∧ f.no < 8 ∧ cmay f.c = true := by
 have h' := h
 unfold Rc.may rmay at h'
 simp only [Bool.and_eq_true] at h'
 exact ⟨h'.1.1, rmay_len h, okFrom_mem (Int.le_refl 0) h'.2⟩
theorem fenc_len {f : Fld} (h : cmay f.c = true) : (fenc f).length ≤ 221 ∧ 1 ≤ (fenc f).length := by
 unfold fenc
 have := cenc_len f.c (by have := (cmay_iff.1 h).2.2; omega)
 rw [List.length_cons]
 omega
theorem flat_len {α : Type} {g : α → List Int} {b : Nat} : ∀ {l : List α}, (∀ a ∈ l, (g a).length ≤ b) → (l.flatMap g).length ≤ l.length * b
 | [], _ => by simp
 | a :: l, h => by
  have h1 := h a List.mem_cons_self
  have h2 := flat_len (l := l) fun x hx => h x (List.mem_cons_of_mem _ hx)
  rw [List.flatMap_cons, List.length_append, List.length_cons, Nat.add_mul]
  omega
theorem renc_len {R : Rc} (hz : R.z.length = 16) (h : R.may = true) : (renc R).length ≤ 2000 := by
 obtain ⟨h1, h2, h3⟩ := may_fs h
 have h4 := flat_len (g := fenc) (b := 221) (l := R.fs) fun f hf => (fenc_len (h3 f hf).2.2).1
 have h5 := (enc_len (R.n * 8 + R.r)).2
 have h6 := (enc_len (R.fs.length : Int)).2
 unfold renc
 rw [List.length_append, List.length_append, List.length_append, hz]
 omega
theorem benc_len {X : List Rc} (h : bmay X = true) (hz : ∀ R ∈ X, R.z.length = 16) : (benc X).length ≤ 30000 := by
 obtain ⟨h1, h2, h3⟩ := bmay_iff.1 h
 have h4 := flat_len (g := renc) (b := 2000) (l := X) fun R hR => renc_len (hz R hR) (h2 R hR)
 have h5 := (enc_len (X.length : Int)).2
 unfold benc
 rw [List.length_append]
 omega
theorem flat_bytes {α : Type} {g : α → List Int} {l : List α} (h : ∀ a ∈ l, AllBytes (g a)) : AllBytes (l.flatMap g) := fun z hz => by
 obtain ⟨a, ha, hz⟩ := List.mem_flatMap.1 hz
 exact h a ha z hz
theorem fenc_bytes {f : Fld} (h0 : 0 ≤ f.no) (h8 : f.no < 8) : AllBytes (fenc f) := fun z hz => by
 rcases List.mem_cons.1 hz with rfl | hz
 ·omega
 ·exact cenc_bytes _ z hz
theorem renc_bytes {R : Rc} (hk : R.Ok) (h : R.may = true) : AllBytes (renc R) :=
 all_append hk.2 (all_append (enc_bytes _) (all_append (enc_bytes _) (flat_bytes fun f hf => fenc_bytes ((may_fs h).2.2 f hf).1 ((may_fs h).2.2 f hf).2.1)))
theorem benc_bytes {X : List Rc} (h : bmay X = true) (hk : ∀ R ∈ X, R.Ok) : AllBytes (benc X) :=
 all_append (enc_bytes _) (flat_bytes fun R hR => renc_bytes (hk R hR) ((bmay_iff.1 h).2.1 R hR))
theorem bk_ok {w : World} {b : Bk} (h : BkAt w b) : ∀ R ∈ b.rs, R.Ok := fun R hR => by
 obtain ⟨x, hx, rfl⟩ := List.mem_map.1 hR
 exact (h.2.2.2.2 x hx).1
end
end Go.Proofs.YtkjimhlpbgeagaaDoor
