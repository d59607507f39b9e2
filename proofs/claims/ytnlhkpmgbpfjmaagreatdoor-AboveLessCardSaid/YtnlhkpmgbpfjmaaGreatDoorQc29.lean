import Derived.Test.YtnlhkpmgbpfjmaaGreatDoorQc0
import Derived.Test.YtnlhkpmgbpfjmaaGreatDoorQc26
/-
  What the functions that a law of this layer reaches answer, part 29. Nothing that was there is written.
-/
namespace Go.Proofs.YtnlhkpmgbpfjmaaGreatDoor
set_option linter.unusedVariables false
set_option linter.unusedSimpArgs false
section
open Go.RowKit WM
set_option maxRecDepth 100000
def LineN (w : World) (V : Option LnA) (e : Ending) (w' : World) : Prop := ∃ x : LnA, e = .returned (.tuple #[KLn.v x, .bool V.isSome]) ∧ x.x = (V.getD lnA0).x ∧ x.Ok w' ∧ Below w.heap.size w w'
theorem cell_last {W : World} {g p : Nat} {pre : List Value} {v : Value} {t : TypeId} (h : W.heap[g]? = some (.cells (pre ++ [v]).toArray t)) (hp : p = pre.length) : W.cell? ⟨g, p, none⟩ = some v := by
 subst hp
 rw [cell_of_row _ _ _ _ _ _ h, List.getElem?_toArray, List.getElem?_append_right (Nat.le_refl _), Nat.sub_self]
 rfl
structure RL (w W4 : World) (g6 base : Nat) (x : LnA) (v : Value) (k : Nat) (ys : List EnA) (W : World) : Prop where
 blk : W.heap[g6]? = some (.cells (lnP x.z x.n x.r ++ [v]).toArray 63)
 own : W.ownsRow base 68 KEn.n v x.es.length ((ys ++ x.es.drop k).flatMap KEn.cs)
 ok : ∀ y ∈ ys, y.Ok W ∧ Tag 122 W y.A
 low : Below g6 W4 W
 lt : g6 < base
 le : base ≤ W.heap.size
theorem RL.below {w W4 W W' : World} {g6 base k : Nat} {x : LnA} {v : Value} {ys : List EnA} (h : RL w W4 g6 base x v k ys W) (hb : Below W.heap.size W W') : RL w W4 g6 base x v k ys W' :=
 ⟨(hb.block _ (Array.getElem?_eq_some_iff.1 h.blk).1).trans h.blk, own_below h.own hb, fun y hy => ⟨EnA.below (h.ok y hy).1 hb, (h.ok y hy).2.below hb⟩, h.low.trans (hb.mono (Nat.le_trans (Nat.le_of_lt h.lt) h.le)), h.lt, Nat.le_trans h.le hb.size⟩
theorem RL.put {w W4 W W' : World} {g6 base k n g : Nat} {x : LnA} {cap : Nat} {ys : List EnA} {q : EnA} (h : RL w W4 g6 base x (.slice (some ⟨g, 0, none⟩) n cap) k ys W) (hk : ys.length = k) (hq : q.Ok W ∧ Tag 122 W q.A)
  (ho : W'.ownsRow base 68 KEn.n (.slice (some ⟨g, 0, none⟩) n cap) x.es.length ((ys ++ q :: x.es.drop (k + 1)).flatMap KEn.cs)) (hg : W.grownBy W' (some g)) (hgt : g6 < g) : RL w W4 g6 base x (.slice (some ⟨g, 0, none⟩) n cap) (k + 1) (ys ++ [q]) W' := by
 have ht : NoT [122] W (some g) := NoT.own h.own (by decide)
 refine ⟨(hg.block _ (Array.getElem?_eq_some_iff.1 h.blk).1 (fun e => by have := Option.some.inj e; omega)).trans h.blk, by rw [List.append_assoc, List.singleton_append]; exact ho, fun y hy => ?_, h.low.grown hg (Nat.le_of_lt (Nat.lt_of_lt_of_le h.lt h.le)) (fun k e => by have := Option.some.inj e; omega), h.lt, Nat.le_trans h.le hg.size⟩
 rcases List.mem_append.1 hy with hy | hy
 ·exact EnA.kept (h.ok y hy).1 (h.ok y hy).2 hg ht
 ·rw [List.mem_singleton.1 hy]
  exact EnA.kept hq.1 hq.2 hg ht
theorem RL.start {w w3 : World} {g6 base : Nat} {x : LnA} {v : Value} (hx3 : KLn.blk 63 w3 g6 x) (ho : w3.ownsRow base 68 KEn.n v x.es.length (x.es.flatMap KEn.cs)) (hlt : g6 < base) (hle : base ≤ w3.heap.size) (hz : x.z.length = 16) : RL w (w3.setCell ⟨g6, 18, none⟩ v) g6 base x v 0 [] (w3.setCell ⟨g6, 18, none⟩ v) := by
 have hg := grownBy_setCell9 w3 g6 18 v
 refine ⟨?_, World.ownsRow.kept (by rw [List.drop_zero, List.nil_append]; exact ho) hg ?_, (fun y hy => by cases hy), Below.refl _ _, hlt, Nat.le_trans hle hg.size⟩
 ·unfold Kind.blk at hx3
  rw [ln_cs] at hx3
  rw [heap_setCell_same _ _ _ _ _ _ hx3]
  congr 2
  have h18 := lnP_len hz x.n x.r
  simp [h18]
 ·cases hob : v.ownBlock with
  | none => exact .inl rfl
  | some g => exact .inr fun e => by have := own_base ho hob; have := Option.some.inj e; omega
theorem own_cap {w : World} {base n c size : Nat} {te : TypeId} {A : Option Addr} {xs : List Value} (h : w.ownsRow base te size (.slice A n c) n xs) : n ≤ c ∧ c ≤ maxLen := by
 rcases h.2 with ⟨h1, h2⟩ | ⟨g, cap, cur, h1, _, _, h2, h3, _⟩
 ·simp only [Value.slice.injEq] at h1
  obtain ⟨_, h4, h5⟩ := h1
  subst h5
  exact ⟨by omega, by decide⟩
 ·simp only [Value.slice.injEq] at h1
  obtain ⟨_, _, h5⟩ := h1
  subst h5
  exact ⟨h2, h3⟩
set_option maxHeartbeats 16000000 in
theorem pline12_any (m : MnA) (z : List Int) (w : World) (h : m.Ok w) (hz16 : z.length = 16 ∧ AllBytes z) (hbd : ∀ x ∈ m.ls, x.es.length ≤ 1000000 ∧ ∀ e ∈ x.es, e.e.bs.length ≤ 1000000) : Calls Tryz.prog 29 #[m.v, .agg (bvals z)] w (LineN w (lineA m.ls z)) := by
 have S0 := LineS.new w m z
 obtain ⟨w1, hw1⟩ : ∃ w1, w1 = ((w.alloc (.cells m.cs.toArray 29)).alloc (.cells (bvals z) 31)).alloc (.cells (KLn.cs lnA0).toArray 63) := ⟨_, rfl⟩
 rw [← hw1] at S0
 have h1 := MnA.below h (S0.below.mono (Nat.le_refl _))
 have HB1 := Lib.hid S0.below
 have HS0 := Lib.hid S0
 have LM := Lib.hid (load_mn S0.a h1)
 have LI := Lib.hid (load_idM (Kind.at_blk S0.b) hz16.1)
 have HC := Lib.hid (plineIn_any m z w1 h1 hz16)
 unfold LinePost at HC
 have HXW := Lib.hid (fun X (hX : Below w.heap.size w X) => lineA_ok (w := X) (z := z) (MnA.below h hX).2.2)
 have HXB : Hid (((lineA m.ls z).getD lnA0).es.length ≤ 1000000 ∧ ∀ e ∈ ((lineA m.ls z).getD lnA0).es, e.e.bs.length ≤ 1000000) := Lib.hid (by
  cases hl : lineA m.ls z with
  | none => exact ⟨Nat.zero_le _, fun e he => by cases he⟩
  | some x => exact hbd x (List.mem_of_find?_eq_some hl))
 have hz := zeroLn
 rw [show KLn.v lnA0 = .agg (KLn.cs lnA0).toArray from rfl] at hz
 have hzne : ¬ (KLn.cs lnA0).toArray = #[] := by decide
 have hv : m.v = .agg m.cs.toArray := rfl
 rw [hv] at LM HC ⊢
 have HSZ1 := Lib.hid (show w1.heap.size = w.heap.size + 1 + 1 + 1 by rw [hw1]; simp [World.size_alloc])
 generalize m.cs.toArray = E at *
 unfold LineN
 generalize lineA m.ls z = V at *
 generalize hx : V.getD lnA0 = x at *
 clear S0 h1 h hz16 hbd hv hx
 subst hw1
 go_enter Tryz.func29, Tryz.ntmps29
 go_wp2_with (first | ((with_reducible refine wpList_load_at (o := ⟨some 11, .load 29 (.tmp 2), _, _, _, _⟩) ?e1 29 (.tmp 2) ?e2 ⟨w.heap.size, 0, none⟩ ?e3 _ LM.out ?_); (case e1 => rfl); (case e2 => rfl); (case e3 => rfl)) | ((with_reducible refine wpList_load_at (o := ⟨some 12, .load 31 (.tmp 3), _, _, _, _⟩) ?e1 31 (.tmp 3) ?e2 ⟨(w.heap.size + 1), 0, none⟩ ?e3 _ LI.out ?_); (case e1 => rfl); (case e2 => rfl); (case e3 => rfl)))
 refine HC.out.mono ?_
 rintro e w2 ⟨rfl, hb2⟩
 generalize ((w.alloc (.cells E 29)).alloc (.cells (bvals z) 31)).alloc (.cells (KLn.cs lnA0).toArray 63) = w1 at *
 have B2 := Lib.hid (HB1.out.trans (hb2.mono HB1.out.size))
 have RES := Lib.hid (HS0.out.go hb2).c
 have HXO := Lib.hid (HXW.out w2 B2.out)
 have G6 := Lib.hid (show w.heap.size + 1 + 1 < w2.heap.size by have := HSZ1.out; have := hb2.size; omega)
 have SZX := Lib.hid (ln_size HXO.out)
 have SQX := Lib.hid (show (KLn.cs lnA0).toArray.size = (KLn.cs x).toArray.size by rw [lnA0_size, List.size_toArray]; exact (LnA.len HXO.out).symm)
 have SOX := Lib.hid (ln_ones x)
 have hxb := Kind.blk_new (K := KLn) w2 x 63
 have hba : Below w2.heap.size w2 (w2.alloc (.cells (KLn.cs x).toArray 63)) := (Below.refl _ _).alloc (Nat.le_refl _) _
 have BA := Lib.hid hba
 have HXB3 := Lib.hid hxb
 have k18 := ln_c18 (Kind.at_blk hxb) HXO.out.1
 rw [Nat.zero_add] at k18
 have HCE := Lib.hid (eclone_any x.A _ x.c x.es _ rfl (Kind.row_below HXO.out.2.2.2.2 hba (Nat.le_refl _)) HXB.out.1)
 rw [show KLn.v x = .agg (KLn.cs x).toArray from rfl]
 have HSA := Lib.hid (World.size_alloc w2 (.cells (KLn.cs x).toArray 63))
 clear hb2 hxb hba
 go_wp2_with (first | ((with_reducible refine wpList_store_new (o := ⟨none, .store 63 (.tmp 6) (.tmp 14), _, _, _, _⟩) ?e1 63 (.tmp 6) (.tmp 14) ?e2 ?e3 (KLn.cs lnA0).toArray (KLn.cs x).toArray ?e4 SZX.out SQX.out SOX.out ?_); (case e1 => rfl); (case e2 => rfl); (case e3 => rfl); (case e4 => rfl)))
 refine HCE.out.mono ?_
 rintro e w3 ⟨v, rfl, ho3, hb3⟩
 have X3 := Lib.hid (Kind.blk_below HXB3.out hb3 (Kind.blk_lt HXB3.out))
 have g0 := ln_c18 (Kind.at_blk X3.out) HXO.out.1
 rw [Nat.zero_add] at g0
 have gf : w3.frozen? ⟨w2.heap.size, 18, none⟩ = false := frozen_of_row _ _ _ _ _ X3.out
 have HP18 := Lib.hid (lnP_len HXO.out.1 x.n x.r)
 have BG := Lib.hid (grownBy_setCell9 w3 w2.heap.size 18 v)
 have R4 := Lib.hid (RL.start (w := w) X3.out ho3 (show w2.heap.size < (w2.alloc (.cells (KLn.cs x).toArray 63)).heap.size by have := HSA.out; omega) hb3.size HXO.out.1)
 have B4 := Lib.hid (((B2.out.trans (BA.out.mono B2.out.size)).trans (hb3.mono (Nat.le_trans B2.out.size BA.out.size))).setCell (p := ⟨w2.heap.size, 18, none⟩) (B2.out.size) v)
 have BL4 := Lib.hid ((BA.out.trans (hb3.mono (by have := HSA.out; omega))).setCell (p := ⟨w2.heap.size, 18, none⟩) (Nat.le_refl _) v)
 have RES4 := Lib.hid (Kind.blk_below RES.out BL4.out G6.out)
 obtain ⟨A3, c3, hv3⟩ := own_slice ho3
 have HV3 := Lib.hid hv3
 obtain ⟨hlc, hcm⟩ := own_cap (hv3 ▸ ho3)
 simp only [maxLen] at hcm
 clear ho3 hb3 k18 hz hzne
 subst hv3
 go_wp2_with fail
 clear g0 gf BG BL4
 generalize (w3.setCell ⟨w2.heap.size, 18, none⟩ (.slice A3 x.es.length c3)) = w4 at *
 have g0 := cell_last R4.out.blk HP18.out
 go_wp2
 clear g0
 go_loopw [23] (fun i wr => ∃ (k : Nat) (ys : List EnA), k ≤ x.es.length ∧ i = .int .i64 k ∧ ys.length = k ∧ RL w w4 w2.heap.size (w2.alloc (.cells (KLn.cs x).toArray 63)).heap.size x (.slice A3 x.es.length c3) k ys wr ∧ ys.map (fun y : EnA => y.e) = (x.es.take k).map (fun y : EnA => y.e)) (fun i _ => x.es.length - (intOf i).toNat)
 case atStart => exact ⟨0, [], Nat.zero_le _, rfl, rfl, R4.out, rfl⟩
 case round =>
  obtain ⟨k, ys, hk, rfl, hke, hR, hmp⟩ := hrel
  have R := Lib.hid hR
  have HKE := Lib.hid hke
  have HMP := Lib.hid hmp
  have BWR := Lib.hid (B4.out.trans (hR.low.mono B2.out.size))
  clear hR hke hmp
  by_cases hlt : k < x.es.length
  ·have t1 : (k : Int) < (x.es.length : Int) := by omega
   have HDC := Lib.hid (drop_cons9 enA0 hlt)
   have HTK := Lib.hid (show x.es.take (k + 1) = x.es.take k ++ [x.es.getD k enA0] by
    rw [List.take_succ_eq_append_getElem hlt, List.getD_eq_getElem?_getD, List.getElem?_eq_getElem hlt]
    rfl)
   have HPO := Lib.hid (fun X (hX : Below w.heap.size w X) => show EnA.Ok X (x.es.getD k enA0) from Kind.row_ok (HXW.out X hX).2.2.2.2 hlt)
   have HPB := Lib.hid (HXB.out.2 (x.es.getD k enA0) (by rw [List.getD_eq_getElem?_getD, List.getElem?_eq_getElem hlt]; exact List.getElem_mem _))
   have HLN := Lib.hid (show ∀ X : World, Below w.heap.size w X → (∀ y ∈ ys, y.Ok X) → ∀ y ∈ ys ++ x.es.getD k enA0 :: x.es.drop (k + 1), (KEn.cs y).length = KEn.n from fun X hX hys y hy => by
    rcases List.mem_append.1 hy with hy | hy
    ·exact EnA.len (hys y hy)
    ·rw [← HDC.out] at hy
     exact EnA.len ((HXW.out X hX).2.2.2.2.2.2.2.2 y (List.mem_of_mem_drop hy)))
   generalize x.es.getD k enA0 = p at *
   have ho := R.out.own
   rw [HDC.out] at ho
   obtain ⟨g, cap, hvg, hgb, hgl, hkn, hnc, hat⟩ := own_atG HKE.out ho (HLN.out wr BWR.out fun y hy => (R.out.ok y hy).1)
   simp only [Value.slice.injEq] at hvg
   obtain ⟨rfl, _, rfl⟩ := hvg
   have HGB := Lib.hid hgb
   have HGL := Lib.hid hgl
   have IXE := Lib.hid (fun (X : World) => Kind.ix (K := KEn) (P := Tryz.prog) (b := g) (off := 0) (len := x.es.length) (cap := c3) (ts := 61) Tryz.underlying61 (fun w => sizeEn w) hlt k rfl X)
   rw [Nat.zero_add] at IXE
   have HN37 : KEn.n = 37 := rfl
   rw [HN37] at IXE hat
   have ix1 := IXE.out wr
   have LE := Lib.hid (load_en hat (HPO.out wr BWR.out))
   rw [show KEn.v p = .agg (KEn.cs p).toArray from rfl] at LE
   have SZP := Lib.hid (en_size (HPO.out wr BWR.out))
   have SQP := Lib.hid (show (KEn.cs enA0).toArray.size = (KEn.cs p).toArray.size by rw [enA0_size, List.size_toArray]; exact (EnA.len (HPO.out wr BWR.out)).symm)
   have SOP := Lib.hid (en_ones p)
   have hz := zeroEn
   rw [show KEn.v enA0 = .agg (KEn.cs enA0).toArray from rfl] at hz
   have hzne : ¬ (KEn.cs enA0).toArray = #[] := by decide
   have R5 := Lib.hid (R.out.below ((Below.refl _ _).alloc (Nat.le_refl _) (.cells (KEn.cs p).toArray 68)))
   have HBX := Lib.hid (Kind.blk_new (K := KEn) wr p 68)
   have HOW := Lib.hid (fun X (hX : Below w.heap.size w X) => ownE_any p X (HPO.out X hX) HPB.out)
   unfold OwnE at HOW
   rw [show KEn.v p = .agg (KEn.cs p).toArray from rfl] at HOW
   clear ho hgb hgl hkn hnc hat HN37
   go_wp2_with (first | ((with_reducible refine wpList_load_at (o := ⟨some 27, .load 68 (.tmp 26), _, _, _, _⟩) ?e1 68 (.tmp 26) ?e2 ⟨g, k * 37, none⟩ ?e3 _ LE.out ?_); (case e1 => rfl); (case e2 => rfl); (case e3 => rfl)) | ((with_reducible refine wpList_store_new (o := ⟨none, .store 68 (.tmp 9) (.tmp 27), _, _, _, _⟩) ?e1 68 (.tmp 9) (.tmp 27) ?e2 ?e3 (KEn.cs enA0).toArray (KEn.cs p).toArray ?e4 SZP.out SQP.out SOP.out ?_); (case e1 => rfl); (case e2 => rfl); (case e3 => rfl); (case e4 => rfl)))
   clear ix1 hz hzne
   have B5 := Lib.hid (BWR.out.alloc BWR.out.size (.cells (KEn.cs p).toArray 68))
   have HWR := Lib.hid (World.size_alloc wr (.cells (KEn.cs p).toArray 68))
   generalize hw5 : wr.alloc (.cells (KEn.cs p).toArray 68) = w5 at *
   generalize hbx : wr.heap.size = bx at *
   clear hw5 hbx
   refine wp_region_held_drew (S := fun w9 => Below w.heap.size w w9 ∧ w9.heap[w2.heap.size]? = some (.cells (lnP x.z x.n x.r ++ [Value.slice (some ⟨g, 0, none⟩) x.es.length c3]).toArray 63) ∧ KEn.blk 68 w9 bx p) (by kernel_rfl) ⟨B5.out.drew, R5.out.blk, HBX.out⟩ (fun hS => ?_)
   have R6 := Lib.hid (R5.out.below ((Below.refl w5.heap.size w5).drew))
   have S6 := Lib.hid hS
   generalize World.drew _ = X at *
   refine wpHv (i := 0) (oi := ⟨some 28, _, _, _, _, _⟩) (v := ?_) rfl ?_ hS ?_; rotate_left; (focus (intro w9 hSw; go_simp; try with_reducible rfl)); simp only [Act.put, Z2, Z3, Z4]
   refine wpHv (i := 1) (oi := ⟨some 29, _, _, _, _, _⟩) (v := ?_) rfl ?_ hS ?_; rotate_left; (focus (intro w9 hSw; have q0 := cell_last hSw.2.1 HP18.out; go_simp; try with_reducible rfl)); simp only [Act.put, Z2, Z3, Z4]
   refine wpHv (i := 2) (oi := ⟨some 30, _, _, _, _, _⟩) (v := ?_) rfl ?_ hS ?_; rotate_left; (focus (intro w9 hSw; go_simp; try with_reducible rfl)); simp only [Act.put, Z2, Z3, Z4]
   refine wpHv (i := 3) (oi := ⟨some 31, _, _, _, _, _⟩) (v := (.agg (KEn.cs p).toArray)) rfl ?_ hS ?_; (focus (intro w9 hSw; exact exec_load_at 68 _ rfl ⟨bx, 0, none⟩ rfl (load_en (Kind.at_blk hSw.2.2) (HPO.out w9 hSw.1)))); simp only [Act.put, Z2, Z3, Z4]
   refine wpAnyH_ready (rs := [4]) (by kernel_rfl) (by simp) (AllReadyH.cons (o := ⟨some 32, _, _, _, _, _⟩) rfl (fun K hK => ?_) AllReadyH.nil)
   go_simp
   refine (HOW.out X S6.out.1).mono ?_
   rintro e X1 ⟨q, rfl, hqe, hqo, hqt, hb6⟩
   have R7 := Lib.hid (R6.out.below hb6)
   have S7 := Lib.hid (And.intro (S6.out.1.trans (hb6.mono S6.out.1.size)) (And.intro R7.out.blk (Kind.blk_below S6.out.2.2 hb6 (Kind.blk_lt S6.out.2.2))))
   have HQE := Lib.hid hqe
   have HQO := Lib.hid (And.intro hqo hqt)
   clear hb6 hqe hqo hqt
   refine hK.out _ _ S7.out (fun hS => ?_)
   clear hK K
   try simp only [Act.put, Z2, Z3, Z4]
   refine wpHv (i := 5) (oi := ⟨some 33, _, _, _, _, _⟩) (v := ?_) rfl ?_ hS ?_; rotate_left; (focus (intro w9 hSw; have q0 := IXE.out w9; go_simp; try with_reducible rfl)); simp only [Act.put, Z2, Z3, Z4]
   refine wpAnyH_ready (rs := [6]) (by kernel_rfl) (by simp) (AllReadyH.cons (o := ⟨none, _, _, _, _, _⟩) rfl (fun K hK => ?_) AllReadyH.nil)
   have ho := R7.out.own
   rw [HDC.out] at ho
   obtain ⟨w8, hst, ho8, hg8⟩ := own_putG (P := Tryz.prog) (q := q) HKE.out ho (HLN.out X1 S7.out.1 fun y hy => (R7.out.ok y hy).1) (EnA.len HQO.out.1) (fun w => sizeEn w)
   have R8 := Lib.hid (R7.out.put HKE.out HQO.out ho8 hg8 (by have := HGB.out; have := R7.out.lt; omega))
   have S8 := Lib.hid (And.intro (S7.out.1.grown hg8 S7.out.1.size (fun k9 e => by have := Option.some.inj e; have := HGB.out; have := R7.out.lt; have := G6.out; omega)) (And.intro R8.out.blk ((hg8.block bx (Kind.blk_lt S7.out.2.2) (fun e => by have := Option.some.inj e; have := HGL.out; omega)).trans S7.out.2.2)))
   clear ho ho8 hg8
   refine step_store_G (o := ⟨none, _, _, _, _, _⟩) rfl 68 (.tmp 33) (.tmp 32) rfl ⟨g, k * 37, none⟩ _ rfl rfl hst ?_
   refine hK.out _ _ S8.out (fun hS => ?_)
   clear hK K hst
   try simp only [Act.put]
   refine wpAnyH_done (by kernel_rfl) ?_ _
   go_wp2
   go_roundw
   case rel => exact ⟨k + 1, ys ++ [q], by omega, by go_num, by rw [List.length_append, HKE.out]; rfl, R8.out, by rw [HTK.out, List.map_append, List.map_append, HMP.out]; simp only [List.map_cons, List.map_nil, HQE.out]⟩
   case measure => simp [intOf]; omega
  ·obtain rfl : k = x.es.length := by omega
   have t1 : ¬ (x.es.length : Int) < (x.es.length : Int) := by omega
   have ho := R.out.own
   rw [List.drop_length, List.append_nil] at ho
   have HYX := Lib.hid (show LnA.x ⟨x.z, x.n, x.r, A3, c3, ys⟩ = x.x by
    have h := HMP.out
    rw [List.take_length] at h
    unfold LnA.x
    dsimp only
    rw [h])
   have HYO := Lib.hid (show LnA.Ok wr ⟨x.z, x.n, x.r, A3, c3, ys⟩ from ⟨HXO.out.1, HXO.out.2.1, HXO.out.2.2.1, HXO.out.2.2.2.1, Kind.row_own (K := KEn) (base := (w2.alloc (.cells (KLn.cs x).toArray 63)).heap.size) (te := 68) (by rw [HKE.out]; exact ho) fun y hy => (R.out.ok y hy).1⟩)
   have HYT := Lib.hid (show LnA.T wr ⟨x.z, x.n, x.r, A3, c3, ys⟩ from ⟨Tag.own ho, fun y hy => (R.out.ok y hy).2⟩)
   have HYB := Lib.hid (show KLn.blk 63 wr w2.heap.size ⟨x.z, x.n, x.r, A3, c3, ys⟩ from by
    have h := R.out.blk
    unfold Kind.blk
    rw [ln_cs]
    dsimp only
    rw [HKE.out]
    exact h)
   generalize hy : (⟨x.z, x.n, x.r, A3, c3, ys⟩ : LnA) = y at *
   have LE := Lib.hid (load_ln (Kind.at_blk HYB.out) HYO.out)
   rw [show KLn.v y = .agg (KLn.cs y).toArray from rfl] at LE
   have NB := Lib.hid (Kind.blk_below RES4.out R.out.low G6.out)
   have SZ2 := Lib.hid (ln_size HYO.out)
   have SQ2 := Lib.hid (show (KLn.cs lnA0).toArray.size = (KLn.cs y).toArray.size by rw [lnA0_size, List.size_toArray]; exact (LnA.len HYO.out).symm)
   have SO2 := Lib.hid (ln_ones y)
   have GS := grownBy_setRow wr (w.heap.size + 1 + 1) (KLn.cs y).toArray
   have KX := Lib.hid (LnA.kept HYO.out HYT.out GS (NoT.of NB.out (by decide)))
   have XB := Lib.hid (show KLn.blk 63 (wr.setRow (w.heap.size + 1 + 1) (KLn.cs y).toArray) (w.heap.size + 1 + 1) y from setRow_heap _ _ _ _ _ _ NB.out)
   have BX := Lib.hid (below_setRow BWR.out (show w.heap.size ≤ w.heap.size + 1 + 1 by omega) (KLn.cs y).toArray)
   clear ho GS hy
   unfold Kind.blk at NB
   go_wp2_with (first | ((with_reducible refine wpList_load_at (o := ⟨some 35, .load 63 (.tmp 6), _, _, _, _⟩) ?e1 63 (.tmp 6) ?e2 ⟨w2.heap.size, 0, none⟩ ?e3 _ LE.out ?_); (case e1 => rfl); (case e2 => rfl); (case e3 => rfl)) | ((with_reducible refine wpList_store_row (o := ⟨none, .store 63 (.tmp 4) (.tmp 35), _, _, _, _⟩) ?e1 63 (.tmp 4) (.tmp 35) ?e2 (w.heap.size + 1 + 1) (KLn.cs y).toArray ?e3 ?e4 63 _ NB.out SZ2.out SQ2.out SO2.out ?_); (case e1 => rfl); (case e2 => rfl); (case e3 => rfl); (case e4 => rfl)))
   refine bodyPost_ret (v := .tuple #[KLn.v y, .bool V.isSome]) ?_ rfl ?_
   ·exact res_ln2 Tryz.results29 rfl XB.out KX.out.1
   ·exact ⟨y, rfl, HYX.out, KX.out.1, BX.out⟩
end
end Go.Proofs.YtnlhkpmgbpfjmaaGreatDoor
