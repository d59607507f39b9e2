import Derived.Test.YtnlhkpmgbpfjmaaGreatDoorQc0
import Derived.Test.YtnlhkpmgbpfjmaaGreatDoorQc12
import Derived.Test.YtnlhkpmgbpfjmaaGreatDoorQc13
/-
  What the functions that a law of this layer reaches answer, part 14. Nothing that was there is written.
-/
namespace Go.Proofs.YtnlhkpmgbpfjmaaGreatDoor
set_option linter.unusedVariables false
set_option linter.unusedSimpArgs false
section
open Go.RowKit WM
set_option maxRecDepth 20000
theorem xmay_any (x : RcA) (w : World) (h : RvAt w x) : Calls Tryz.prog 58 #[.agg x.cells] w fun e w' => e = .returned (.bool x.R.may) ∧ Below w.heap.size w w' := may_any' x.R x.A x.c w h.1 h.2
theorem xsame_any (x y : RcA) (w : World) (h : RvAt w x) (k : RvAt w y) : Calls Tryz.prog 56 #[.agg x.cells, .agg y.cells] w fun e w' => e = .returned (.bool (x.R.same y.R)) ∧ Below w.heap.size w w' :=
 same_any' x.R y.R x.A y.A x.c y.c w h.1 k.1 h.2 k.2
theorem xfind_any (x : RcA) (no : Int) (w : World) (h : RvAt w x) : Calls Tryz.prog 26 #[.agg x.cells, .int .i64 no] w fun e w' => e = .returned (.tuple #[((rfind x.R.fs no).getD cel00).v, .bool (rfind x.R.fs no).isSome]) ∧ Below w.heap.size w w' :=
 find_any' x.R x.A x.c no w h.1 h.2
theorem xjoin_any (x y : RcA) (w : World) (hlaid : Laid w) (h : RvAt w x) (k : RvAt w y) : Calls Tryz.prog 82 #[.agg x.cells, .agg y.cells] w fun e w' =>
  ∃ j : RcA, e = .returned (.tuple #[.agg j.cells, .bool (x.R.join y.R).isSome]) ∧ j.R = (x.R.join y.R).getD rc0 ∧ RvAt w' j ∧ Below w.heap.size w w' :=
 (join_any x.R y.R x.A y.A x.c y.c w hlaid h.1 k.1 h.2 k.2).mono fun e w' hp => by
  obtain ⟨A, c, he, hf, hb⟩ := hp
  exact ⟨⟨(x.R.join y.R).getD rc0, A, c⟩, he, rfl, ⟨Rc.getD_ok h.1, hf⟩, hb⟩
theorem xfew_any (x : RcA) (w : World) (h : RvAt w x) : Calls Tryz.prog 12 #[.agg x.cells] w fun e w' => e = .returned (.bool (fewR x.R.fs)) ∧ Below w.heap.size w w' := fewR_any x.R x.A x.c w h.1 h.2
def XAt (w : World) (b : Nat) (x : RcA) : Prop := x.R.z.length = 16 ∧ w.heap[b]? = some (.cells x.cells 36)
section
variable {w w' : World} {b B : Nat} {x : RcA}
theorem XAt.rc (h : XAt w b x) : RcAt w b x.R.z x.R.n x.R.r x.s := h
theorem XAt.lt (h : XAt w b x) : b < w.heap.size := h.rc.lt
theorem XAt.below (h : XAt w b x) (hb : Below B w w') (hB : b < B) : XAt w' b x := h.rc.below hb hB
theorem XAt.same (h : XAt w b x) (hb : w'.heap[b]? = w.heap[b]?) : XAt w' b x := ⟨h.1, hb.trans h.2⟩
theorem XAt.old (h : XAt w b x) (o : Obj) : XAt (w.alloc o) b x := h.rc.old o
theorem XAt.new (w : World) (hz : x.R.z.length = 16) : XAt (w.alloc (.cells x.cells 36)) w.heap.size x := ⟨hz, heap_alloc_new w _⟩
theorem XAt.rec (h : XAt w b x) : RecAt w b 0 x := RecAt.of_row h.1 h.2
theorem XAt.load (h : XAt w b x) : (loadVar 36 ⟨b, 0, none⟩).run Tryz.prog w = .ok (.agg x.cells) w := h.rec.load
theorem XAt.load_id (h : XAt w b x) : (loadVar 31 ⟨b, 0, none⟩).run Tryz.prog w = .ok (.agg (bvals x.R.z)) w := h.rec.load_id
theorem XAt.c16 (h : XAt w b x) : w.cell? ⟨b, 16, none⟩ = some (.int .i64 x.R.n) := h.rc.c16
theorem XAt.c17 (h : XAt w b x) : w.cell? ⟨b, 17, none⟩ = some (.int .i64 x.R.r) := h.rc.c17
theorem XAt.c18 (h : XAt w b x) : w.cell? ⟨b, 18, none⟩ = some (.slice x.A x.R.fs.length x.c) := h.rc.c18
theorem XAt.fz (h : XAt w b x) (j : Nat) : w.frozen? ⟨b, j, none⟩ = false := h.rc.fz j
end
theorem zrec : rcA0.cells = rcells z16 0 0 (.slice none 0 0) := rfl
theorem zeroX (w : World) : (zeroValue 36).run Tryz.prog w = .ok (.agg rcA0.cells) w := zeroRec w
theorem build0 (w : World) : (Instr.build 36 #[]).run Tryz.prog w = .ok (.agg rcA0.cells) w := build_none w
theorem x_one (x : RcA) : x.cells.all (·.oneCell') = true := rcells_one rfl
theorem x_size {x : RcA} (h : x.R.z.length = 16) : (Tryz.prog.info? 36).map (·.size) = some x.cells.size := size_rcells h _ _ _
theorem wpList_store_newx {w : World} {ops : Array Oper} {rest : List Oper} {o : Oper} {a : Act} {Q : Exit → Act → World → Prop} (hgd : o.guard = none) (p q : Operand) (hop : o.op = .store 36 p q)
  (b : Nat) (hb : b = w.heap.size) (hx : a.eval p = .pointer (some ⟨b, 0, none⟩)) (x : RcA) (hy : a.eval q = .agg x.cells) (hz : x.R.z.length = 16)
  (hK : ∀ w', Below w.heap.size w w' → XAt w' b x → w'.heap.size = w.heap.size + 1 → wpList Tryz.prog ops Q rest (a.put o.dst undef) w') : wpList Tryz.prog ops Q (o :: rest) a (w.alloc (.cells rcA0.cells 36)) := by
 subst hb
 refine wpList_store_row hgd 36 p q hop w.heap.size x.cells hx hy 36 _ (RcAt.new w z16_len 0 0 (.slice none 0 0)).hp (x_size hz) ((rcells_size z16_len _ _ _).trans (cells_len hz).symm) (x_one x) ?_
 rw [zrec, putR]
 exact hK _ ((Below.refl w.heap.size w).alloc (Nat.le_refl _) _) (XAt.new w hz) (World.size_alloc _ _)
theorem wpList_store_oldx {w : World} {ops : Array Oper} {rest : List Oper} {o : Oper} {a : Act} {Q : Exit → Act → World → Prop} (hgd : o.guard = none) (p q : Operand) (hop : o.op = .store 36 p q)
  (b : Nat) (y : RcA) (hb : XAt w b y) (hx : a.eval p = .pointer (some ⟨b, 0, none⟩)) (x : RcA) (hy : a.eval q = .agg x.cells) (hz : x.R.z.length = 16)
  (hK : ∀ w', w.grownBy w' (some b) → XAt w' b x → wpList Tryz.prog ops Q rest (a.put o.dst undef) w') : wpList Tryz.prog ops Q (o :: rest) a w := by
 refine wpList_store_row hgd 36 p q hop b x.cells hx hy 36 _ hb.2 (x_size hz) (by rw [cells_len hb.1, cells_len hz]) (x_one x) ?_
 exact hK _ (grownBy_setRow w b _) (hb.rc.putAll hz)
theorem bk_one {v : Value} (hv : v.oneCell' = true) : (#[v] : Array Value).all (·.oneCell') = true := by
 rw [Array.all_eq_true_iff_forall_mem]
 intro u hu
 rw [Array.mem_singleton.1 hu]
 exact hv
theorem wpList_store_oldb {w : World} {ops : Array Oper} {rest : List Oper} {o : Oper} {a : Act} {Q : Exit → Act → World → Prop} (hgd : o.guard = none) (p q : Operand) (hop : o.op = .store 24 p q)
  (g : Nat) (v : Value) (hb : BoAt w g v) (hx : a.eval p = .pointer (some ⟨g, 0, none⟩)) (u : Value) (hy : a.eval q = .agg #[u]) (hu : u.oneCell' = true)
  (hK : ∀ w', w.grownBy w' (some g) → BoAt w' g u → wpList Tryz.prog ops Q rest (a.put o.dst undef) w') : wpList Tryz.prog ops Q (o :: rest) a w := by
 refine wpList_store_row hgd 24 p q hop g #[u] hx hy 24 _ hb sizeBook rfl (bk_one hu) ?_
 exact hK _ (grownBy_setRow w g _) (hb.put u)
theorem FsAt.kept' {w w' : World} {A : Option Addr} {c : Nat} {fs : List Fld} {b : Nat} (h : FsAt w A c fs) (hg : w.grownBy w' (some b)) (hne : ∀ off, 0 < fs.length → A = some ⟨b, off, none⟩ → False) : FsAt w' A c fs := by
 obtain ⟨h1, h2, h3, h4⟩ := h
 refine ⟨h1, h2, h3, fun h0 => ?_⟩
 obtain ⟨b', off, rfl, hlt, hc⟩ := h4 h0
 have hn : some b' ≠ some b := fun e => hne off h0 (by rw [Option.some.inj e])
 refine ⟨b', off, rfl, Nat.lt_of_lt_of_le hlt hg.size, fun i hi => ?_⟩
 obtain ⟨c0, c1, c2, c3⟩ := hc i hi
 have hq : ∀ o, w'.cell? ⟨b', o, none⟩ = w.cell? ⟨b', o, none⟩ := fun o => by simp only [World.cell?, hg.block b' hlt hn]
 exact ⟨(hq _).trans c0, (hq _).trans c1, (hq _).trans c2, (hq _).trans c3⟩
theorem FsAt.str {w : World} {b off c : Nat} {fs : List Fld} (h : FsAt w (some ⟨b, off, none⟩) c fs) (h0 : 0 < fs.length) : ∃ s, w.cell? ⟨b, off + 3, none⟩ = some (.string s) := by
 obtain ⟨_, _, _, h4⟩ := h
 obtain ⟨b', off', he, _, hc⟩ := h4 h0
 injection he with he
 injection he with he1 he2
 subst he1 he2
 have := (hc 0 h0).2.2.2
 rw [Nat.zero_mul, Nat.add_zero] at this
 exact ⟨_, this⟩
theorem cs_nostr (x : RcA) : ∀ u ∈ x.cs, ∀ s, u ≠ .string s := by
 intro u hu s e
 subst e
 simp only [RcA.cs, RcA.cells, rcells, RcA.s, List.mem_append, List.mem_map, List.mem_cons, List.not_mem_nil, or_false] at hu
 rcases hu with ⟨x, _, hx⟩ | hx | hx | hx <;> cases hx
theorem RvAt.kept_x {w w' : World} {y x : RcA} {b : Nat} (h : RvAt w y) (hg : w.grownBy w' (some b)) (hx : XAt w b x) : RvAt w' y := ⟨h.1, h.2.kept' hg fun off h0 e => by
 have hF := h.2
 rw [e] at hF
 obtain ⟨s, hs⟩ := hF.str h0
 rw [cell_of_row _ _ _ _ _ _ hx.2] at hs
 exact cs_nostr x _ (by rw [RcA.cs]; exact List.mem_of_getElem? (by rw [Array.getElem?_toList]; exact hs)) s rfl⟩
theorem RvAt.kept_bo {w w' : World} {y : RcA} {b : Nat} {v : Value} (h : RvAt w y) (hg : w.grownBy w' (some b)) (hx : BoAt w b v) : RvAt w' y := ⟨h.1, h.2.kept' hg fun off h0 e => by
 have hF := h.2
 rw [e] at hF
 obtain ⟨s, hs⟩ := hF.str h0
 rw [cell_of_row _ _ _ _ _ _ hx] at hs
 simp at hs⟩
theorem RvAt.kept_map {w w' : World} {y : RcA} {b : Nat} {es : Array MapEntry} {cl : Nat} (h : RvAt w y) (hg : w.grownBy w' (some b)) (hx : w.heap[b]? = some (.map es cl)) : RvAt w' y := ⟨h.1, h.2.kept' hg fun off h0 e => by
 have hF := h.2
 rw [e] at hF
 obtain ⟨s, hs⟩ := hF.str h0
 simp [World.cell?, hx] at hs⟩
theorem BkAt.kept_bo {w w' : World} {d : Bk} {b : Nat} {v : Value} (h : BkAt w d) (hg : w.grownBy w' (some b)) (hx : BoAt w b v) : BkAt w' d := by
 obtain ⟨h1, h2, h3, h4, h5⟩ := h
 refine ⟨h1, h2, h3, fun h0 => ?_, fun x hxx => (h5 x hxx).kept_bo hg hx⟩
 obtain ⟨b', off, e, hlt, hc⟩ := h4 h0
 have hn : b' ≠ b := by
  rintro rfl
  have h6 := hc 0 h0
  have h7 := h6.2 1 (by omega)
  rw [cell_of_row _ _ _ _ _ _ hx, List.getElem?_eq_getElem (by rw [cs_len h6.1]; omega)] at h7
  simp at h7
 exact ⟨b', off, e, Nat.lt_of_lt_of_le hlt hg.size, fun i hi => (hc i hi).same (hg.block b' hlt (fun e => hn (Option.some.inj e)))⟩
end
section
open Go.RowKit WM
set_option maxRecDepth 100000
def prevZ (xs : List RcA) (k : Nat) : Option (List Int) := if k = 0 then none else some (xs.getD (k - 1) rcA0).R.z
theorem okB_drop {xs : List RcA} {k : Nat} (p : Option (List Int)) (hk : k < xs.length) : okB p ((xs.drop k).map (·.R)) =
  ((xs.getD k rcA0).R.may && pzok p (xs.getD k rcA0).R.z && okB (some (xs.getD k rcA0).R.z) ((xs.drop (k + 1)).map (·.R))) := by
 rw [List.drop_eq_getElem_cons hk, List.map_cons, okB]
 simp only [List.getD, List.getElem?_eq_getElem hk, Option.getD_some]
theorem prevZ_succ (xs : List RcA) (k : Nat) : prevZ xs (k + 1) = some (xs.getD k rcA0).R.z := by
 unfold prevZ
 rw [if_neg (by omega), Nat.add_sub_cancel]
set_option maxHeartbeats 8000000 in
theorem bmay_any (b : Bk) (w : World) (h : BkAt w b) :
  Calls Tryz.prog 27 #[.agg #[.slice b.A b.xs.length b.c]] w fun e w' => e = .returned (.bool (bmay b.rs)) ∧ Below w.heap.size w w' := by
 obtain ⟨xs, A, c⟩ := b
 dsimp only
 have S0 := Lib.hid (BoAt.new w (.slice A xs.length c))
 have HB := Lib.hid ((Below.refl w.heap.size w).alloc (Nat.le_refl _) (.cells #[.slice A xs.length c] 24))
 have s0 := S0.out.c0
 have HRV := Lib.hid (fun i (hi : i < xs.length) => RsAt.rv h hi)
 obtain ⟨hc1, hc2, hc3, hcell, _⟩ := h
 dsimp only at hc1 hc2 hc3 hcell HRV
 simp only [maxLen] at hc2
 have HC := Lib.hid hcell
 have HV : Hid (bmay (Bk.rs ⟨xs, A, c⟩) = (decide (xs.length ≤ 10) && okB (prevZ xs 0) ((xs.drop 0).map (·.R)))) := Lib.hid (by unfold bmay Bk.rs; rw [List.length_map]; rfl)
 clear hcell
 have hz := zeroX
 generalize bmay (Bk.rs ⟨xs, A, c⟩) = V at HV ⊢
 by_cases h10 : xs.length ≤ 10
 ·have hV2 := HV.out
  rw [decide_eq_true h10, Bool.true_and] at hV2
  have HV2 := Lib.hid hV2
  generalize hlen : xs.length = len at *
  have HLN := Lib.hid hlen
  have t1 : ¬ 10 < (len : Int) := by omega
  clear hV2 hlen
  go_enter Tryz.func27, Tryz.ntmps27
  go_wp2
  clear s0
  go_loopw [12] (fun i wr => ∃ k : Nat, k ≤ len ∧ i = .int .i64 k ∧ BoAt wr w.heap.size (.slice A len c) ∧ Below w.heap.size w wr ∧ V = okB (prevZ xs k) ((xs.drop k).map (·.R))) (fun i _ => len - (intOf i).toNat)
  case atStart => exact ⟨0, Nat.zero_le _, rfl, S0.out, HB.out, HV2.out⟩
  case round =>
   obtain ⟨k, hk, rfl, hs, hb, hf⟩ := hrel
   by_cases hlt : k < len
   ·obtain ⟨b0, off, rfl, hb0, hcc⟩ := HC.out (by omega)
    have hx := (hcc k hlt).same (hb.block b0 hb0)
    have IX := ix_rec b0 off len c k hlt k rfl
    have HXV := Lib.hid ((HRV.out k hlt).below hb (Nat.le_refl _))
    rw [okB_drop _ (by rw [HLN.out]; exact hlt), ← prevZ_succ] at hf
    have HZ16 := Lib.hid HXV.out.len
    have HBS := Lib.hid (And.intro hs hb)
    have hb02 := Nat.lt_of_lt_of_le hb0 hb.size
    have LX := Lib.hid hx.load
    have HPZ := Lib.hid (show prevZ xs (k + 1) = some (xs.getD k rcA0).R.z from prevZ_succ _ _)
    have HY : Hid (0 < k → ∃ y : RcA, prevZ xs k = some y.R.z ∧ RvAt wr y ∧ RecAt wr b0 (off + (k - 1) * 19) y) := Lib.hid (fun h0 => ⟨xs.getD (k - 1) rcA0, by unfold prevZ; rw [if_neg (by omega)], (HRV.out (k - 1) (by omega)).below hb (Nat.le_refl _), (hcc (k - 1) (by omega)).same (hb.block b0 hb0)⟩)
    generalize xs.getD k rcA0 = x at *
    generalize hpzq : prevZ xs (k + 1) = pz at *
    have HPQ := Lib.hid hpzq
    generalize hox : off + k * 19 = ox at *
    clear hcc hs hb hx hox hpzq
    have hS3 := HBS.out.1.c0
    cases hm : x.R.may
    ·rw [hm] at hf
     simp only [Bool.false_and] at hf
     have HF := Lib.hid hf
     have HMY := Lib.hid hm
     clear hf hm
     go_wp2_with (first | ((with_reducible refine wpList_load_by (o := ⟨some 16, .load 36 (.tmp 15), _, _, _, _⟩) ?e1 36 (.tmp 15) ?e2 ⟨b0, ox, none⟩ ?e3 _ LX.out ?_); (case e1 => rfl); (case e2 => rfl); (case e3 => rfl)) | ((with_reducible refine wpList_store_newx (o := ⟨none, .store 36 (.tmp 4) (.tmp 16), _, _, _, _⟩) (w := wr) ?e1 (.tmp 4) (.tmp 16) ?e2 wr.heap.size ?e0 ?e3 x ?e4 HZ16.out ?_); (case e1 => rfl); (case e2 => rfl); (case e0 => rfl); (case e3 => rfl); (case e4 => rfl); intro w2 hb2 hx2 hs2; have X2 := Lib.hid hx2; have HS2 := Lib.hid hs2; have HW2 := Lib.hid hb2; have HB2 := Lib.hid (HBS.out.2.trans (hb2.mono HBS.out.2.size)); have B2 := Lib.hid (HBS.out.1.below hb2 HBS.out.1.lt); have HM := Lib.hid (fun (w9 : World) (hS : Below w2.heap.size w2 w9) => xmay_any x w9 ((HXV.out.below hb2 (Nat.le_refl _)).below hS (Nat.le_refl _))); rw [HMY.out] at HM; clear hb2 hx2 hs2))
     refine wp_region_G _ (by kernel_rfl) ?_
     refine wpGv (i := 0) (oi := ⟨some 17, _, _, _, _, _⟩) (v := (.agg x.cells)) rfl ?_ ?_; (focus (intro w9 hSw; exact exec_load_by 36 _ rfl ⟨wr.heap.size, 0, none⟩ rfl (X2.out.below hSw X2.out.lt).load)); simp only [Act.put, Z2, Z3, Z4]
     refine wpG_take (i := 1) (oi := ⟨some 18, _, _, _, _, _⟩) rfl (by kernel_rfl) (by kernel_rfl) (by kernel_rfl) (Or.inl ⟨by rfl, unib_call_if ?_ HM.out⟩) ?_; (focus (intro w9 hSw; go_simp; try with_reducible rfl)); simp only [Act.put, Z2, Z3, Z4]
     refine wpGv (i := 2) (oi := ⟨some 19, _, _, _, _, _⟩) (v := ?_) rfl ?_ ?_; rotate_left; (focus (intro w9 hSw; go_simp; try with_reducible rfl)); simp only [Act.put, Z2, Z3, Z4]
     refine wpGv (i := 3) (oi := ⟨some 20, _, _, _, _, _⟩) (v := ?_) rfl ?_ ?_; rotate_left; (focus (intro w9 hSw; go_simp; try with_reducible rfl)); simp only [Act.put, Z2, Z3, Z4]
     refine wpGo (i := 4) (oi := ⟨some 21, _, _, _, _, _⟩) rfl ?_; simp only [Act.put, Z2, Z3, Z4]
     refine wpGo (i := 5) (oi := ⟨some 22, _, _, _, _, _⟩) rfl ?_; simp only [Act.put, Z2, Z3, Z4]
     refine wpGo (i := 6) (oi := ⟨some 23, _, _, _, _, _⟩) rfl ?_; simp only [Act.put, Z2, Z3, Z4]
     refine wpGo (i := 7) (oi := ⟨some 24, _, _, _, _, _⟩) rfl ?_; simp only [Act.put, Z2, Z3, Z4]
     refine wpGo (i := 8) (oi := ⟨some 25, _, _, _, _, _⟩) rfl ?_; simp only [Act.put, Z2, Z3, Z4]
     refine wpGo (i := 9) (oi := ⟨some 26, _, _, _, _, _⟩) rfl ?_; simp only [Act.put, Z2, Z3, Z4]
     refine wpGo (i := 10) (oi := ⟨some 27, _, _, _, _, _⟩) rfl ?_; simp only [Act.put, Z2, Z3, Z4]
     refine wpGo (i := 11) (oi := ⟨some 28, _, _, _, _, _⟩) rfl ?_; simp only [Act.put, Z2, Z3, Z4]
     refine wpGo (i := 12) (oi := ⟨some 29, _, _, _, _, _⟩) rfl ?_; simp only [Act.put, Z2, Z3, Z4]
     refine wpGo (i := 13) (oi := ⟨some 30, _, _, _, _, _⟩) rfl ?_; simp only [Act.put, Z2, Z3, Z4]
     refine wpGo (i := 14) (oi := ⟨some 31, _, _, _, _, _⟩) rfl ?_; simp only [Act.put, Z2, Z3, Z4]
     refine wpGo (i := 15) (oi := ⟨some 32, _, _, _, _, _⟩) rfl ?_; simp only [Act.put, Z2, Z3, Z4]
     refine wpGo (i := 16) (oi := ⟨some 33, _, _, _, _, _⟩) rfl ?_; simp only [Act.put, Z2, Z3, Z4]
     refine wpGo (i := 17) (oi := ⟨some 34, _, _, _, _, _⟩) rfl ?_; simp only [Act.put, Z2, Z3, Z4]
     refine wpGo (i := 18) (oi := ⟨some 35, _, _, _, _, _⟩) rfl ?_; simp only [Act.put, Z2, Z3, Z4]
     refine wpGv (i := 19) (oi := ⟨some 36, _, _, _, _, _⟩) (v := ?_) rfl ?_ ?_; rotate_left; (focus (intro w9 hSw; go_simp; try with_reducible rfl)); simp only [Act.put, Z2, Z3, Z4]
     refine wpG_done (by kernel_rfl) ?_ _
     intro w9 hSw _
     have B9 := Lib.hid (HB2.out.trans (hSw.mono HB2.out.size))
     have BO9 := Lib.hid (B2.out.below hSw B2.out.lt)
     clear hSw
     go_wp2
     go_ret
     exact ⟨by rw [HF.out]; rfl, B9.out⟩
    ·rw [hm] at hf
     simp only [Bool.true_and] at hf
     have HMY := Lib.hid hm
     clear hm
     by_cases h0 : k = 0
     ·have HF := Lib.hid (show V = okB pz ((xs.drop (k + 1)).map (·.R)) by rw [hf, prevZ, if_pos h0]; rfl)
      have t3 : ¬ (0 : Int) < (k : Int) := by omega
      clear hf h0
      go_wp2_with (first | ((with_reducible refine wpList_load_by (o := ⟨some 16, .load 36 (.tmp 15), _, _, _, _⟩) ?e1 36 (.tmp 15) ?e2 ⟨b0, ox, none⟩ ?e3 _ LX.out ?_); (case e1 => rfl); (case e2 => rfl); (case e3 => rfl)) | ((with_reducible refine wpList_store_newx (o := ⟨none, .store 36 (.tmp 4) (.tmp 16), _, _, _, _⟩) (w := wr) ?e1 (.tmp 4) (.tmp 16) ?e2 wr.heap.size ?e0 ?e3 x ?e4 HZ16.out ?_); (case e1 => rfl); (case e2 => rfl); (case e0 => rfl); (case e3 => rfl); (case e4 => rfl); intro w2 hb2 hx2 hs2; have X2 := Lib.hid hx2; have HS2 := Lib.hid hs2; have HW2 := Lib.hid hb2; have HB2 := Lib.hid (HBS.out.2.trans (hb2.mono HBS.out.2.size)); have B2 := Lib.hid (HBS.out.1.below hb2 HBS.out.1.lt); have HM := Lib.hid (fun (w9 : World) (hS : Below w2.heap.size w2 w9) => xmay_any x w9 ((HXV.out.below hb2 (Nat.le_refl _)).below hS (Nat.le_refl _))); rw [HMY.out] at HM; clear hb2 hx2 hs2))
      refine wp_region_G _ (by kernel_rfl) ?_
      refine wpGv (i := 0) (oi := ⟨some 17, _, _, _, _, _⟩) (v := (.agg x.cells)) rfl ?_ ?_; (focus (intro w9 hSw; exact exec_load_by 36 _ rfl ⟨wr.heap.size, 0, none⟩ rfl (X2.out.below hSw X2.out.lt).load)); simp only [Act.put, Z2, Z3, Z4]
      refine wpG_take (i := 1) (oi := ⟨some 18, _, _, _, _, _⟩) rfl (by kernel_rfl) (by kernel_rfl) (by kernel_rfl) (Or.inl ⟨by rfl, unib_call_if ?_ HM.out⟩) ?_; (focus (intro w9 hSw; go_simp; try with_reducible rfl)); simp only [Act.put, Z2, Z3, Z4]
      refine wpGv (i := 2) (oi := ⟨some 19, _, _, _, _, _⟩) (v := ?_) rfl ?_ ?_; rotate_left; (focus (intro w9 hSw; go_simp; try with_reducible rfl)); simp only [Act.put, Z2, Z3, Z4]
      refine wpGv (i := 3) (oi := ⟨some 20, _, _, _, _, _⟩) (v := ?_) rfl ?_ ?_; rotate_left; (focus (intro w9 hSw; go_simp; try with_reducible rfl)); simp only [Act.put, Z2, Z3, Z4]
      refine wpGv (i := 4) (oi := ⟨some 21, _, _, _, _, _⟩) (v := ?_) rfl ?_ ?_; rotate_left; (focus (intro w9 hSw; go_simp; try with_reducible rfl)); simp only [Act.put, Z2, Z3, Z4]
      refine wpGv (i := 5) (oi := ⟨some 22, _, _, _, _, _⟩) (v := (.bool false)) rfl ?_ ?_; (focus (intro w9 hSw; have q0 := decide_eq_false (show ¬ (0 : Int) < (k : Int) by omega); first | (go_simp; done) | (go_simp; omega) | (go_simp; rfl) | (simp [go_sem, execOp, q0]; done) | (simp [go_sem, execOp, q0]; rfl))); simp only [Act.put, Z2, Z3, Z4]
      refine wpGv (i := 6) (oi := ⟨some 23, _, _, _, _, _⟩) (v := ?_) rfl ?_ ?_; rotate_left; (focus (intro w9 hSw; go_simp; try with_reducible rfl)); simp only [Act.put, Z2, Z3, Z4]
      refine wpGo (i := 7) (oi := ⟨some 24, _, _, _, _, _⟩) rfl ?_; simp only [Act.put, Z2, Z3, Z4]
      refine wpGo (i := 8) (oi := ⟨some 25, _, _, _, _, _⟩) rfl ?_; simp only [Act.put, Z2, Z3, Z4]
      refine wpGo (i := 9) (oi := ⟨some 26, _, _, _, _, _⟩) rfl ?_; simp only [Act.put, Z2, Z3, Z4]
      refine wpGo (i := 10) (oi := ⟨some 27, _, _, _, _, _⟩) rfl ?_; simp only [Act.put, Z2, Z3, Z4]
      refine wpGo (i := 11) (oi := ⟨some 28, _, _, _, _, _⟩) rfl ?_; simp only [Act.put, Z2, Z3, Z4]
      refine wpGo (i := 12) (oi := ⟨some 29, _, _, _, _, _⟩) rfl ?_; simp only [Act.put, Z2, Z3, Z4]
      refine wpGo (i := 13) (oi := ⟨some 30, _, _, _, _, _⟩) rfl ?_; simp only [Act.put, Z2, Z3, Z4]
      refine wpGo (i := 14) (oi := ⟨some 31, _, _, _, _, _⟩) rfl ?_; simp only [Act.put, Z2, Z3, Z4]
      refine wpGo (i := 15) (oi := ⟨some 32, _, _, _, _, _⟩) rfl ?_; simp only [Act.put, Z2, Z3, Z4]
      refine wpGo (i := 16) (oi := ⟨some 33, _, _, _, _, _⟩) rfl ?_; simp only [Act.put, Z2, Z3, Z4]
      refine wpGo (i := 17) (oi := ⟨some 34, _, _, _, _, _⟩) rfl ?_; simp only [Act.put, Z2, Z3, Z4]
      refine wpGv (i := 18) (oi := ⟨some 35, _, _, _, _, _⟩) (v := ?_) rfl ?_ ?_; rotate_left; (focus (intro w9 hSw; go_simp; try with_reducible rfl)); simp only [Act.put, Z2, Z3, Z4]
      refine wpGv (i := 19) (oi := ⟨some 36, _, _, _, _, _⟩) (v := ?_) rfl ?_ ?_; rotate_left; (focus (intro w9 hSw; go_simp; try with_reducible rfl)); simp only [Act.put, Z2, Z3, Z4]
      refine wpG_done (by kernel_rfl) ?_ _
      intro w9 hSw _
      have B9 := Lib.hid (HB2.out.trans (hSw.mono HB2.out.size))
      have BO9 := Lib.hid (B2.out.below hSw B2.out.lt)
      clear hSw
      go_wp2
      go_roundw
      case rel => exact ⟨k + 1, by omega, by go_num, BO9.out, B9.out, by rw [HPQ.out]; exact HF.out⟩
      case measure => simp [intOf]; omega
     ·obtain ⟨y, hpy, hyv, hya⟩ := HY.out (by omega)
      rw [hpy, pzok] at hf
      have t3 : (0 : Int) < (k : Int) := by omega
      have IXY := Lib.hid (fun w9 => ix_rec b0 off len c (k - 1) (by omega) ((k : Int) - 1) (by omega) w9)
      have HYV := Lib.hid hyv
      generalize hoy : off + (k - 1) * 19 = oy at *
      have HYA := Lib.hid hya
      clear hoy hyv hya hpy
      cases hl : lessL y.R.z x.R.z
      ·rw [hl] at hf
       simp only [Bool.false_and] at hf
       have HF := Lib.hid hf
       have HLS := Lib.hid hl
       clear hf hl
       go_wp2_with (first | ((with_reducible refine wpList_load_by (o := ⟨some 16, .load 36 (.tmp 15), _, _, _, _⟩) ?e1 36 (.tmp 15) ?e2 ⟨b0, ox, none⟩ ?e3 _ LX.out ?_); (case e1 => rfl); (case e2 => rfl); (case e3 => rfl)) | ((with_reducible refine wpList_store_newx (o := ⟨none, .store 36 (.tmp 4) (.tmp 16), _, _, _, _⟩) (w := wr) ?e1 (.tmp 4) (.tmp 16) ?e2 wr.heap.size ?e0 ?e3 x ?e4 HZ16.out ?_); (case e1 => rfl); (case e2 => rfl); (case e0 => rfl); (case e3 => rfl); (case e4 => rfl); intro w2 hb2 hx2 hs2; have X2 := Lib.hid hx2; have HS2 := Lib.hid hs2; have HW2 := Lib.hid hb2; have HB2 := Lib.hid (HBS.out.2.trans (hb2.mono HBS.out.2.size)); have B2 := Lib.hid (HBS.out.1.below hb2 HBS.out.1.lt); have HM := Lib.hid (fun (w9 : World) (hS : Below w2.heap.size w2 w9) => xmay_any x w9 ((HXV.out.below hb2 (Nat.le_refl _)).below hS (Nat.le_refl _))); rw [HMY.out] at HM; have Y2 := Lib.hid (HYA.out.same (hb2.block b0 hb02)); have HL := Lib.hid (fun (w9 : World) (hS : Below w2.heap.size w2 w9) => bless_any y.R.z x.R.z w9 HYV.out.1.2 HXV.out.1.2 HYV.out.len HXV.out.len); rw [HLS.out] at HL; have hb02 := Nat.lt_of_lt_of_le hb02 hb2.size; clear hb2 hx2 hs2))
       refine wp_region_G _ (by kernel_rfl) ?_
       refine wpGv (i := 0) (oi := ⟨some 17, _, _, _, _, _⟩) (v := (.agg x.cells)) rfl ?_ ?_; (focus (intro w9 hSw; exact exec_load_by 36 _ rfl ⟨wr.heap.size, 0, none⟩ rfl (X2.out.below hSw X2.out.lt).load)); simp only [Act.put, Z2, Z3, Z4]
       refine wpG_take (i := 1) (oi := ⟨some 18, _, _, _, _, _⟩) rfl (by kernel_rfl) (by kernel_rfl) (by kernel_rfl) (Or.inl ⟨by rfl, unib_call_if ?_ HM.out⟩) ?_; (focus (intro w9 hSw; go_simp; try with_reducible rfl)); simp only [Act.put, Z2, Z3, Z4]
       refine wpGv (i := 2) (oi := ⟨some 19, _, _, _, _, _⟩) (v := ?_) rfl ?_ ?_; rotate_left; (focus (intro w9 hSw; go_simp; try with_reducible rfl)); simp only [Act.put, Z2, Z3, Z4]
       refine wpGv (i := 3) (oi := ⟨some 20, _, _, _, _, _⟩) (v := ?_) rfl ?_ ?_; rotate_left; (focus (intro w9 hSw; go_simp; try with_reducible rfl)); simp only [Act.put, Z2, Z3, Z4]
       refine wpGv (i := 4) (oi := ⟨some 21, _, _, _, _, _⟩) (v := ?_) rfl ?_ ?_; rotate_left; (focus (intro w9 hSw; go_simp; try with_reducible rfl)); simp only [Act.put, Z2, Z3, Z4]
       refine wpGv (i := 5) (oi := ⟨some 22, _, _, _, _, _⟩) (v := (.bool true)) rfl ?_ ?_; (focus (intro w9 hSw; have q0 := decide_eq_true (show (0 : Int) < (k : Int) by omega); first | (go_simp; done) | (go_simp; omega) | (go_simp; rfl) | (simp [go_sem, execOp, q0]; done) | (simp [go_sem, execOp, q0]; rfl))); simp only [Act.put, Z2, Z3, Z4]
       refine wpGv (i := 6) (oi := ⟨some 23, _, _, _, _, _⟩) (v := ?_) rfl ?_ ?_; rotate_left; (focus (intro w9 hSw; go_simp; try with_reducible rfl)); simp only [Act.put, Z2, Z3, Z4]
       refine wpGv (i := 7) (oi := ⟨some 24, _, _, _, _, _⟩) (v := ?_) rfl ?_ ?_; rotate_left; (focus (intro w9 hSw; go_simp; try with_reducible rfl)); simp only [Act.put, Z2, Z3, Z4]
       refine wpGv (i := 8) (oi := ⟨some 25, _, _, _, _, _⟩) (v := ?_) rfl ?_ ?_; rotate_left; (focus (intro w9 hSw; have q0 := (B2.out.below hSw B2.out.lt).c0; go_simp; try with_reducible rfl)); simp only [Act.put, Z2, Z3, Z4]
       refine wpGv (i := 9) (oi := ⟨some 26, _, _, _, _, _⟩) (v := ?_) rfl ?_ ?_; rotate_left; (focus (intro w9 hSw; go_simp; try with_reducible rfl)); simp only [Act.put, Z2, Z3, Z4]
       refine wpGv (i := 10) (oi := ⟨some 27, _, _, _, _, _⟩) (v := ?_) rfl ?_ ?_; rotate_left; (focus (intro w9 hSw; have x1 : IntKind.i64.wrap ((k : Int) - 1) = (k : Int) - 1 := IntWalk.i64_in _ (by omega); go_simp; try with_reducible rfl)); simp only [Act.put, Z2, Z3, Z4]
       refine wpGv (i := 11) (oi := ⟨some 28, _, _, _, _, _⟩) (v := ?_) rfl ?_ ?_; rotate_left; (focus (intro w9 hSw; have q0 := IXY.out w9; go_simp; try with_reducible rfl)); simp only [Act.put, Z2, Z3, Z4]
       refine wpGv (i := 12) (oi := ⟨some 29, _, _, _, _, _⟩) (v := ?_) rfl ?_ ?_; rotate_left; (focus (intro w9 hSw; go_simp; try with_reducible rfl)); simp only [Act.put, Z2, Z3, Z4]
       refine wpGv (i := 13) (oi := ⟨some 30, _, _, _, _, _⟩) (v := (.agg (bvals y.R.z))) rfl ?_ ?_; (focus (intro w9 hSw; exact exec_load_by 31 _ rfl ⟨b0, oy, none⟩ rfl (Y2.out.same (hSw.block b0 hb02)).load_id)); simp only [Act.put, Z2, Z3, Z4]
       refine wpGv (i := 14) (oi := ⟨some 31, _, _, _, _, _⟩) (v := ?_) rfl ?_ ?_; rotate_left; (focus (intro w9 hSw; go_simp; try with_reducible rfl)); simp only [Act.put, Z2, Z3, Z4]
       refine wpGv (i := 15) (oi := ⟨some 32, _, _, _, _, _⟩) (v := (.agg (bvals x.R.z))) rfl ?_ ?_; (focus (intro w9 hSw; exact exec_load_by 31 _ rfl ⟨wr.heap.size, 0, none⟩ rfl (X2.out.below hSw X2.out.lt).load_id)); simp only [Act.put, Z2, Z3, Z4]
       refine wpG_take (i := 16) (oi := ⟨some 33, _, _, _, _, _⟩) rfl (by kernel_rfl) (by kernel_rfl) (by kernel_rfl) (Or.inl ⟨by rfl, unib_call_if ?_ HL.out⟩) ?_; (focus (intro w9 hSw; go_simp; try with_reducible rfl)); simp only [Act.put, Z2, Z3, Z4]
       refine wpGv (i := 17) (oi := ⟨some 34, _, _, _, _, _⟩) (v := ?_) rfl ?_ ?_; rotate_left; (focus (intro w9 hSw; go_simp; try with_reducible rfl)); simp only [Act.put, Z2, Z3, Z4]
       refine wpGv (i := 18) (oi := ⟨some 35, _, _, _, _, _⟩) (v := ?_) rfl ?_ ?_; rotate_left; (focus (intro w9 hSw; go_simp; try with_reducible rfl)); simp only [Act.put, Z2, Z3, Z4]
       refine wpGv (i := 19) (oi := ⟨some 36, _, _, _, _, _⟩) (v := ?_) rfl ?_ ?_; rotate_left; (focus (intro w9 hSw; go_simp; try with_reducible rfl)); simp only [Act.put, Z2, Z3, Z4]
       refine wpG_done (by kernel_rfl) ?_ _
       intro w9 hSw _
       have B9 := Lib.hid (HB2.out.trans (hSw.mono HB2.out.size))
       have BO9 := Lib.hid (B2.out.below hSw B2.out.lt)
       clear hSw
       go_wp2
       go_ret
       exact ⟨by rw [HF.out]; rfl, B9.out⟩
      ·rw [hl] at hf
       simp only [Bool.true_and] at hf
       have HF := Lib.hid hf
       have HLS := Lib.hid hl
       clear hf hl
       go_wp2_with (first | ((with_reducible refine wpList_load_by (o := ⟨some 16, .load 36 (.tmp 15), _, _, _, _⟩) ?e1 36 (.tmp 15) ?e2 ⟨b0, ox, none⟩ ?e3 _ LX.out ?_); (case e1 => rfl); (case e2 => rfl); (case e3 => rfl)) | ((with_reducible refine wpList_store_newx (o := ⟨none, .store 36 (.tmp 4) (.tmp 16), _, _, _, _⟩) (w := wr) ?e1 (.tmp 4) (.tmp 16) ?e2 wr.heap.size ?e0 ?e3 x ?e4 HZ16.out ?_); (case e1 => rfl); (case e2 => rfl); (case e0 => rfl); (case e3 => rfl); (case e4 => rfl); intro w2 hb2 hx2 hs2; have X2 := Lib.hid hx2; have HS2 := Lib.hid hs2; have HW2 := Lib.hid hb2; have HB2 := Lib.hid (HBS.out.2.trans (hb2.mono HBS.out.2.size)); have B2 := Lib.hid (HBS.out.1.below hb2 HBS.out.1.lt); have HM := Lib.hid (fun (w9 : World) (hS : Below w2.heap.size w2 w9) => xmay_any x w9 ((HXV.out.below hb2 (Nat.le_refl _)).below hS (Nat.le_refl _))); rw [HMY.out] at HM; have Y2 := Lib.hid (HYA.out.same (hb2.block b0 hb02)); have HL := Lib.hid (fun (w9 : World) (hS : Below w2.heap.size w2 w9) => bless_any y.R.z x.R.z w9 HYV.out.1.2 HXV.out.1.2 HYV.out.len HXV.out.len); rw [HLS.out] at HL; have hb02 := Nat.lt_of_lt_of_le hb02 hb2.size; clear hb2 hx2 hs2))
       refine wp_region_G _ (by kernel_rfl) ?_
       refine wpGv (i := 0) (oi := ⟨some 17, _, _, _, _, _⟩) (v := (.agg x.cells)) rfl ?_ ?_; (focus (intro w9 hSw; exact exec_load_by 36 _ rfl ⟨wr.heap.size, 0, none⟩ rfl (X2.out.below hSw X2.out.lt).load)); simp only [Act.put, Z2, Z3, Z4]
       refine wpG_take (i := 1) (oi := ⟨some 18, _, _, _, _, _⟩) rfl (by kernel_rfl) (by kernel_rfl) (by kernel_rfl) (Or.inl ⟨by rfl, unib_call_if ?_ HM.out⟩) ?_; (focus (intro w9 hSw; go_simp; try with_reducible rfl)); simp only [Act.put, Z2, Z3, Z4]
       refine wpGv (i := 2) (oi := ⟨some 19, _, _, _, _, _⟩) (v := ?_) rfl ?_ ?_; rotate_left; (focus (intro w9 hSw; go_simp; try with_reducible rfl)); simp only [Act.put, Z2, Z3, Z4]
       refine wpGv (i := 3) (oi := ⟨some 20, _, _, _, _, _⟩) (v := ?_) rfl ?_ ?_; rotate_left; (focus (intro w9 hSw; go_simp; try with_reducible rfl)); simp only [Act.put, Z2, Z3, Z4]
       refine wpGv (i := 4) (oi := ⟨some 21, _, _, _, _, _⟩) (v := ?_) rfl ?_ ?_; rotate_left; (focus (intro w9 hSw; go_simp; try with_reducible rfl)); simp only [Act.put, Z2, Z3, Z4]
       refine wpGv (i := 5) (oi := ⟨some 22, _, _, _, _, _⟩) (v := (.bool true)) rfl ?_ ?_; (focus (intro w9 hSw; have q0 := decide_eq_true (show (0 : Int) < (k : Int) by omega); first | (go_simp; done) | (go_simp; omega) | (go_simp; rfl) | (simp [go_sem, execOp, q0]; done) | (simp [go_sem, execOp, q0]; rfl))); simp only [Act.put, Z2, Z3, Z4]
       refine wpGv (i := 6) (oi := ⟨some 23, _, _, _, _, _⟩) (v := ?_) rfl ?_ ?_; rotate_left; (focus (intro w9 hSw; go_simp; try with_reducible rfl)); simp only [Act.put, Z2, Z3, Z4]
       refine wpGv (i := 7) (oi := ⟨some 24, _, _, _, _, _⟩) (v := ?_) rfl ?_ ?_; rotate_left; (focus (intro w9 hSw; go_simp; try with_reducible rfl)); simp only [Act.put, Z2, Z3, Z4]
       refine wpGv (i := 8) (oi := ⟨some 25, _, _, _, _, _⟩) (v := ?_) rfl ?_ ?_; rotate_left; (focus (intro w9 hSw; have q0 := (B2.out.below hSw B2.out.lt).c0; go_simp; try with_reducible rfl)); simp only [Act.put, Z2, Z3, Z4]
       refine wpGv (i := 9) (oi := ⟨some 26, _, _, _, _, _⟩) (v := ?_) rfl ?_ ?_; rotate_left; (focus (intro w9 hSw; go_simp; try with_reducible rfl)); simp only [Act.put, Z2, Z3, Z4]
       refine wpGv (i := 10) (oi := ⟨some 27, _, _, _, _, _⟩) (v := ?_) rfl ?_ ?_; rotate_left; (focus (intro w9 hSw; have x1 : IntKind.i64.wrap ((k : Int) - 1) = (k : Int) - 1 := IntWalk.i64_in _ (by omega); go_simp; try with_reducible rfl)); simp only [Act.put, Z2, Z3, Z4]
       refine wpGv (i := 11) (oi := ⟨some 28, _, _, _, _, _⟩) (v := ?_) rfl ?_ ?_; rotate_left; (focus (intro w9 hSw; have q0 := IXY.out w9; go_simp; try with_reducible rfl)); simp only [Act.put, Z2, Z3, Z4]
       refine wpGv (i := 12) (oi := ⟨some 29, _, _, _, _, _⟩) (v := ?_) rfl ?_ ?_; rotate_left; (focus (intro w9 hSw; go_simp; try with_reducible rfl)); simp only [Act.put, Z2, Z3, Z4]
       refine wpGv (i := 13) (oi := ⟨some 30, _, _, _, _, _⟩) (v := (.agg (bvals y.R.z))) rfl ?_ ?_; (focus (intro w9 hSw; exact exec_load_by 31 _ rfl ⟨b0, oy, none⟩ rfl (Y2.out.same (hSw.block b0 hb02)).load_id)); simp only [Act.put, Z2, Z3, Z4]
       refine wpGv (i := 14) (oi := ⟨some 31, _, _, _, _, _⟩) (v := ?_) rfl ?_ ?_; rotate_left; (focus (intro w9 hSw; go_simp; try with_reducible rfl)); simp only [Act.put, Z2, Z3, Z4]
       refine wpGv (i := 15) (oi := ⟨some 32, _, _, _, _, _⟩) (v := (.agg (bvals x.R.z))) rfl ?_ ?_; (focus (intro w9 hSw; exact exec_load_by 31 _ rfl ⟨wr.heap.size, 0, none⟩ rfl (X2.out.below hSw X2.out.lt).load_id)); simp only [Act.put, Z2, Z3, Z4]
       refine wpG_take (i := 16) (oi := ⟨some 33, _, _, _, _, _⟩) rfl (by kernel_rfl) (by kernel_rfl) (by kernel_rfl) (Or.inl ⟨by rfl, unib_call_if ?_ HL.out⟩) ?_; (focus (intro w9 hSw; go_simp; try with_reducible rfl)); simp only [Act.put, Z2, Z3, Z4]
       refine wpGv (i := 17) (oi := ⟨some 34, _, _, _, _, _⟩) (v := ?_) rfl ?_ ?_; rotate_left; (focus (intro w9 hSw; go_simp; try with_reducible rfl)); simp only [Act.put, Z2, Z3, Z4]
       refine wpGv (i := 18) (oi := ⟨some 35, _, _, _, _, _⟩) (v := ?_) rfl ?_ ?_; rotate_left; (focus (intro w9 hSw; go_simp; try with_reducible rfl)); simp only [Act.put, Z2, Z3, Z4]
       refine wpGv (i := 19) (oi := ⟨some 36, _, _, _, _, _⟩) (v := ?_) rfl ?_ ?_; rotate_left; (focus (intro w9 hSw; go_simp; try with_reducible rfl)); simp only [Act.put, Z2, Z3, Z4]
       refine wpG_done (by kernel_rfl) ?_ _
       intro w9 hSw _
       have B9 := Lib.hid (HB2.out.trans (hSw.mono HB2.out.size))
       have BO9 := Lib.hid (B2.out.below hSw B2.out.lt)
       clear hSw
       go_wp2
       go_roundw
       case rel => exact ⟨k + 1, by omega, by go_num, BO9.out, B9.out, by rw [HPQ.out]; exact HF.out⟩
       case measure => simp [intOf]; omega
   ·obtain rfl : k = len := by omega
    rw [List.drop_eq_nil_of_le (by rw [HLN.out]; exact Nat.le_refl _), List.map_nil, okB] at hf
    have HF := Lib.hid hf
    have HBB := Lib.hid hb
    clear hf hb hs
    go_wp2
    go_ret
    exact ⟨by rw [HF.out]; rfl, HBB.out⟩
 ·have hV2 := HV.out
  rw [decide_eq_false h10, Bool.false_and] at hV2
  have HF := Lib.hid hV2
  have t1 : 10 < (xs.length : Int) := by omega
  clear hV2
  go_enter Tryz.func27, Tryz.ntmps27
  go_wp2
  go_ret
  exact ⟨by rw [HF.out]; rfl, HB.out⟩
end
end Go.Proofs.YtnlhkpmgbpfjmaaGreatDoor
