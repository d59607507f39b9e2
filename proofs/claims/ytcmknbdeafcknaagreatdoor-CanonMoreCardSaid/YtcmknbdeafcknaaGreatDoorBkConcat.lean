import Derived.Test.YtcmknbdeafcknaaGreatDoorBkRec
import Derived.Test.YtcmknbdeafcknaaGreatDoorRcConcat
import Derived.Lib.AppendZeros
import Derived.Deep.Draws
/-
  What slices.Grow and slices.Concat answer, of nothing and of two rows of records: a row of the call's own. Nothing that was there is written.
-/
namespace Go.Proofs.YtcmknbdeafcknaaGreatDoor
open Go.RowKit WM
set_option linter.unusedVariables false
set_option maxRecDepth 20000
def zrc : Value := .agg rcA0.cells
theorem zrc_size : zrc.cells.size = 19 := cells_len z16_len
theorem infoRec : (Tryz.prog.info? 33).map (fun i => (i.zero, i.size, i.bytes)) = some (some zrc, 19, 56) := by kernel_rfl
/-- append(v, x...), v the call's own, x fields of whatever make. -/
theorem wpList_append_rec {P : Program} (w : World) {ops : Array Oper} {rest : List Oper} {o : Oper} {a : Act} {Q : Exit → Act → World → Prop} (hgd : o.guard = none) (s x : Operand) (t : TypeId)
    (ho : o.op = .call { callee := .builtin .append, args := #[s, x], argTypes := #[t, t] })
    (base : Nat) (e : TypeId) (i : TypeInfo) (ht : P.underlying t = some (.slice e)) (hi : P.info? e = some i) (hz : i.zero = some zrc) (hsize : i.size = 19) (hby : i.bytes = 56)
    (v : Value) (n : Nat) (gs : List RcA) (hs : a.eval s = v) (hown : w.ownsRow base e 19 v n (gs.flatMap RcA.cs))
    (A : Option Addr) (m c : Nat) (fs : List RcA) (hx : a.eval x = .slice A m c) (hr : RsAt w A c fs) (hl : fs.length = m) (hlen : n + m ≤ 100000) (hbase : base ≤ w.heap.size)
    (h : ∀ v' w', w'.ownsRow base e 19 v' (n + m) ((gs ++ fs).flatMap RcA.cs) → w.grownBy w' v.ownBlock → wpList P ops Q rest (a.put o.dst v') w') : wpList P ops Q (o :: rest) a w := by
  have fin : ∀ ad : Addr, A = some ad → (∀ j u, (fs.flatMap RcA.cs)[j]? = some u → w.cell? (ad.add j) = some u) → wpList P ops Q (o :: rest) a w := by
    intro ad hA hc
    subst hA
    refine wpList_append_own w hgd s x t ho base e i zrc 19 56 ht hi hz hsize hby zrc_size (by omega) v n _ hs hown ad m c (fs.flatMap RcA.cs) hx (by rw [recs_len (fun x hxx => (hr.2.2.2.2 x hxx).len), hl]) hc (recs_one fs) (by simp only [maxLen]; omega) (by omega) hbase ?_
    intro v' w' h1 h2 _
    exact h v' w' (by rw [List.flatMap_append]; exact h1) h2
  obtain ⟨h1, h2, h3, h4, h5⟩ := hr
  have hz16 : ∀ x ∈ fs, x.R.z.length = 16 := fun x hxx => (h5 x hxx).len
  by_cases hn : fs = []
  · subst hn
    cases A with
    | none =>
      have hc0 := h3 rfl
      simp at hl
      subst hl
      subst hc0
      refine wpList_append_own_none hgd s x t ho base e i 19 ht hi v n _ hs hown hx ?_
      exact h v w (by simpa using hown) (World.grownBy.refl w _)
    | some ad => exact fin ad rfl (fun j u hj => by simp at hj)
  · obtain ⟨b, off, hA, _, hc⟩ := h4 (List.length_pos_iff.2 hn)
    refine fin _ hA (fun j u hj => ?_)
    have hjl := (List.getElem?_eq_some_iff.1 hj).1
    rw [recs_len hz16] at hjl
    have hij : j = j / 19 * 19 + j % 19 := by omega
    have hi' : j / 19 < fs.length := by omega
    rw [hij, recs_at hz16 hi' (by omega)] at hj
    rw [Addr.add_lit, show off + j = off + j / 19 * 19 + j % 19 by omega, (hc (j / 19) hi').2 (j % 19) (by omega)]
    exact hj
/-! ### Grow -/
def GrowPostB (w : World) (e : Ending) (w' : World) : Prop := ∃ v, e = .returned v ∧ w'.ownsRow w.heap.size 33 19 v 0 [] ∧ Below w.heap.size w w'
theorem slr_h (A : Option Addr) (len cap h : Nat) (h2 : h ≤ cap) (H : Int) (eH : H = h) (w : World) : (Instr.slice 22 (.slice A len cap) none (some (.int .i64 H)) none).run Tryz.prog w = .ok (.slice A h cap) w := by
  subst eH
  rw [run_slice_h w 22 _ len cap (by rw [elemRec]; exact Tryz.underlying22) .i64 h (by omega) (by omega), elemRec, sizeRecW]
  simp only [sliced, Result.andThen, Int.toNat_natCast, Nat.zero_mul, Nat.sub_zero]
  cases A with
  | none => simp
  | some a => obtain ⟨b, off, s⟩ := a; simp [Addr.add]
set_option maxRecDepth 20000 in
set_option maxHeartbeats 1000000 in
theorem bgrow_any (n : Nat) (w : World) (hn : n ≤ 1000) : Calls Tryz.prog 75 #[.slice none 0 0, .int .i64 n] w (GrowPostB w) := by
  by_cases h0 : n = 0
  · subst h0
    go_enter Tryz.func75, Tryz.ntmps75
    go_wp2
    go_ret
    exact ⟨_, rfl, World.ownsRow_nil _ _ _ _, Below.refl _ _⟩
  · obtain ⟨i0, hi, hz0, hz1, hz2⟩ := info_parts infoRec
    have happ := Lib.run_append_nil_zeros (P := Tryz.prog) w 22 3 22 33 i0 zrc .i64 .i64 Tryz.underlying22 Tryz.underlying3 hi hz0 n (by omega) (by omega) (by omega) (by rw [hz2]; omega)
    have hg := grownCap_ge w n 0 33
    have hm := grownCap_le_maxLen w n 0 33 (by simp only [maxLen]; omega)
    generalize grownCap w n 0 33 = C at happ hg hm
    have hs : (Builtin.zeroCells zrc.cells n ++ Builtin.zeroCells zrc.cells (C - n)).size = C * 19 := by
      rw [Array.size_append, size_zeroCells, size_zeroCells, zrc_size]; omega
    generalize Builtin.zeroCells zrc.cells n ++ Builtin.zeroCells zrc.cells (C - n) = Z at happ hs
    have HO := Lib.hid (World.ownsRow_made (base := w.heap.size) (size := 19) (e := 33) w.drew Z C (Nat.le_refl _) hm hs)
    have HB := Lib.hid (((Below.refl w.heap.size w).drew).alloc (Nat.le_refl _) (.cells Z 33))
    have s1 := slr_h none 0 0 0 (Nat.le_refl _) 0 rfl
    have s2 := slr_h (some ⟨w.heap.size, 0, none⟩) n C 0 (Nat.zero_le _) 0 rfl
    have t1 : ¬ (n : Int) < 0 := by omega
    have t2 : (0 : Int) < (n : Int) := by omega
    simp only [maxLen] at hm
    clear hs h0
    go_enter Tryz.func75, Tryz.ntmps75
    go_wp2_with (at_builtin; refine Lib.wpList_append_run _ rfl _ _ _ _ rfl _ _ rfl rfl _ _ happ ?_)
    go_ret
    exact ⟨_, rfl, HO.out, HB.out⟩
/-! ### Concat of two -/
def ConcatPostB (w : World) (fs : List RcA) (e : Ending) (w' : World) : Prop := ∃ A n c, e = .returned (.slice A n c) ∧ fs.length = n ∧ RsAt w' A c fs ∧ Below w.heap.size w w'
theorem bconcat_own {w w' : World} {v : Value} {n : Nat} {fs : List RcA} (hl : fs.length = n) (hv : ∀ x ∈ fs, RvAt w' x) (ho : w'.ownsRow w.heap.size 33 19 v n (fs.flatMap RcA.cs)) (hb : Below w.heap.size w w') : ConcatPostB w fs (.returned v) w' := by
  subst hl
  have ho' := ho
  rcases ho.2 with ⟨rfl, h0⟩ | ⟨g, cap, cur, rfl, _⟩
  · rw [h0] at ho'
    exact ⟨none, 0, 0, rfl, h0, RsAt.own (base := w.heap.size) (by rw [h0]; exact ho') hv, hb⟩
  · exact ⟨_, _, cap, rfl, rfl, RsAt.own ho' hv, hb⟩
set_option maxRecDepth 20000 in
set_option maxHeartbeats 2000000 in
theorem bconcat_any (g : Nat) (A1 A2 : Option Addr) (l1 l2 c1 c2 : Nat) (f1 f2 : List RcA) (w : World) (hg : g < w.heap.size) (hg0 : w.cell? ⟨g, 0, none⟩ = some (.slice A1 l1 c1)) (hg1 : w.cell? ⟨g, 1, none⟩ = some (.slice A2 l2 c2))
    (hl1 : f1.length = l1) (hl2 : f2.length = l2) (h1 : RsAt w A1 c1 f1) (h2 : RsAt w A2 c2 f2) (hs : l1 + l2 ≤ 1000) :
    Calls Tryz.prog 43 #[.slice (some ⟨g, 0, none⟩) 2 2] w (ConcatPostB w (f1 ++ f2)) := by
  have HG := Lib.hid (bgrow_any (l1 + l2))
  rw [Int.natCast_add] at HG
  unfold GrowPostB at HG
  have t1 : ¬ (l1 : Int) < 0 := by omega
  have t2 : ¬ (l1 : Int) + (l2 : Int) < 0 := by omega
  obtain ⟨i0, hi, hz0, hz1, hz2⟩ := info_parts infoRec
  have HL1 := Lib.hid hl1
  have HL2 := Lib.hid hl2
  have H1 := Lib.hid h1
  have H2 := Lib.hid h2
  have HV1 := Lib.hid h1.2.2.2.2
  have HV2 := Lib.hid h2.2.2.2.2
  clear hl1 hl2 h1 h2
  go_enter Tryz.func43, Tryz.ntmps43
  go_wp2
  refine wp_loop_rounds 3 ?_
  rw [rounds_succ]
  go_wp2
  rw [rounds_succ]
  go_wp2
  rw [rounds_succ]
  go_wp2_with fail
  refine (HG.out _ hs).mono ?_
  rintro e w1 ⟨v, rfl, ho, hb⟩
  have G1 := Lib.hid hg1
  have hg0 := (hb.cell (p := ⟨g, 0, none⟩) hg).trans hg0
  have hg1 := (hb.cell (p := ⟨g, 1, none⟩) hg).trans hg1
  have F1 := Lib.hid (H1.out.below hb (Nat.le_refl _))
  have HB := Lib.hid hb
  clear hb hg1
  go_wp2
  refine wp_loop_rounds 3 ?_
  rw [rounds_succ]
  go_wp2_with (at_builtin; refine wpList_append_rec _ rfl _ _ 22 rfl w.heap.size 33 i0 Tryz.underlying22 hi hz0 hz1 hz2 _ 0 [] rfl ho A1 l1 c1 f1 rfl F1.out HL1.out (by omega) HB.out.size ?_; intro v2 w2 ho2 hg2)
  have HB2 := HB.out.grown hg2 HB.out.size (fun g hg => own_base ho hg)
  have hg1 := (HB2.cell (p := ⟨g, 1, none⟩) hg).trans G1.out
  have F2 := Lib.hid (H2.out.below HB2 (Nat.le_refl _))
  have HB2 := Lib.hid HB2
  clear hg2 hg0
  rw [List.nil_append] at ho2
  rw [rounds_succ]
  go_wp2_with (at_builtin; refine wpList_append_rec _ rfl _ _ 22 rfl w.heap.size 33 i0 Tryz.underlying22 hi hz0 hz1 hz2 _ _ f1 rfl ho2 A2 l2 c2 f2 rfl F2.out HL2.out (by omega) HB2.out.size ?_; intro v3 w3 ho3 hg3)
  have HB3 := Lib.hid (HB2.out.grown hg3 HB2.out.size (fun g hg => own_base ho2 hg))
  have HO3 := Lib.hid ho3
  clear hg3 hg1 ho ho2 ho3
  rw [rounds_succ]
  go_wp2
  go_ret
  exact bconcat_own (by rw [List.length_append, HL1.out, HL2.out]; omega) (fun x hx => by
    rcases List.mem_append.1 hx with hx | hx
    · exact (HV1.out x hx).below HB3.out (Nat.le_refl _)
    · exact (HV2.out x hx).below HB3.out (Nat.le_refl _)) HO3.out HB3.out
end Go.Proofs.YtcmknbdeafcknaaGreatDoor

