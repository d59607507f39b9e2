import Derived.Test.YtcmknbdeafcknaaDoorGCl
import Derived.Lib.AppendZeros
import Derived.Deep.Draws
/-
  What slices.Grow and slices.Concat answer, of nothing and of two rows of fields: a row of the call's own. Nothing that was there is written.
-/
namespace Go.Proofs.YtcmknbdeafcknaaDoor
open Go.RowKit WM
set_option linter.unusedVariables false
def zfld : Value := .agg #[.int .i64 0, .int .i64 0, .int .i64 0, .string ⟨#[]⟩]
theorem infoFld : (Tryd.prog.info? 40).map (fun i => (i.zero, i.size, i.bytes)) = some (some zfld, 4, 40) := by kernel_rfl
theorem flds_one (fs : List Fld) : ∀ u ∈ fs.flatMap Fld.cs, u.oneCell' = true := by
  intro u hu
  obtain ⟨f, _, hf⟩ := List.mem_flatMap.1 hu
  simp only [Fld.cs, List.mem_cons, List.not_mem_nil, or_false] at hf
  rcases hf with rfl | rfl | rfl | rfl <;> rfl
theorem flds_len (fs : List Fld) : (fs.flatMap Fld.cs).length = fs.length * 4 := by
  induction fs with
  | nil => rfl
  | cons f fs ih => rw [List.flatMap_cons, List.length_append, ih, List.length_cons, show f.cs.length = 4 from rfl]; omega
theorem flds_at {fs : List Fld} {i j : Nat} (hi : i < fs.length) (hj : j < 4) : (fs.flatMap Fld.cs)[i * 4 + j]? = (fs.getD i fld0).cs[j]? := by
  induction fs generalizing i with
  | nil => simp at hi
  | cons x fs ih =>
    cases i with
    | zero =>
      simp only [List.flatMap_cons, Nat.zero_mul, Nat.zero_add, List.getD_cons_zero]
      rw [List.getElem?_append_left (by simp [Fld.cs]; omega)]
    | succ i =>
      simp only [List.flatMap_cons, List.getD_cons_succ]
      rw [List.getElem?_append_right (by simp [Fld.cs]; omega)]
      have e : (i + 1) * 4 + j - x.cs.length = i * 4 + j := by simp [Fld.cs]; omega
      rw [e]
      exact ih (by simpa using hi)
/-- append(v, x...), v the call's own, x fields of whatever make. -/
theorem wpList_append_fld {P : Program} (w : World) {ops : Array Oper} {rest : List Oper} {o : Oper} {a : Act} {Q : Exit → Act → World → Prop} (hgd : o.guard = none) (s x : Operand) (t : TypeId)
    (ho : o.op = .call { callee := .builtin .append, args := #[s, x], argTypes := #[t, t] })
    (base : Nat) (e : TypeId) (i : TypeInfo) (ht : P.underlying t = some (.slice e)) (hi : P.info? e = some i) (hz : i.zero = some zfld) (hsize : i.size = 4) (hby : i.bytes = 40)
    (v : Value) (n : Nat) (gs : List Fld) (hs : a.eval s = v) (hown : w.ownsRow base e 4 v n (gs.flatMap Fld.cs))
    (A : Option Addr) (m c : Nat) (fs : List Fld) (hx : a.eval x = .slice A m c) (hr : FsAt w A c fs) (hl : fs.length = m) (hlen : n + m ≤ 100000) (hbase : base ≤ w.heap.size)
    (h : ∀ v' w', w'.ownsRow base e 4 v' (n + m) ((gs ++ fs).flatMap Fld.cs) → w.grownBy w' v.ownBlock → wpList P ops Q rest (a.put o.dst v') w') : wpList P ops Q (o :: rest) a w := by
  have fin : ∀ ad : Addr, A = some ad → (∀ j u, (fs.flatMap Fld.cs)[j]? = some u → w.cell? (ad.add j) = some u) → wpList P ops Q (o :: rest) a w := by
    intro ad hA hc
    subst hA
    refine wpList_append_own w hgd s x t ho base e i zfld 4 40 ht hi hz hsize hby rfl (by omega) v n _ hs hown ad m c (fs.flatMap Fld.cs) hx (by rw [flds_len, hl]) hc (flds_one fs) (by simp only [maxLen]; omega) (by omega) hbase ?_
    intro v' w' h1 h2 _
    exact h v' w' (by rw [List.flatMap_append]; exact h1) h2
  obtain ⟨h1, h2, h3, h4⟩ := hr
  by_cases hn : fs = []
  · subst hn
    cases A with
    | none =>
      have hc0 := h3 rfl
      simp at hl
      subst hl
      subst hc0
      refine wpList_append_own_none hgd s x t ho base e i 4 ht hi v n _ hs hown hx ?_
      exact h v w (by simpa using hown) (World.grownBy.refl w _)
    | some ad => exact fin ad rfl (fun j u hj => by simp at hj)
  · obtain ⟨b, off, hA, _, hc⟩ := h4 (List.length_pos_iff.2 hn)
    refine fin _ hA (fun j u hj => ?_)
    have hjl := (List.getElem?_eq_some_iff.1 hj).1
    rw [flds_len] at hjl
    have hij : j = j / 4 * 4 + j % 4 := by omega
    have hi' : j / 4 < fs.length := by omega
    rw [hij, flds_at hi' (by omega)] at hj
    obtain ⟨c0, c1, c2, c3⟩ := hc (j / 4) hi'
    rw [Addr.add_lit]
    have hm : j % 4 = 0 ∨ j % 4 = 1 ∨ j % 4 = 2 ∨ j % 4 = 3 := by omega
    rcases hm with hm | hm | hm | hm
    · rw [hm] at hj
      rw [show off + j = off + j / 4 * 4 by omega, c0]
      exact hj
    · rw [hm] at hj
      rw [show off + j = off + j / 4 * 4 + 1 by omega, c1]
      exact hj
    · rw [hm] at hj
      rw [show off + j = off + j / 4 * 4 + 2 by omega, c2]
      exact hj
    · rw [hm] at hj
      rw [show off + j = off + j / 4 * 4 + 3 by omega, c3]
      exact hj
/-! ### Grow -/
def GrowPost (w : World) (e : Ending) (w' : World) : Prop := ∃ v, e = .returned v ∧ w'.ownsRow w.heap.size 40 4 v 0 [] ∧ Below w.heap.size w w'
theorem slf_h (A : Option Addr) (len cap h : Nat) (h2 : h ≤ cap) (H : Int) (eH : H = h) (w : World) : (Instr.slice 26 (.slice A len cap) none (some (.int .i64 H)) none).run Tryd.prog w = .ok (.slice A h cap) w := by
  subst eH
  rw [run_slice_h w 26 _ len cap (by rw [elemFld]; exact Tryd.underlying26) .i64 h (by omega) (by omega), elemFld, sizeFld]
  simp only [sliced, Result.andThen, Int.toNat_natCast, Nat.zero_mul, Nat.sub_zero]
  cases A with
  | none => simp
  | some a => obtain ⟨b, off, s⟩ := a; simp [Addr.add]
set_option maxRecDepth 20000 in
set_option maxHeartbeats 1000000 in
theorem grow_any (n : Nat) (w : World) (hn : n ≤ 1000) : Calls Tryd.prog 32 #[.slice none 0 0, .int .i64 n] w (GrowPost w) := by
  by_cases h0 : n = 0
  · subst h0
    go_enter Tryd.func32, Tryd.ntmps32
    go_wp2
    go_ret
    exact ⟨_, rfl, World.ownsRow_nil _ _ _ _, Below.refl _ _⟩
  · obtain ⟨i0, hi, hz0, hz1, hz2⟩ := info_parts infoFld
    have happ := Lib.run_append_nil_zeros (P := Tryd.prog) w 26 3 26 40 i0 zfld .i64 .i64 Tryd.underlying26 Tryd.underlying3 hi hz0 n (by omega) (by omega) (by omega) (by rw [hz2]; omega)
    have hg := grownCap_ge w n 0 40
    have hm := grownCap_le_maxLen w n 0 40 (by simp only [maxLen]; omega)
    generalize grownCap w n 0 40 = C at happ hg hm
    have hs : (Builtin.zeroCells zfld.cells n ++ Builtin.zeroCells zfld.cells (C - n)).size = C * 4 := by
      rw [Array.size_append, size_zeroCells, size_zeroCells, show zfld.cells.size = 4 from rfl]; omega
    generalize Builtin.zeroCells zfld.cells n ++ Builtin.zeroCells zfld.cells (C - n) = Z at happ hs
    have HO := Lib.hid (World.ownsRow_made (base := w.heap.size) (size := 4) (e := 40) w.drew Z C (Nat.le_refl _) hm hs)
    have HB := Lib.hid (((Below.refl w.heap.size w).drew).alloc (Nat.le_refl _) (.cells Z 40))
    have s1 := slf_h none 0 0 0 (Nat.le_refl _) 0 rfl
    have s2 := slf_h (some ⟨w.heap.size, 0, none⟩) n C 0 (Nat.zero_le _) 0 rfl
    have t1 : ¬ (n : Int) < 0 := by omega
    have t2 : (0 : Int) < (n : Int) := by omega
    simp only [maxLen] at hm
    clear hs h0
    go_enter Tryd.func32, Tryd.ntmps32
    go_wp2_with (at_builtin; refine Lib.wpList_append_run _ rfl _ _ _ _ rfl _ _ rfl rfl _ _ happ ?_)
    go_ret
    exact ⟨_, rfl, HO.out, HB.out⟩
/-! ### Concat of two -/
def ConcatPost (w : World) (fs : List Fld) (e : Ending) (w' : World) : Prop := ∃ A n c, e = .returned (.slice A n c) ∧ fs.length = n ∧ FsAt w' A c fs ∧ Below w.heap.size w w'
theorem concat_own {w w' : World} {v : Value} {n : Nat} {fs : List Fld} (hl : fs.length = n) (ho : w'.ownsRow w.heap.size 40 4 v n (fs.flatMap Fld.cs)) (hb : Below w.heap.size w w') : ConcatPost w fs (.returned v) w' := by
  subst hl
  have ho' := ho
  rcases ho.2 with ⟨rfl, h0⟩ | ⟨g, cap, cur, rfl, _⟩
  · rw [h0] at ho'
    exact ⟨none, 0, 0, rfl, h0, FsAt.own (base := w.heap.size) (by rw [h0]; exact ho'), hb⟩
  · exact ⟨_, _, cap, rfl, rfl, FsAt.own ho', hb⟩
set_option maxRecDepth 20000 in
set_option maxHeartbeats 2000000 in
theorem concat_any (g : Nat) (A1 A2 : Option Addr) (l1 l2 c1 c2 : Nat) (f1 f2 : List Fld) (w : World) (hg : g < w.heap.size) (hg0 : w.cell? ⟨g, 0, none⟩ = some (.slice A1 l1 c1)) (hg1 : w.cell? ⟨g, 1, none⟩ = some (.slice A2 l2 c2))
    (hl1 : f1.length = l1) (hl2 : f2.length = l2) (h1 : FsAt w A1 c1 f1) (h2 : FsAt w A2 c2 f2) (hs : l1 + l2 ≤ 1000) :
    Calls Tryd.prog 19 #[.slice (some ⟨g, 0, none⟩) 2 2] w (ConcatPost w (f1 ++ f2)) := by
  have HG := Lib.hid (grow_any (l1 + l2))
  rw [Int.natCast_add] at HG
  unfold GrowPost at HG
  have t1 : ¬ (l1 : Int) < 0 := by omega
  have t2 : ¬ (l1 : Int) + (l2 : Int) < 0 := by omega
  obtain ⟨i0, hi, hz0, hz1, hz2⟩ := info_parts infoFld
  have HL1 := Lib.hid hl1
  have HL2 := Lib.hid hl2
  have H1 := Lib.hid h1
  have H2 := Lib.hid h2
  clear hl1 hl2 h1 h2
  go_enter Tryd.func19, Tryd.ntmps19
  go_wp2
  refine wp_loop_rounds 3 ?_
  rw [rounds_succ]
  go_wp2
  rw [rounds_succ]
  go_wp2
  rw [rounds_succ]
  go_wp2_with fail
  refine (HG.out _ hs).mono ?_
  rintro e w1 ⟨v, rfl, ho, hb⟩
  have G1 := Lib.hid hg1
  have hg0 := (hb.cell (p := ⟨g, 0, none⟩) hg).trans hg0
  have hg1 := (hb.cell (p := ⟨g, 1, none⟩) hg).trans hg1
  have F1 := Lib.hid (H1.out.below hb (Nat.le_refl _))
  have HB := Lib.hid hb
  clear hb hg1
  go_wp2
  refine wp_loop_rounds 3 ?_
  rw [rounds_succ]
  go_wp2_with (at_builtin; refine wpList_append_fld _ rfl _ _ 26 rfl w.heap.size 40 i0 Tryd.underlying26 hi hz0 hz1 hz2 _ 0 [] rfl ho A1 l1 c1 f1 rfl F1.out HL1.out (by omega) HB.out.size ?_; intro v2 w2 ho2 hg2)
  have HB2 := HB.out.grown hg2 HB.out.size (fun g hg => own_base ho hg)
  have hg1 := (HB2.cell (p := ⟨g, 1, none⟩) hg).trans G1.out
  have F2 := Lib.hid (H2.out.below HB2 (Nat.le_refl _))
  have HB2 := Lib.hid HB2
  clear hg2 hg0
  rw [List.nil_append] at ho2
  rw [rounds_succ]
  go_wp2_with (at_builtin; refine wpList_append_fld _ rfl _ _ 26 rfl w.heap.size 40 i0 Tryd.underlying26 hi hz0 hz1 hz2 _ _ f1 rfl ho2 A2 l2 c2 f2 rfl F2.out HL2.out (by omega) HB2.out.size ?_; intro v3 w3 ho3 hg3)
  have HB3 := Lib.hid (HB2.out.grown hg3 HB2.out.size (fun g hg => own_base ho2 hg))
  have HO3 := Lib.hid ho3
  clear hg3 hg1 ho ho2 ho3
  rw [rounds_succ]
  go_wp2
  go_ret
  exact concat_own (by rw [List.length_append, HL1.out, HL2.out]; omega) HO3.out HB3.out
end Go.Proofs.YtcmknbdeafcknaaDoor

