/-
  Cells: as values, in a block of their own, compared by ==; what cell.May, and the law's own 'few', answer. Nothing that was there is written.
-/
import Derived.Test.YtonbhcbkelmhgaaDoorStFacts
import Derived.Test.YtonbhcbkelmhgaaDoorTexts
namespace Go.Proofs.YtonbhcbkelmhgaaDoor
open Go.RowKit WM
set_option linter.unusedVariables false
/-- A cell: its stamp's two numbers, and its value. -/
structure Cel where
  n : Int
  r : Int
  s : ByteArray
def Cel.v (c : Cel) : Value := .agg #[.int .i64 c.n, .int .i64 c.r, .string c.s]
/-- Block b holds the cell c. -/
def ClAt (w : World) (b : Nat) (c : Cel) : Prop := w.heap[b]? = some (.cells #[.int .i64 c.n, .int .i64 c.r, .string c.s] 25)
theorem ClAt.c0 {w : World} {b : Nat} {c : Cel} (h : ClAt w b c) : w.cell? ⟨b, 0, none⟩ = some (.int .i64 c.n) := by rw [cell_of_row _ _ _ _ _ _ h]; rfl
theorem ClAt.c1 {w : World} {b : Nat} {c : Cel} (h : ClAt w b c) : w.cell? ⟨b, 1, none⟩ = some (.int .i64 c.r) := by rw [cell_of_row _ _ _ _ _ _ h]; rfl
theorem ClAt.c2 {w : World} {b : Nat} {c : Cel} (h : ClAt w b c) : w.cell? ⟨b, 2, none⟩ = some (.string c.s) := by rw [cell_of_row _ _ _ _ _ _ h]; rfl
theorem ClAt.fz {w : World} {b : Nat} {c : Cel} (h : ClAt w b c) (j : Nat) : w.frozen? ⟨b, j, none⟩ = false := frozen_of_row _ _ _ _ _ h
theorem ClAt.lt {w : World} {b : Nat} {c : Cel} (h : ClAt w b c) : b < w.heap.size := by
  rcases Nat.lt_or_ge b w.heap.size with h1 | h1
  · exact h1
  · unfold ClAt at h; rw [Array.getElem?_eq_none h1] at h; cases h
theorem ClAt.below {w w' : World} {b B : Nat} {c : Cel} (h : ClAt w b c) (hb : Below B w w') (hB : b < B) : ClAt w' b c := by
  unfold ClAt; rw [hb.block b hB]; exact h
theorem ClAt.new (w : World) (c : Cel) : ClAt (w.alloc (.cells #[.int .i64 c.n, .int .i64 c.r, .string c.s] 25)) w.heap.size c := heap_alloc_new w _
theorem ClAt.old {w : World} {b : Nat} {c : Cel} (h : ClAt w b c) (o : Obj) : ClAt (w.alloc o) b c := h.below ((Below.refl w.heap.size w).alloc (Nat.le_refl _) o) h.lt
theorem ClAt.put {w : World} {b : Nat} {c : Cel} (h : ClAt w b c) (d : Cel) : ClAt (((w.setCell ⟨b, 0, none⟩ (.int .i64 d.n)).setCell ⟨b, 1, none⟩ (.int .i64 d.r)).setCell ⟨b, 2, none⟩ (.string d.s)) b d := by
  unfold ClAt
  rw [heap_setCell_same _ _ _ _ _ _ (heap_setCell_same _ _ _ _ _ _ (heap_setCell_same _ _ _ _ _ _ h))]
  rfl
theorem below_put3 {B : Nat} {a w : World} (h : Below B a w) {b : Nat} (hb : B ≤ b) (u v x : Value) : Below B a (((w.setCell ⟨b, 0, none⟩ u).setCell ⟨b, 1, none⟩ v).setCell ⟨b, 2, none⟩ x) := ((h.setCell hb u).setCell hb v).setCell hb x
theorem load_cl {w : World} {b : Nat} {c : Cel} (h : ClAt w b c) : (loadVar 25 ⟨b, 0, none⟩).run Tryd.prog w = .ok c.v w :=
  run_loadVar_row w b 25 25 _ (0, 0) _ h Tryd.underlying25 rfl (by kernel_rfl)
theorem res_cl {fn : Func} {p : Tmp} (h : fn.results = #[.cell p 25]) {tmps : Array Value} {w : World} {b : Nat} {c : Cel} (hp : tmps.getD p undef = .pointer (some ⟨b, 0, none⟩)) (hs : ClAt w b c) :
    (results fn tmps).run Tryd.prog w = .ok c.v w := by
  have hp' : tmps[p]?.getD undef = .pointer (some ⟨b, 0, none⟩) := by simpa using hp
  simp [results, h, hp', asAddr, load_cl hs]
theorem res_cl3 {fn : Func} {p q s : Tmp} (h : fn.results = #[.cell p 25, .tmp q, .tmp s]) {tmps : Array Value} {w : World} {b : Nat} {c : Cel} (hp : tmps.getD p undef = .pointer (some ⟨b, 0, none⟩)) (hs : ClAt w b c) :
    (results fn tmps).run Tryd.prog w = .ok (.tuple #[c.v, tmps.getD q undef, tmps.getD s undef]) w := by
  have hp' : tmps[p]?.getD undef = .pointer (some ⟨b, 0, none⟩) := by simpa using hp
  simp [results, h, hp', asAddr, load_cl hs]
theorem str_beq (s t : ByteArray) : (s.toList == t.toList) = true ↔ s = t := by
  rw [beq_iff_eq, toList_data, toList_data]
  constructor
  · intro h
    have := Array.toList_inj.1 h
    cases s; cases t; simp_all
  · rintro rfl; rfl
theorem cl_ne {a b : Cel} (h : ¬ a = b) (w : World) : (Op.equalIn 10000 25 (.agg #[.int .i64 a.n, .int .i64 a.r, .string a.s]) (.agg #[.int .i64 b.n, .int .i64 b.r, .string b.s])).run Tryd.prog w = .ok false w := by
  obtain ⟨n, r, s⟩ := a
  obtain ⟨m, q, t⟩ := b
  by_cases h1 : n = m
  · subst h1
    by_cases h2 : r = q
    · subst h2
      have h3 : ¬ s = t := fun e => h (by rw [e])
      have h4 : (s.toList == t.toList) = false := by
        cases hh : (s.toList == t.toList)
        · rfl
        · exact absurd ((str_beq s t).1 hh) h3
      go_simp
    · go_simp
  · go_simp
theorem cl_same (a : Cel) (w : World) : (Op.equalIn 10000 25 (.agg #[.int .i64 a.n, .int .i64 a.r, .string a.s]) (.agg #[.int .i64 a.n, .int .i64 a.r, .string a.s])).run Tryd.prog w = .ok true w := by
  have h4 : (a.s.toList == a.s.toList) = true := (str_beq _ _).2 rfl
  go_simp
theorem cl_if {a b : Cel} (h : ¬ a = b) {α : Type} (x y : α) : (if a.n = b.n then if a.r = b.r then if a.s.toList = b.s.toList then x else y else y else y) = y := by
  by_cases h1 : a.n = b.n
  · by_cases h2 : a.r = b.r
    · have h3 : ¬ a.s.toList = b.s.toList := fun e => h (by
        have := (str_beq a.s b.s).1 (by rw [e]; exact beq_self_eq_true _)
        obtain ⟨n, r, s⟩ := a
        obtain ⟨m, q, t⟩ := b
        dsimp only at h1 h2 this
        rw [h1, h2, this])
      rw [if_pos h1, if_pos h2, if_neg h3]
    · rw [if_pos h1, if_neg h2]
  · rw [if_neg h1]
/-! ### May -/
def cmay (c : Cel) : Bool := may c.n c.r && decide (1 ≤ c.n) && decide (c.s.size ≤ 200)
theorem cmay_iff {c : Cel} : cmay c = true ↔ may c.n c.r = true ∧ 1 ≤ c.n ∧ c.s.size ≤ 200 := by
  simp [cmay, and_assoc]
set_option maxHeartbeats 1000000 in
theorem cmay_any (c : Cel) (w : World) : Calls Tryd.prog 19 #[c.v] w fun e w' => e = .returned (.bool (cmay c)) ∧ Below w.heap.size w w' := by
  have HC := Lib.hid (may_any c.n c.r)
  have S0 := Lib.hid (ClAt.new w c)
  have HB := Lib.hid ((((Below.refl w.heap.size w).alloc (Nat.le_refl _) (.cells #[.int .i64 c.n, .int .i64 c.r, .string c.s] 25))))
  unfold Cel.v
  cases hm : may c.n c.r
  · have HV := Lib.hid (show cmay c = false by simp [cmay, hm])
    rw [hm] at HC
    unfold st at HC
    clear hm
    go_enter Tryd.func19, Tryd.ntmps19
    go_wp2_with fail
    refine (HC.out _).mono ?_
    rintro e w1 ⟨rfl, hb1⟩
    have bw := Lib.hid (HB.out.trans (hb1.mono HB.out.size))
    clear hb1
    go_wp2
    go_ret
    exact ⟨by rw [HV.out]; rfl, bw.out⟩
  · rw [hm] at HC
    have hmay := may_iff.1 hm
    by_cases h0 : 1 ≤ c.n
    · have hne := st_ne (n := c.n) (r := c.r) (m := 0) (s := 0) (by omega)
      have HV := Lib.hid (show cmay c = decide ((c.s.size : Int) ≤ 200) by simp [cmay, hm, h0]; omega)
      unfold st at HC
      clear hm hmay
      go_enter Tryd.func19, Tryd.ntmps19
      go_wp2_with fail
      refine (HC.out _).mono ?_
      rintro e w1 ⟨rfl, hb1⟩
      have bw := Lib.hid (HB.out.trans (hb1.mono HB.out.size))
      have s0 := S0.out.below hb1 S0.out.lt
      have a0 := s0.c0
      have a1 := s0.c1
      have a2 := s0.c2
      clear hb1 s0
      go_wp2
      go_ret
      exact ⟨by rw [HV.out]; rfl, bw.out⟩
    · have n0 : c.n = 0 := by omega
      have r0 : c.r = 0 := by omega
      have HV := Lib.hid (show cmay c = false by simp [cmay, h0])
      rw [n0, r0] at HC S0 HB ⊢
      unfold st at HC
      clear hm hmay h0
      go_enter Tryd.func19, Tryd.ntmps19
      go_wp2_with fail
      refine (HC.out _).mono ?_
      rintro e w1 ⟨rfl, hb1⟩
      have bw := Lib.hid (HB.out.trans (hb1.mono HB.out.size))
      have s0 := S0.out.below hb1 S0.out.lt
      have a0 := s0.c0
      have a1 := s0.c1
      rw [n0] at a0
      rw [r0] at a1
      have a2 := s0.c2
      clear hb1 s0 n0 r0
      go_wp2
      go_ret
      exact ⟨by rw [HV.out]; rfl, bw.out⟩
def cfew (c : Cel) : Bool := decide (c.s.size ≤ 300)
theorem few_any (c : Cel) (w : World) : Calls Tryd.prog 14 #[c.v] w fun e w' => e = .returned (.bool (cfew c)) ∧ Below w.heap.size w w' := by
  have HB := Lib.hid ((((Below.refl w.heap.size w).alloc (Nat.le_refl _) (.cells #[.int .i64 c.n, .int .i64 c.r, .string c.s] 25))))
  have HV := Lib.hid (show cfew c = decide ((c.s.size : Int) ≤ 300) by simp [cfew]; omega)
  unfold Cel.v
  go_enter Tryd.func14, Tryd.ntmps14
  go_wp2
  go_ret
  exact ⟨by rw [HV.out]; rfl, HB.out⟩
end Go.Proofs.YtonbhcbkelmhgaaDoor
