/-
  What stamp.May and stamp.Less answer; nothing that was there is written.
-/
import Derived.Test.YtonbhcbkelmhgaaDoorBase
namespace Go.Proofs.YtonbhcbkelmhgaaDoor
open Go.RowKit WM
set_option linter.unusedVariables false
/-- A stamp, as a value. -/
def st (n r : Int) : Value := .agg #[.int .i64 n, .int .i64 r]
def mayR (r : Int) : Bool := decide (0 ≤ r ∧ r < 8)
def may (n r : Int) : Bool := decide ((n = 0 ∧ r = 0) ∨ 1 ≤ n ∧ n ≤ 1099511627776 ∧ 0 ≤ r ∧ r < 8)
theorem may_iff {n r : Int} : may n r = true ↔ (n = 0 ∧ r = 0) ∨ 1 ≤ n ∧ n ≤ 1099511627776 ∧ 0 ≤ r ∧ r < 8 := by rw [may, decide_eq_true_iff]
theorem mayRep_any (r : Int) (w : World) : Calls Tryd.prog 64 #[.int .i64 r] w fun e w' => e = .returned (.bool (mayR r)) ∧ w' = w := by
  by_cases h0 : 0 ≤ r
  · go_enter Tryd.func64, Tryd.ntmps64
    go_wp2
    go_ret
    exact ⟨by simp [mayR, h0], rfl⟩
  · go_enter Tryd.func64, Tryd.ntmps64
    go_wp2
    go_ret
    exact ⟨by rw [mayR, decide_eq_false (by omega)]; rfl, rfl⟩
set_option maxHeartbeats 1000000 in
theorem may_any (n r : Int) (w : World) : Calls Tryd.prog 47 #[st n r] w fun e w' => e = .returned (.bool (may n r)) ∧ Below w.heap.size w w' := by
  unfold st
  have hbel := Lib.hid (fun (o : Obj) => (Below.refl w.heap.size w).alloc (Nat.le_refl _) o)
  by_cases h0 : n = 0
  · subst h0
    by_cases h1 : r = 0
    · subst h1
      go_enter Tryd.func47, Tryd.ntmps47
      go_wp2
      go_ret
      exact ⟨rfl, hbel.out _⟩
    · have hm := Lib.hid (show may 0 r = false by rw [may, decide_eq_false_iff_not]; omega)
      go_enter Tryd.func47, Tryd.ntmps47
      go_wp2
      go_ret
      exact ⟨by rw [hm.out]; rfl, hbel.out _⟩
  · by_cases h1 : 1 ≤ n
    · by_cases h2 : n ≤ 1099511627776
      · have hm := Lib.hid (show mayR r = may n r by rw [mayR, may, decide_eq_decide]; omega)
        go_enter Tryd.func47, Tryd.ntmps47
        go_wp2_with fail
        refine (mayRep_any r _).mono ?_
        rintro e w1 ⟨rfl, rfl⟩
        go_wp2
        go_ret
        exact ⟨by rw [← hm.out]; rfl, hbel.out _⟩
      · have hm := Lib.hid (show may n r = false by rw [may, decide_eq_false_iff_not]; omega)
        go_enter Tryd.func47, Tryd.ntmps47
        go_wp2
        go_ret
        exact ⟨by rw [hm.out]; rfl, hbel.out _⟩
    · have hm := Lib.hid (show may n r = false by rw [may, decide_eq_false_iff_not]; omega)
      go_enter Tryd.func47, Tryd.ntmps47
      go_wp2
      go_ret
      exact ⟨by rw [hm.out]; rfl, hbel.out _⟩
/-! ### Less -/
def stLess (n r m s : Int) : Bool := decide (n < m ∨ n = m ∧ r < s)
set_option maxHeartbeats 1000000 in
theorem stLess_any (n r m s : Int) (w : World) : Calls Tryd.prog 37 #[st n r, st m s] w fun e w' => e = .returned (.bool (stLess n r m s)) ∧ Below w.heap.size w w' := by
  unfold st
  have hbel := Lib.hid (fun (o o' : Obj) => ((Below.refl w.heap.size w).alloc (Nat.le_refl _) o).alloc (by simp) o')
  by_cases h1 : n = m
  · subst h1
    by_cases h0 : r = s
    · subst h0
      have hm := Lib.hid (show stLess n r n r = false by rw [stLess, decide_eq_false_iff_not]; omega)
      go_enter Tryd.func37, Tryd.ntmps37
      go_wp2
      go_ret
      exact ⟨by rw [hm.out]; rfl, hbel.out _ _⟩
    · have hm := Lib.hid (show stLess n r n s = decide (r < s) by rw [stLess, decide_eq_decide]; omega)
      go_enter Tryd.func37, Tryd.ntmps37
      go_wp2
      go_ret
      exact ⟨by rw [hm.out]; rfl, hbel.out _ _⟩
  · have hm := Lib.hid (show stLess n r m s = decide (n < m) by rw [stLess, decide_eq_decide]; omega)
    go_enter Tryd.func37, Tryd.ntmps37
    go_wp2
    go_ret
    exact ⟨by rw [hm.out]; rfl, hbel.out _ _⟩
/-! ### A stamp that lies in a block of its own -/
/-- Block b holds the stamp n, r. -/
def StAt (w : World) (b : Nat) (n r : Int) : Prop := w.heap[b]? = some (.cells #[.int .i64 n, .int .i64 r] 23)
theorem StAt.c0 {w : World} {b : Nat} {n r : Int} (h : StAt w b n r) : w.cell? ⟨b, 0, none⟩ = some (.int .i64 n) := by rw [cell_of_row _ _ _ _ _ _ h]; rfl
theorem StAt.c1 {w : World} {b : Nat} {n r : Int} (h : StAt w b n r) : w.cell? ⟨b, 1, none⟩ = some (.int .i64 r) := by rw [cell_of_row _ _ _ _ _ _ h]; rfl
theorem StAt.fz {w : World} {b : Nat} {n r : Int} (h : StAt w b n r) (j : Nat) : w.frozen? ⟨b, j, none⟩ = false := frozen_of_row _ _ _ _ _ h
theorem StAt.lt {w : World} {b : Nat} {n r : Int} (h : StAt w b n r) : b < w.heap.size := by
  rcases Nat.lt_or_ge b w.heap.size with h1 | h1
  · exact h1
  · unfold StAt at h; rw [Array.getElem?_eq_none h1] at h; cases h
theorem StAt.below {w w' : World} {b B : Nat} {n r : Int} (h : StAt w b n r) (hb : Below B w w') (hB : b < B) : StAt w' b n r := by
  unfold StAt; rw [hb.block b hB]; exact h
theorem StAt.new (w : World) (n r : Int) : StAt (w.alloc (.cells #[.int .i64 n, .int .i64 r] 23)) w.heap.size n r := heap_alloc_new w _
theorem StAt.old {w : World} {b : Nat} {n r : Int} (h : StAt w b n r) (o : Obj) : StAt (w.alloc o) b n r := h.below ((Below.refl w.heap.size w).alloc (Nat.le_refl _) o) h.lt
theorem StAt.put {w : World} {b : Nat} {n r : Int} (h : StAt w b n r) (m s : Int) : StAt ((w.setCell ⟨b, 0, none⟩ (.int .i64 m)).setCell ⟨b, 1, none⟩ (.int .i64 s)) b m s := by
  unfold StAt
  rw [heap_setCell_same _ _ _ _ _ _ (heap_setCell_same _ _ _ _ _ _ h)]
  rfl
theorem below_put {B : Nat} {a w : World} (h : Below B a w) {b : Nat} (hb : B ≤ b) (u v : Value) : Below B a ((w.setCell ⟨b, 0, none⟩ u).setCell ⟨b, 1, none⟩ v) := (h.setCell hb u).setCell hb v
theorem load_st {w : World} {b : Nat} {n r : Int} (h : StAt w b n r) : (loadVar 23 ⟨b, 0, none⟩).run Tryd.prog w = .ok (st n r) w :=
  run_loadVar_row w b 23 23 _ (0, 0) _ h Tryd.underlying23 rfl (by kernel_rfl)
theorem res_st {fn : Func} {p : Tmp} (h : fn.results = #[.cell p 23]) {tmps : Array Value} {w : World} {b : Nat} {n r : Int} (hp : tmps.getD p undef = .pointer (some ⟨b, 0, none⟩)) (hs : StAt w b n r) :
    (results fn tmps).run Tryd.prog w = .ok (st n r) w := by
  have hp' : tmps[p]?.getD undef = .pointer (some ⟨b, 0, none⟩) := by simpa using hp
  simp [results, h, hp', asAddr, load_st hs]
theorem res_st2 {fn : Func} {p q : Tmp} (h : fn.results = #[.cell p 23, .tmp q]) {tmps : Array Value} {w : World} {b : Nat} {n r : Int} (hp : tmps.getD p undef = .pointer (some ⟨b, 0, none⟩)) (hs : StAt w b n r) :
    (results fn tmps).run Tryd.prog w = .ok (.tuple #[st n r, tmps.getD q undef]) w := by
  have hp' : tmps[p]?.getD undef = .pointer (some ⟨b, 0, none⟩) := by simpa using hp
  simp [results, h, hp', asAddr, load_st hs]
theorem res_st3 {fn : Func} {p q s : Tmp} (h : fn.results = #[.cell p 23, .tmp q, .tmp s]) {tmps : Array Value} {w : World} {b : Nat} {n r : Int} (hp : tmps.getD p undef = .pointer (some ⟨b, 0, none⟩)) (hs : StAt w b n r) :
    (results fn tmps).run Tryd.prog w = .ok (.tuple #[st n r, tmps.getD q undef, tmps.getD s undef]) w := by
  have hp' : tmps[p]?.getD undef = .pointer (some ⟨b, 0, none⟩) := by simpa using hp
  simp [results, h, hp', asAddr, load_st hs]
end Go.Proofs.YtonbhcbkelmhgaaDoor
