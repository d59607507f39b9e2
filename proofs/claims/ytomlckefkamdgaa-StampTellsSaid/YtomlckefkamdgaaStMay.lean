/-
  What stamp.May, stamp.Less, stamp.Max and stamp.Next answer; nothing that was there is written.
-/
import Derived.Test.YtomlckefkamdgaaBase
namespace Go.Proofs.Ytomlckefkamdgaa
open Go.RowKit WM
set_option linter.unusedVariables false
/-- A stamp, as a value. -/
def st (n r : Int) : Value := .agg #[.int .i64 n, .int .i64 r]
def mayR (r : Int) : Bool := decide (0 ≤ r ∧ r < 8)
def may (n r : Int) : Bool := decide ((n = 0 ∧ r = 0) ∨ 1 ≤ n ∧ n ≤ 1099511627776 ∧ 0 ≤ r ∧ r < 8)
theorem may_iff {n r : Int} : may n r = true ↔ (n = 0 ∧ r = 0) ∨ 1 ≤ n ∧ n ≤ 1099511627776 ∧ 0 ≤ r ∧ r < 8 := by rw [may, decide_eq_true_iff]
theorem mayRep_any (r : Int) (w : World) : Calls Try.prog 33 #[.int .i64 r] w fun e w' => e = .returned (.bool (mayR r)) ∧ w' = w := by
  by_cases h0 : 0 ≤ r
  · go_enter Try.func33, Try.ntmps33
    go_wp2
    go_ret
    exact ⟨by simp [mayR, h0], rfl⟩
  · go_enter Try.func33, Try.ntmps33
    go_wp2
    go_ret
    exact ⟨by rw [mayR, decide_eq_false (by omega)]; rfl, rfl⟩
set_option maxHeartbeats 1000000 in
theorem may_any (n r : Int) (w : World) : Calls Try.prog 21 #[st n r] w fun e w' => e = .returned (.bool (may n r)) ∧ Below w.heap.size w w' := by
  unfold st
  have hbel := Lib.hid (fun (o : Obj) => (Below.refl w.heap.size w).alloc (Nat.le_refl _) o)
  by_cases h0 : n = 0
  · subst h0
    by_cases h1 : r = 0
    · subst h1
      go_enter Try.func21, Try.ntmps21
      go_wp2
      go_ret
      exact ⟨rfl, hbel.out _⟩
    · have hm := Lib.hid (show may 0 r = false by rw [may, decide_eq_false_iff_not]; omega)
      go_enter Try.func21, Try.ntmps21
      go_wp2
      go_ret
      exact ⟨by rw [hm.out]; rfl, hbel.out _⟩
  · by_cases h1 : 1 ≤ n
    · by_cases h2 : n ≤ 1099511627776
      · have hm := Lib.hid (show mayR r = may n r by rw [mayR, may, decide_eq_decide]; omega)
        go_enter Try.func21, Try.ntmps21
        go_wp2_with fail
        refine (mayRep_any r _).mono ?_
        rintro e w1 ⟨rfl, rfl⟩
        go_wp2
        go_ret
        exact ⟨by rw [← hm.out]; rfl, hbel.out _⟩
      · have hm := Lib.hid (show may n r = false by rw [may, decide_eq_false_iff_not]; omega)
        go_enter Try.func21, Try.ntmps21
        go_wp2
        go_ret
        exact ⟨by rw [hm.out]; rfl, hbel.out _⟩
    · have hm := Lib.hid (show may n r = false by rw [may, decide_eq_false_iff_not]; omega)
      go_enter Try.func21, Try.ntmps21
      go_wp2
      go_ret
      exact ⟨by rw [hm.out]; rfl, hbel.out _⟩
/-! ### Less -/
def stLess (n r m s : Int) : Bool := decide (n < m ∨ n = m ∧ r < s)
set_option maxHeartbeats 1000000 in
theorem stLess_any (n r m s : Int) (w : World) : Calls Try.prog 23 #[st n r, st m s] w fun e w' => e = .returned (.bool (stLess n r m s)) ∧ Below w.heap.size w w' := by
  unfold st
  have hbel := Lib.hid (fun (o o' : Obj) => ((Below.refl w.heap.size w).alloc (Nat.le_refl _) o).alloc (by simp) o')
  by_cases h1 : n = m
  · subst h1
    by_cases h0 : r = s
    · subst h0
      have hm := Lib.hid (show stLess n r n r = false by rw [stLess, decide_eq_false_iff_not]; omega)
      go_enter Try.func23, Try.ntmps23
      go_wp2
      go_ret
      exact ⟨by rw [hm.out]; rfl, hbel.out _ _⟩
    · have hm := Lib.hid (show stLess n r n s = decide (r < s) by rw [stLess, decide_eq_decide]; omega)
      go_enter Try.func23, Try.ntmps23
      go_wp2
      go_ret
      exact ⟨by rw [hm.out]; rfl, hbel.out _ _⟩
  · have hm := Lib.hid (show stLess n r m s = decide (n < m) by rw [stLess, decide_eq_decide]; omega)
    go_enter Try.func23, Try.ntmps23
    go_wp2
    go_ret
    exact ⟨by rw [hm.out]; rfl, hbel.out _ _⟩
/-! ### A stamp that lies in a block of its own -/
/-- Block b holds the stamp n, r. -/
def StAt (w : World) (b : Nat) (n r : Int) : Prop := w.heap[b]? = some (.cells #[.int .i64 n, .int .i64 r] 33)
theorem StAt.c0 {w : World} {b : Nat} {n r : Int} (h : StAt w b n r) : w.cell? ⟨b, 0, none⟩ = some (.int .i64 n) := by rw [cell_of_row _ _ _ _ _ _ h]; rfl
theorem StAt.c1 {w : World} {b : Nat} {n r : Int} (h : StAt w b n r) : w.cell? ⟨b, 1, none⟩ = some (.int .i64 r) := by rw [cell_of_row _ _ _ _ _ _ h]; rfl
theorem StAt.fz {w : World} {b : Nat} {n r : Int} (h : StAt w b n r) (j : Nat) : w.frozen? ⟨b, j, none⟩ = false := frozen_of_row _ _ _ _ _ h
theorem StAt.lt {w : World} {b : Nat} {n r : Int} (h : StAt w b n r) : b < w.heap.size := by
  rcases Nat.lt_or_ge b w.heap.size with h1 | h1
  · exact h1
  · unfold StAt at h; rw [Array.getElem?_eq_none h1] at h; cases h
theorem StAt.below {w w' : World} {b B : Nat} {n r : Int} (h : StAt w b n r) (hb : Below B w w') (hB : b < B) : StAt w' b n r := by
  unfold StAt; rw [hb.block b hB]; exact h
theorem StAt.new (w : World) (n r : Int) : StAt (w.alloc (.cells #[.int .i64 n, .int .i64 r] 33)) w.heap.size n r := heap_alloc_new w _
theorem StAt.old {w : World} {b : Nat} {n r : Int} (h : StAt w b n r) (o : Obj) : StAt (w.alloc o) b n r := h.below ((Below.refl w.heap.size w).alloc (Nat.le_refl _) o) h.lt
theorem StAt.put {w : World} {b : Nat} {n r : Int} (h : StAt w b n r) (m s : Int) : StAt ((w.setCell ⟨b, 0, none⟩ (.int .i64 m)).setCell ⟨b, 1, none⟩ (.int .i64 s)) b m s := by
  unfold StAt
  rw [heap_setCell_same _ _ _ _ _ _ (heap_setCell_same _ _ _ _ _ _ h)]
  rfl
theorem below_put {B : Nat} {a w : World} (h : Below B a w) {b : Nat} (hb : B ≤ b) (u v : Value) : Below B a ((w.setCell ⟨b, 0, none⟩ u).setCell ⟨b, 1, none⟩ v) := (h.setCell hb u).setCell hb v
theorem load_st {w : World} {b : Nat} {n r : Int} (h : StAt w b n r) : (loadVar 33 ⟨b, 0, none⟩).run Try.prog w = .ok (st n r) w :=
  run_loadVar_row w b 33 33 _ (0, 0) _ h Try.underlying33 rfl (by kernel_rfl)
theorem res_st {fn : Func} {p : Tmp} (h : fn.results = #[.cell p 33]) {tmps : Array Value} {w : World} {b : Nat} {n r : Int} (hp : tmps.getD p undef = .pointer (some ⟨b, 0, none⟩)) (hs : StAt w b n r) :
    (results fn tmps).run Try.prog w = .ok (st n r) w := by
  have hp' : tmps[p]?.getD undef = .pointer (some ⟨b, 0, none⟩) := by simpa using hp
  simp [results, h, hp', asAddr, load_st hs]
theorem res_st2 {fn : Func} {p q : Tmp} (h : fn.results = #[.cell p 33, .tmp q]) {tmps : Array Value} {w : World} {b : Nat} {n r : Int} (hp : tmps.getD p undef = .pointer (some ⟨b, 0, none⟩)) (hs : StAt w b n r) :
    (results fn tmps).run Try.prog w = .ok (.tuple #[st n r, tmps.getD q undef]) w := by
  have hp' : tmps[p]?.getD undef = .pointer (some ⟨b, 0, none⟩) := by simpa using hp
  simp [results, h, hp', asAddr, load_st hs]
theorem res_st3 {fn : Func} {p q s : Tmp} (h : fn.results = #[.cell p 33, .tmp q, .tmp s]) {tmps : Array Value} {w : World} {b : Nat} {n r : Int} (hp : tmps.getD p undef = .pointer (some ⟨b, 0, none⟩)) (hs : StAt w b n r) :
    (results fn tmps).run Try.prog w = .ok (.tuple #[st n r, tmps.getD q undef, tmps.getD s undef]) w := by
  have hp' : tmps[p]?.getD undef = .pointer (some ⟨b, 0, none⟩) := by simpa using hp
  simp [results, h, hp', asAddr, load_st hs]
/-! ### Max -/
set_option maxHeartbeats 1000000 in
theorem stMax_any (n r m s : Int) (w : World) : Calls Try.prog 25 #[st n r, st m s] w fun e w' => e = .returned (if stLess n r m s then st m s else st n r) ∧ Below w.heap.size w w' := by
  cases hl : stLess n r m s
  · have hc := Lib.hid (stLess_any n r m s)
    rw [hl] at hc
    unfold st at hc ⊢
    have S0 := Lib.hid (((StAt.new w n r).old (.cells #[.int .i64 m, .int .i64 s] 33)).old (.cells #[.int .i64 0, .int .i64 0] 33))
    have s1 := (StAt.new (w.alloc (.cells #[.int .i64 n, .int .i64 r] 33)) m s).old (.cells #[.int .i64 0, .int .i64 0] 33)
    have s2 := (StAt.new ((w.alloc (.cells #[.int .i64 n, .int .i64 r] 33)).alloc (.cells #[.int .i64 m, .int .i64 s] 33)) 0 0)
    rw [World.size_alloc] at s1 s2
    rw [World.size_alloc] at s2
    have HB := Lib.hid (((((Below.refl w.heap.size w).alloc (Nat.le_refl _) (.cells #[.int .i64 n, .int .i64 r] 33))).alloc (by simp) (.cells #[.int .i64 m, .int .i64 s] 33)).alloc (by simp; omega) (.cells #[.int .i64 0, .int .i64 0] 33))
    have S1 := Lib.hid s1
    have S2 := Lib.hid s2
    clear s1 s2
    go_enter Try.func25, Try.ntmps25
    go_wp2_with fail
    refine (hc.out _).mono ?_
    rintro e w1 ⟨rfl, hb1⟩
    have s0 := S0.out.below hb1 S0.out.lt
    have s1 := S1.out.below hb1 S1.out.lt
    have s2 := S2.out.below hb1 S2.out.lt
    have bw := HB.out.trans (hb1.mono HB.out.size)
    have a0 := s0.c0
    have a1 := s0.c1
    have b0 := s1.c0
    have b1 := s1.c1
    have c0 := s2.c0
    have c1 := s2.c1
    have f0 := s2.fz 0
    have f1 := s2.fz 1
    have S9 := Lib.hid (s2.put n r)
    have B9 := Lib.hid (below_put bw (show w.heap.size ≤ w.heap.size + 1 + 1 by omega) (.int .i64 n) (.int .i64 r))
    clear s0 s1 s2 hb1 bw
    go_wp2
    refine bodyPost_ret (v := st n r) ?_ rfl ⟨rfl, ?_⟩
    · exact res_st Try.results25 rfl S9.out
    · exact B9.out
  · have hc := Lib.hid (stLess_any n r m s)
    rw [hl] at hc
    unfold st at hc ⊢
    have S0 := Lib.hid (((StAt.new w n r).old (.cells #[.int .i64 m, .int .i64 s] 33)).old (.cells #[.int .i64 0, .int .i64 0] 33))
    have s1 := (StAt.new (w.alloc (.cells #[.int .i64 n, .int .i64 r] 33)) m s).old (.cells #[.int .i64 0, .int .i64 0] 33)
    have s2 := (StAt.new ((w.alloc (.cells #[.int .i64 n, .int .i64 r] 33)).alloc (.cells #[.int .i64 m, .int .i64 s] 33)) 0 0)
    rw [World.size_alloc] at s1 s2
    rw [World.size_alloc] at s2
    have HB := Lib.hid (((((Below.refl w.heap.size w).alloc (Nat.le_refl _) (.cells #[.int .i64 n, .int .i64 r] 33))).alloc (by simp) (.cells #[.int .i64 m, .int .i64 s] 33)).alloc (by simp; omega) (.cells #[.int .i64 0, .int .i64 0] 33))
    have S1 := Lib.hid s1
    have S2 := Lib.hid s2
    clear s1 s2
    go_enter Try.func25, Try.ntmps25
    go_wp2_with fail
    refine (hc.out _).mono ?_
    rintro e w1 ⟨rfl, hb1⟩
    have s0 := S0.out.below hb1 S0.out.lt
    have s1 := S1.out.below hb1 S1.out.lt
    have s2 := S2.out.below hb1 S2.out.lt
    have bw := HB.out.trans (hb1.mono HB.out.size)
    have a0 := s0.c0
    have a1 := s0.c1
    have b0 := s1.c0
    have b1 := s1.c1
    have c0 := s2.c0
    have c1 := s2.c1
    have f0 := s2.fz 0
    have f1 := s2.fz 1
    have S9 := Lib.hid (s2.put m s)
    have B9 := Lib.hid (below_put bw (show w.heap.size ≤ w.heap.size + 1 + 1 by omega) (.int .i64 m) (.int .i64 s))
    clear s0 s1 s2 hb1 bw
    go_wp2
    refine bodyPost_ret (v := st m s) ?_ rfl ⟨rfl, ?_⟩
    · exact res_st Try.results25 rfl S9.out
    · exact B9.out
end Go.Proofs.Ytomlckefkamdgaa
