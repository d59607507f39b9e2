/-
  The law StampChain: for every stamp and all replicas it answers true, and nothing that was there is written.
-/
import Derived.Test.YtomlckefkamdgaaStAwake
import Derived.Test.YtomlckefkamdgaaUniG
namespace Go.Proofs.Ytomlckefkamdgaa
open Go.RowKit WM
set_option linter.unusedVariables false
theorem sizeInt (w : World) : (sizeOf 3).run Try.prog w = .ok 1 w := by
  simp [sizeOf, go_sem]
  rfl
theorem elemInt : Try.prog.elem 22 = 3 := by kernel_rfl
theorem ix_int (b off len cap i : Nat) (h : i < len) (I : Int) (e : I = i) (w : World) : (Instr.indexAt 22 (.slice (some ⟨b, off, none⟩) len cap) (.int .i64 I)).run Try.prog w = .ok (.pointer (some ⟨b, off + i, none⟩)) w := by
  subst e
  rw [run_indexAt_slice w 22 _ len cap .i64 i (by rw [elemInt]; exact Try.underlying22), if_pos (by omega), elemInt, sizeInt]
  simp [Result.andThen, Addr.add_lit]
set_option maxHeartbeats 8000000 in
theorem walk_stampChain (n r : Int) (a1 : Option Addr) (len cap : Nat) (z1 : List Int) (w : World) (hn : (Lit.int .i64 n).wf = true) (hr : (Lit.int .i64 r).wf = true) (w1 : IsRow .i64 w a1 len cap z1) :
    Calls Try.prog 10 #[st n r, .slice a1 len cap] w fun e w' => e = .returned (.bool true) ∧ Below w.heap.size w w' := by
  obtain ⟨hlc, hcm, hl, hwf, hcells⟩ := w1.cells
  simp only [maxLen] at hcm
  generalize z1.take len = zs at hl hwf hcells
  clear w1 hn hr
  by_cases h20 : 20 < len
  · clear hcells hwf hl
    unfold st
    have B0 := Lib.hid (Below.refl w.heap.size w)
    have T2n := StAt.new w n r
    have T2 := Lib.hid (T2n)
    clear T2n
    have B1 := Lib.hid (B0.out.alloc B0.out.size (.cells #[.int .i64 n, .int .i64 r] 33))
    go_enter Try.func10, Try.ntmps10
    go_wp2_with fail
    refine (stAwake _).mono ?_
    rintro e w1 ⟨rfl, hb⟩
    have T2_1 := Lib.hid (T2.out.below hb T2.out.lt)
    have B2 := Lib.hid (B1.out.trans (hb.mono B1.out.size))
    clear hb
    have c20 := T2_1.out.c0
    have c21 := T2_1.out.c1
    go_wp2
    go_ret
    exact ⟨rfl, B2.out⟩
  have HM := Lib.hid (may_any n r)
  cases hm : may n r
  · rw [hm] at HM
    unfold st at *
    clear hcells hwf hl hm
    have B0 := Lib.hid (Below.refl w.heap.size w)
    have T2n := StAt.new w n r
    have T2 := Lib.hid (T2n)
    clear T2n
    have B1 := Lib.hid (B0.out.alloc B0.out.size (.cells #[.int .i64 n, .int .i64 r] 33))
    go_enter Try.func10, Try.ntmps10
    go_wp2_with fail
    refine (stAwake _).mono ?_
    rintro e w1 ⟨rfl, hb⟩
    have T2_1 := Lib.hid (T2.out.below hb T2.out.lt)
    have B2 := Lib.hid (B1.out.trans (hb.mono B1.out.size))
    clear hb
    have c20 := T2_1.out.c0
    have c21 := T2_1.out.c1
    go_wp2_with fail
    refine (HM.out _).mono ?_
    rintro e w2 ⟨rfl, hb⟩
    have T2_2 := Lib.hid (T2_1.out.below hb T2_1.out.lt)
    have B3 := Lib.hid (B2.out.trans (hb.mono B2.out.size))
    clear hb
    clear c20 c21
    go_wp2
    go_ret
    exact ⟨rfl, B3.out⟩
  rw [hm] at HM
  have HCELLS := Lib.hid hcells
  have HWF := Lib.hid hwf
  have HL := Lib.hid hl
  have HMAY0 := Lib.hid hm
  clear hcells hwf hl hm
  unfold st at HM ⊢
  have B0 := Lib.hid (Below.refl w.heap.size w)
  have T2n := StAt.new w n r
  have T2 := Lib.hid (T2n)
  clear T2n
  have B1 := Lib.hid (B0.out.alloc B0.out.size (.cells #[.int .i64 n, .int .i64 r] 33))
  go_enter Try.func10, Try.ntmps10
  go_wp2_with fail
  refine (stAwake _).mono ?_
  rintro e w1 ⟨rfl, hb⟩
  have T2_1 := Lib.hid (T2.out.below hb T2.out.lt)
  have B2 := Lib.hid (B1.out.trans (hb.mono B1.out.size))
  clear hb
  have c20 := T2_1.out.c0
  have c21 := T2_1.out.c1
  go_wp2_with fail
  refine (HM.out _).mono ?_
  rintro e w2 ⟨rfl, hb⟩
  have T2_2 := Lib.hid (T2_1.out.below hb T2_1.out.lt)
  have B3 := Lib.hid (B2.out.trans (hb.mono B2.out.size))
  clear hb
  clear c20 c21
  have TT := T2_2
  have BB := B3
  go_wp2
  go_loopw [6] (fun i wr => ∃ (k : Nat) (n r : Int), k ≤ len ∧ i = .int .i64 (k : Int) ∧ StAt wr w.heap.size n r ∧ may n r = true ∧ Below w.heap.size w wr) (fun i _ => len - (intOf i).toNat)
  case atStart => exact ⟨0, n, r, by omega, rfl, TT.out, HMAY0.out, BB.out⟩
  case round =>
    obtain ⟨k, n, r, hk, rfl, hst, hmay, hbw⟩ := hrel
    have TS := Lib.hid hst
    have HBW := Lib.hid hbw
    by_cases hlt : k < len
    · obtain ⟨b, off, rfl, hbB, hcell⟩ := HCELLS.out (by omega)
      have hx := bounds_i64 (HWF.out (zs.getD k 0) (by rw [List.getD_eq_getElem?_getD, List.getElem?_eq_getElem (by rw [HL.out]; exact hlt)]; exact List.getElem_mem _))
      have hc := hcell k hlt
      generalize zs.getD k 0 = x at hx hc
      have HCELL := Lib.hid (fun (w9 : World) (hS : Below wr.heap.size wr w9) => ((hS.cell (p := ⟨b, off + k, none⟩) (Nat.lt_of_lt_of_le hbB hbw.size)).trans ((hbw.cell (p := ⟨b, off + k, none⟩) hbB).trans hc)))
      have HX := Lib.hid (next_any n r x)
      have HM2 := Lib.hid hmay
      have hma := may_iff.1 hmay
      clear hcell hc hst hbw HM HMAY0 HCELLS HWF
      cases hq : mayR x
      · have hq' : ¬ (0 ≤ x ∧ x < 8) := by unfold mayR at hq; simpa using hq
        rw [show nxt n r x = (0, 0, 1) by simp [nxt, hq]] at HX
        unfold nxtV at HX
        unfold st at HX
        clear hq hmay hma
        by_cases hx0 : x < 0
        · clear hq'
          go_wp2_with fail
          refine wp_region_G wr (by kernel_rfl) ?_
          refine wpG_take (i := 0) (oi := ⟨some 30, _, _, _, _, _⟩) (v := ?_) rfl (by kernel_rfl) (by kernel_rfl) (by kernel_rfl) (Or.inl ⟨by rfl, unib_val ?_⟩) ?_; rotate_left; (focus (intro w9 hSw; have q9 := TS.out.below hSw TS.out.lt; have q0 := q9.c0; have q1 := q9.c1; go_simp; try with_reducible rfl)); simp only [Act.put, List.setIfInBounds_toArray, List.set_cons_zero, List.set_cons_succ]
          refine wpG_take (i := 1) (oi := ⟨some 31, _, _, _, _, _⟩) (v := ?_) rfl (by kernel_rfl) (by kernel_rfl) (by kernel_rfl) (Or.inl ⟨by rfl, unib_val ?_⟩) ?_; rotate_left; (focus (intro w9 hSw; go_simp; try with_reducible rfl)); simp only [Act.put, List.setIfInBounds_toArray, List.set_cons_zero, List.set_cons_succ]
          refine wpG_take (i := 2) (oi := ⟨some 32, _, _, _, _, _⟩) (v := ?_) rfl (by kernel_rfl) (by kernel_rfl) (by kernel_rfl) (Or.inl ⟨by rfl, unib_val ?_⟩) ?_; rotate_left; (focus (intro w9 hSw; go_simp; try with_reducible rfl)); simp only [Act.put, List.setIfInBounds_toArray, List.set_cons_zero, List.set_cons_succ]
          refine wpG_take (i := 3) (oi := ⟨some 33, _, _, _, _, _⟩) (v := ?_) rfl (by kernel_rfl) (by kernel_rfl) (by kernel_rfl) (Or.inl ⟨by rfl, unib_val ?_⟩) ?_; rotate_left; (focus (intro w9 hSw; have q0 := ix_int b off len cap k hlt k rfl w9; go_simp; try with_reducible rfl)); simp only [Act.put, List.setIfInBounds_toArray, List.set_cons_zero, List.set_cons_succ]
          refine wpG_take (i := 4) (oi := ⟨some 34, _, _, _, _, _⟩) (v := ?_) rfl (by kernel_rfl) (by kernel_rfl) (by kernel_rfl) (Or.inl ⟨by rfl, unib_val ?_⟩) ?_; rotate_left; (focus (intro w9 hSw; have q0 := HCELL.out w9 hSw; go_simp; try with_reducible rfl)); simp only [Act.put, List.setIfInBounds_toArray, List.set_cons_zero, List.set_cons_succ]
          refine wpG_take (i := 5) (oi := ⟨some 35, _, _, _, _, _⟩) rfl (by kernel_rfl) (by kernel_rfl) (by kernel_rfl) (Or.inl ⟨by rfl, unib_call ?_ HX.out⟩) ?_; (focus (intro w9 hSw; go_simp; try with_reducible rfl)); simp only [Act.put, List.setIfInBounds_toArray, List.set_cons_zero, List.set_cons_succ]
          refine wpG_take (i := 6) (oi := ⟨some 29, _, _, _, _, _⟩) (v := ?_) rfl (by kernel_rfl) (by kernel_rfl) (by kernel_rfl) (Or.inl ⟨by rfl, unib_val ?_⟩) ?_; rotate_left; (focus (intro w9 hSw; go_simp; try with_reducible rfl)); simp only [Act.put, List.setIfInBounds_toArray, List.set_cons_zero, List.set_cons_succ]
          refine wpG_take (i := 7) (oi := ⟨some 36, _, _, _, _, _⟩) (v := ?_) rfl (by kernel_rfl) (by kernel_rfl) (by kernel_rfl) (Or.inl ⟨by rfl, unib_val ?_⟩) ?_; rotate_left; (focus (intro w9 hSw; go_simp; try with_reducible rfl)); simp only [Act.put, List.setIfInBounds_toArray, List.set_cons_zero, List.set_cons_succ]
          refine wpG_take (i := 8) (oi := ⟨some 37, _, _, _, _, _⟩) (v := ?_) rfl (by kernel_rfl) (by kernel_rfl) (by kernel_rfl) (Or.inl ⟨by rfl, unib_val ?_⟩) ?_; rotate_left; (focus (intro w9 hSw; go_simp; try with_reducible rfl)); simp only [Act.put, List.setIfInBounds_toArray, List.set_cons_zero, List.set_cons_succ]
          refine wpG_alloc (i := 9) (oi := ⟨some 7, _, _, _, _, _⟩) (z := #[.int .i64 0, .int .i64 0]) (t := 33) (by kernel_rfl) rfl ⟨by rfl, fun w9 hSw => by go_simp; try rfl⟩ ?_; intro g hg ng; simp only [Act.put, List.setIfInBounds_toArray, List.set_cons_zero, List.set_cons_succ]
          refine wpG_store (i := 10) (oi := ⟨none, _, _, _, _, _⟩) (v := undef) [(g, #[.int .i64 0, .int .i64 0], 33)] (by kernel_rfl) rfl ⟨by rfl, fun w9 hSw hO => ?_⟩ ?_; (focus (have q9 : StAt w9 g 0 0 := hO _ (.head _); have q0 := q9.c0; have q1 := q9.c1; have f0 := q9.fz 0; have f1 := q9.fz 1; refine ⟨_, Or.inr ⟨by go_simp; try rfl, rfl⟩, below_put hSw hg _ _, ?_⟩; intro x hx; obtain rfl := List.mem_singleton.1 hx; exact q9.put 0 0)); simp only [Act.put]
          refine wpG_take (i := 11) (oi := ⟨some 8, _, _, _, _, _⟩) (v := ?_) rfl (by kernel_rfl) (by kernel_rfl) (by kernel_rfl) (Or.inl ⟨by rfl, unib_val ?_⟩) ?_; rotate_left; (focus (intro w9 hSw; go_simp; try with_reducible rfl)); simp only [Act.put, List.setIfInBounds_toArray, List.set_cons_zero, List.set_cons_succ]
          refine wpG_done (by kernel_rfl) ?_ _
          intro w2 hb hO
          have TS2 := Lib.hid (TS.out.below hb TS.out.lt)
          have TG := Lib.hid (show StAt _ g 0 0 from hO _ (.head _))
          have B2 := Lib.hid (HBW.out.trans (hb.mono HBW.out.size))
          have HC2 := Lib.hid (HCELL.out w2 hb)
          clear hb hO
          have a0 := TS2.out.c0
          have a1 := TS2.out.c1
          have hcell := HC2.out
          go_wp2
          go_ret
          exact ⟨rfl, B2.out⟩
        · have hx7 : 7 < x := by omega
          clear hq'
          go_wp2_with fail
          refine wp_region_G wr (by kernel_rfl) ?_
          refine wpG_take (i := 0) (oi := ⟨some 30, _, _, _, _, _⟩) (v := ?_) rfl (by kernel_rfl) (by kernel_rfl) (by kernel_rfl) (Or.inl ⟨by rfl, unib_val ?_⟩) ?_; rotate_left; (focus (intro w9 hSw; have q9 := TS.out.below hSw TS.out.lt; have q0 := q9.c0; have q1 := q9.c1; go_simp; try with_reducible rfl)); simp only [Act.put, List.setIfInBounds_toArray, List.set_cons_zero, List.set_cons_succ]
          refine wpG_take (i := 1) (oi := ⟨some 31, _, _, _, _, _⟩) (v := ?_) rfl (by kernel_rfl) (by kernel_rfl) (by kernel_rfl) (Or.inl ⟨by rfl, unib_val ?_⟩) ?_; rotate_left; (focus (intro w9 hSw; go_simp; try with_reducible rfl)); simp only [Act.put, List.setIfInBounds_toArray, List.set_cons_zero, List.set_cons_succ]
          refine wpG_take (i := 2) (oi := ⟨some 32, _, _, _, _, _⟩) (v := ?_) rfl (by kernel_rfl) (by kernel_rfl) (by kernel_rfl) (Or.inl ⟨by rfl, unib_val ?_⟩) ?_; rotate_left; (focus (intro w9 hSw; go_simp; try with_reducible rfl)); simp only [Act.put, List.setIfInBounds_toArray, List.set_cons_zero, List.set_cons_succ]
          refine wpG_take (i := 3) (oi := ⟨some 33, _, _, _, _, _⟩) (v := ?_) rfl (by kernel_rfl) (by kernel_rfl) (by kernel_rfl) (Or.inl ⟨by rfl, unib_val ?_⟩) ?_; rotate_left; (focus (intro w9 hSw; have q0 := ix_int b off len cap k hlt k rfl w9; go_simp; try with_reducible rfl)); simp only [Act.put, List.setIfInBounds_toArray, List.set_cons_zero, List.set_cons_succ]
          refine wpG_take (i := 4) (oi := ⟨some 34, _, _, _, _, _⟩) (v := ?_) rfl (by kernel_rfl) (by kernel_rfl) (by kernel_rfl) (Or.inl ⟨by rfl, unib_val ?_⟩) ?_; rotate_left; (focus (intro w9 hSw; have q0 := HCELL.out w9 hSw; go_simp; try with_reducible rfl)); simp only [Act.put, List.setIfInBounds_toArray, List.set_cons_zero, List.set_cons_succ]
          refine wpG_take (i := 5) (oi := ⟨some 35, _, _, _, _, _⟩) rfl (by kernel_rfl) (by kernel_rfl) (by kernel_rfl) (Or.inl ⟨by rfl, unib_call ?_ HX.out⟩) ?_; (focus (intro w9 hSw; go_simp; try with_reducible rfl)); simp only [Act.put, List.setIfInBounds_toArray, List.set_cons_zero, List.set_cons_succ]
          refine wpG_take (i := 6) (oi := ⟨some 29, _, _, _, _, _⟩) (v := ?_) rfl (by kernel_rfl) (by kernel_rfl) (by kernel_rfl) (Or.inl ⟨by rfl, unib_val ?_⟩) ?_; rotate_left; (focus (intro w9 hSw; go_simp; try with_reducible rfl)); simp only [Act.put, List.setIfInBounds_toArray, List.set_cons_zero, List.set_cons_succ]
          refine wpG_take (i := 7) (oi := ⟨some 36, _, _, _, _, _⟩) (v := ?_) rfl (by kernel_rfl) (by kernel_rfl) (by kernel_rfl) (Or.inl ⟨by rfl, unib_val ?_⟩) ?_; rotate_left; (focus (intro w9 hSw; go_simp; try with_reducible rfl)); simp only [Act.put, List.setIfInBounds_toArray, List.set_cons_zero, List.set_cons_succ]
          refine wpG_take (i := 8) (oi := ⟨some 37, _, _, _, _, _⟩) (v := ?_) rfl (by kernel_rfl) (by kernel_rfl) (by kernel_rfl) (Or.inl ⟨by rfl, unib_val ?_⟩) ?_; rotate_left; (focus (intro w9 hSw; go_simp; try with_reducible rfl)); simp only [Act.put, List.setIfInBounds_toArray, List.set_cons_zero, List.set_cons_succ]
          refine wpG_alloc (i := 9) (oi := ⟨some 7, _, _, _, _, _⟩) (z := #[.int .i64 0, .int .i64 0]) (t := 33) (by kernel_rfl) rfl ⟨by rfl, fun w9 hSw => by go_simp; try rfl⟩ ?_; intro g hg ng; simp only [Act.put, List.setIfInBounds_toArray, List.set_cons_zero, List.set_cons_succ]
          refine wpG_store (i := 10) (oi := ⟨none, _, _, _, _, _⟩) (v := undef) [(g, #[.int .i64 0, .int .i64 0], 33)] (by kernel_rfl) rfl ⟨by rfl, fun w9 hSw hO => ?_⟩ ?_; (focus (have q9 : StAt w9 g 0 0 := hO _ (.head _); have q0 := q9.c0; have q1 := q9.c1; have f0 := q9.fz 0; have f1 := q9.fz 1; refine ⟨_, Or.inr ⟨by go_simp; try rfl, rfl⟩, below_put hSw hg _ _, ?_⟩; intro x hx; obtain rfl := List.mem_singleton.1 hx; exact q9.put 0 0)); simp only [Act.put]
          refine wpG_take (i := 11) (oi := ⟨some 8, _, _, _, _, _⟩) (v := ?_) rfl (by kernel_rfl) (by kernel_rfl) (by kernel_rfl) (Or.inl ⟨by rfl, unib_val ?_⟩) ?_; rotate_left; (focus (intro w9 hSw; go_simp; try with_reducible rfl)); simp only [Act.put, List.setIfInBounds_toArray, List.set_cons_zero, List.set_cons_succ]
          refine wpG_done (by kernel_rfl) ?_ _
          intro w2 hb hO
          have TS2 := Lib.hid (TS.out.below hb TS.out.lt)
          have TG := Lib.hid (show StAt _ g 0 0 from hO _ (.head _))
          have B2 := Lib.hid (HBW.out.trans (hb.mono HBW.out.size))
          have HC2 := Lib.hid (HCELL.out w2 hb)
          clear hb hO
          have a0 := TS2.out.c0
          have a1 := TS2.out.c1
          have hcell := HC2.out
          go_wp2
          go_ret
          exact ⟨rfl, B2.out⟩
      · have hq' : 0 ≤ x ∧ x < 8 := by unfold mayR at hq; simpa using hq
        by_cases h40 : n = 1099511627776
        · subst h40
          rw [show nxt 1099511627776 r x = (0, 0, 4) by simp [nxt, hq, hmay]] at HX
          unfold nxtV at HX
          unfold st at HX
          clear hq hmay hma
          have hx0 : ¬ x < 0 := by omega
          have hx7 : ¬ 7 < x := by omega
          clear hq'
          go_wp2_with fail
          refine wp_region_G wr (by kernel_rfl) ?_
          refine wpG_take (i := 0) (oi := ⟨some 30, _, _, _, _, _⟩) (v := ?_) rfl (by kernel_rfl) (by kernel_rfl) (by kernel_rfl) (Or.inl ⟨by rfl, unib_val ?_⟩) ?_; rotate_left; (focus (intro w9 hSw; have q9 := TS.out.below hSw TS.out.lt; have q0 := q9.c0; have q1 := q9.c1; go_simp; try with_reducible rfl)); simp only [Act.put, List.setIfInBounds_toArray, List.set_cons_zero, List.set_cons_succ]
          refine wpG_take (i := 1) (oi := ⟨some 31, _, _, _, _, _⟩) (v := ?_) rfl (by kernel_rfl) (by kernel_rfl) (by kernel_rfl) (Or.inl ⟨by rfl, unib_val ?_⟩) ?_; rotate_left; (focus (intro w9 hSw; go_simp; try with_reducible rfl)); simp only [Act.put, List.setIfInBounds_toArray, List.set_cons_zero, List.set_cons_succ]
          refine wpG_take (i := 2) (oi := ⟨some 32, _, _, _, _, _⟩) (v := ?_) rfl (by kernel_rfl) (by kernel_rfl) (by kernel_rfl) (Or.inl ⟨by rfl, unib_val ?_⟩) ?_; rotate_left; (focus (intro w9 hSw; go_simp; try with_reducible rfl)); simp only [Act.put, List.setIfInBounds_toArray, List.set_cons_zero, List.set_cons_succ]
          refine wpG_take (i := 3) (oi := ⟨some 33, _, _, _, _, _⟩) (v := ?_) rfl (by kernel_rfl) (by kernel_rfl) (by kernel_rfl) (Or.inl ⟨by rfl, unib_val ?_⟩) ?_; rotate_left; (focus (intro w9 hSw; have q0 := ix_int b off len cap k hlt k rfl w9; go_simp; try with_reducible rfl)); simp only [Act.put, List.setIfInBounds_toArray, List.set_cons_zero, List.set_cons_succ]
          refine wpG_take (i := 4) (oi := ⟨some 34, _, _, _, _, _⟩) (v := ?_) rfl (by kernel_rfl) (by kernel_rfl) (by kernel_rfl) (Or.inl ⟨by rfl, unib_val ?_⟩) ?_; rotate_left; (focus (intro w9 hSw; have q0 := HCELL.out w9 hSw; go_simp; try with_reducible rfl)); simp only [Act.put, List.setIfInBounds_toArray, List.set_cons_zero, List.set_cons_succ]
          refine wpG_take (i := 5) (oi := ⟨some 35, _, _, _, _, _⟩) rfl (by kernel_rfl) (by kernel_rfl) (by kernel_rfl) (Or.inl ⟨by rfl, unib_call ?_ HX.out⟩) ?_; (focus (intro w9 hSw; go_simp; try with_reducible rfl)); simp only [Act.put, List.setIfInBounds_toArray, List.set_cons_zero, List.set_cons_succ]
          refine wpG_take (i := 6) (oi := ⟨some 29, _, _, _, _, _⟩) (v := ?_) rfl (by kernel_rfl) (by kernel_rfl) (by kernel_rfl) (Or.inl ⟨by rfl, unib_val ?_⟩) ?_; rotate_left; (focus (intro w9 hSw; go_simp; try with_reducible rfl)); simp only [Act.put, List.setIfInBounds_toArray, List.set_cons_zero, List.set_cons_succ]
          refine wpG_take (i := 7) (oi := ⟨some 36, _, _, _, _, _⟩) (v := ?_) rfl (by kernel_rfl) (by kernel_rfl) (by kernel_rfl) (Or.inl ⟨by rfl, unib_val ?_⟩) ?_; rotate_left; (focus (intro w9 hSw; go_simp; try with_reducible rfl)); simp only [Act.put, List.setIfInBounds_toArray, List.set_cons_zero, List.set_cons_succ]
          refine wpG_take (i := 8) (oi := ⟨some 37, _, _, _, _, _⟩) (v := ?_) rfl (by kernel_rfl) (by kernel_rfl) (by kernel_rfl) (Or.inl ⟨by rfl, unib_val ?_⟩) ?_; rotate_left; (focus (intro w9 hSw; go_simp; try with_reducible rfl)); simp only [Act.put, List.setIfInBounds_toArray, List.set_cons_zero, List.set_cons_succ]
          refine wpG_alloc (i := 9) (oi := ⟨some 7, _, _, _, _, _⟩) (z := #[.int .i64 0, .int .i64 0]) (t := 33) (by kernel_rfl) rfl ⟨by rfl, fun w9 hSw => by go_simp; try rfl⟩ ?_; intro g hg ng; simp only [Act.put, List.setIfInBounds_toArray, List.set_cons_zero, List.set_cons_succ]
          refine wpG_store (i := 10) (oi := ⟨none, _, _, _, _, _⟩) (v := undef) [(g, #[.int .i64 0, .int .i64 0], 33)] (by kernel_rfl) rfl ⟨by rfl, fun w9 hSw hO => ?_⟩ ?_; (focus (have q9 : StAt w9 g 0 0 := hO _ (.head _); have q0 := q9.c0; have q1 := q9.c1; have f0 := q9.fz 0; have f1 := q9.fz 1; refine ⟨_, Or.inr ⟨by go_simp; try rfl, rfl⟩, below_put hSw hg _ _, ?_⟩; intro x hx; obtain rfl := List.mem_singleton.1 hx; exact q9.put 0 0)); simp only [Act.put]
          refine wpG_take (i := 11) (oi := ⟨some 8, _, _, _, _, _⟩) (v := ?_) rfl (by kernel_rfl) (by kernel_rfl) (by kernel_rfl) (Or.inl ⟨by rfl, unib_val ?_⟩) ?_; rotate_left; (focus (intro w9 hSw; go_simp; try with_reducible rfl)); simp only [Act.put, List.setIfInBounds_toArray, List.set_cons_zero, List.set_cons_succ]
          refine wpG_done (by kernel_rfl) ?_ _
          intro w2 hb hO
          have TS2 := Lib.hid (TS.out.below hb TS.out.lt)
          have TG := Lib.hid (show StAt _ g 0 0 from hO _ (.head _))
          have B2 := Lib.hid (HBW.out.trans (hb.mono HBW.out.size))
          have HC2 := Lib.hid (HCELL.out w2 hb)
          clear hb hO
          have a0 := TS2.out.c0
          have a1 := TS2.out.c1
          have hcell := HC2.out
          go_wp2
          go_ret
          exact ⟨rfl, B2.out⟩
        · rw [show nxt n r x = (n + 1, x, 0) by simp [nxt, hq, hmay, h40]] at HX
          have HMAY := Lib.hid (show may (n + 1) x = true from may_iff.2 (by omega))
          have HL := Lib.hid (stLess_any n r (n + 1) x)
          have HMX := Lib.hid (stMax_any n r (n + 1) x)
          have hls : stLess n r (n + 1) x = true := by rw [stLess, decide_eq_true_iff]; omega
          rw [hls] at HL HMX
          simp only [if_true] at HMX
          unfold nxtV at HX
          unfold st at HX HL HMX
          have hw : IntKind.i64.wrap (n + 1) = n + 1 := IntWalk.i64_in _ (by omega)
          clear hq hmay hma hls hq'
          go_wp2_with fail
          refine wp_region_G wr (by kernel_rfl) ?_
          refine wpG_take (i := 0) (oi := ⟨some 30, _, _, _, _, _⟩) (v := ?_) rfl (by kernel_rfl) (by kernel_rfl) (by kernel_rfl) (Or.inl ⟨by rfl, unib_val ?_⟩) ?_; rotate_left; (focus (intro w9 hSw; have q9 := TS.out.below hSw TS.out.lt; have q0 := q9.c0; have q1 := q9.c1; go_simp; try with_reducible rfl)); simp only [Act.put, List.setIfInBounds_toArray, List.set_cons_zero, List.set_cons_succ]
          refine wpG_take (i := 1) (oi := ⟨some 31, _, _, _, _, _⟩) (v := ?_) rfl (by kernel_rfl) (by kernel_rfl) (by kernel_rfl) (Or.inl ⟨by rfl, unib_val ?_⟩) ?_; rotate_left; (focus (intro w9 hSw; go_simp; try with_reducible rfl)); simp only [Act.put, List.setIfInBounds_toArray, List.set_cons_zero, List.set_cons_succ]
          refine wpG_take (i := 2) (oi := ⟨some 32, _, _, _, _, _⟩) (v := ?_) rfl (by kernel_rfl) (by kernel_rfl) (by kernel_rfl) (Or.inl ⟨by rfl, unib_val ?_⟩) ?_; rotate_left; (focus (intro w9 hSw; go_simp; try with_reducible rfl)); simp only [Act.put, List.setIfInBounds_toArray, List.set_cons_zero, List.set_cons_succ]
          refine wpG_take (i := 3) (oi := ⟨some 33, _, _, _, _, _⟩) (v := ?_) rfl (by kernel_rfl) (by kernel_rfl) (by kernel_rfl) (Or.inl ⟨by rfl, unib_val ?_⟩) ?_; rotate_left; (focus (intro w9 hSw; have q0 := ix_int b off len cap k hlt k rfl w9; go_simp; try with_reducible rfl)); simp only [Act.put, List.setIfInBounds_toArray, List.set_cons_zero, List.set_cons_succ]
          refine wpG_take (i := 4) (oi := ⟨some 34, _, _, _, _, _⟩) (v := ?_) rfl (by kernel_rfl) (by kernel_rfl) (by kernel_rfl) (Or.inl ⟨by rfl, unib_val ?_⟩) ?_; rotate_left; (focus (intro w9 hSw; have q0 := HCELL.out w9 hSw; go_simp; try with_reducible rfl)); simp only [Act.put, List.setIfInBounds_toArray, List.set_cons_zero, List.set_cons_succ]
          refine wpG_take (i := 5) (oi := ⟨some 35, _, _, _, _, _⟩) rfl (by kernel_rfl) (by kernel_rfl) (by kernel_rfl) (Or.inl ⟨by rfl, unib_call ?_ HX.out⟩) ?_; (focus (intro w9 hSw; go_simp; try with_reducible rfl)); simp only [Act.put, List.setIfInBounds_toArray, List.set_cons_zero, List.set_cons_succ]
          refine wpG_take (i := 6) (oi := ⟨some 29, _, _, _, _, _⟩) (v := ?_) rfl (by kernel_rfl) (by kernel_rfl) (by kernel_rfl) (Or.inl ⟨by rfl, unib_val ?_⟩) ?_; rotate_left; (focus (intro w9 hSw; go_simp; try with_reducible rfl)); simp only [Act.put, List.setIfInBounds_toArray, List.set_cons_zero, List.set_cons_succ]
          refine wpG_take (i := 7) (oi := ⟨some 36, _, _, _, _, _⟩) (v := ?_) rfl (by kernel_rfl) (by kernel_rfl) (by kernel_rfl) (Or.inl ⟨by rfl, unib_val ?_⟩) ?_; rotate_left; (focus (intro w9 hSw; go_simp; try with_reducible rfl)); simp only [Act.put, List.setIfInBounds_toArray, List.set_cons_zero, List.set_cons_succ]
          refine wpG_take (i := 8) (oi := ⟨some 37, _, _, _, _, _⟩) (v := ?_) rfl (by kernel_rfl) (by kernel_rfl) (by kernel_rfl) (Or.inl ⟨by rfl, unib_val ?_⟩) ?_; rotate_left; (focus (intro w9 hSw; go_simp; try with_reducible rfl)); simp only [Act.put, List.setIfInBounds_toArray, List.set_cons_zero, List.set_cons_succ]
          refine wpG_alloc (i := 9) (oi := ⟨some 7, _, _, _, _, _⟩) (z := #[.int .i64 0, .int .i64 0]) (t := 33) (by kernel_rfl) rfl ⟨by rfl, fun w9 hSw => by go_simp; try rfl⟩ ?_; intro g hg ng; simp only [Act.put, List.setIfInBounds_toArray, List.set_cons_zero, List.set_cons_succ]
          refine wpG_store (i := 10) (oi := ⟨none, _, _, _, _, _⟩) (v := undef) [(g, #[.int .i64 (n + 1), .int .i64 x], 33)] (by kernel_rfl) rfl ⟨by rfl, fun w9 hSw hO => ?_⟩ ?_; (focus (have q9 : StAt w9 g 0 0 := hO _ (.head _); have q0 := q9.c0; have q1 := q9.c1; have f0 := q9.fz 0; have f1 := q9.fz 1; refine ⟨_, Or.inr ⟨by go_simp; try rfl, rfl⟩, below_put hSw hg _ _, ?_⟩; intro x hx; obtain rfl := List.mem_singleton.1 hx; exact q9.put (n + 1) x)); simp only [Act.put]
          refine wpG_take (i := 11) (oi := ⟨some 8, _, _, _, _, _⟩) (v := ?_) rfl (by kernel_rfl) (by kernel_rfl) (by kernel_rfl) (Or.inl ⟨by rfl, unib_val ?_⟩) ?_; rotate_left; (focus (intro w9 hSw; go_simp; try with_reducible rfl)); simp only [Act.put, List.setIfInBounds_toArray, List.set_cons_zero, List.set_cons_succ]
          refine wpG_done (by kernel_rfl) ?_ _
          intro w2 hb hO
          have TS2 := Lib.hid (TS.out.below hb TS.out.lt)
          have TG := Lib.hid (show StAt _ g (n + 1) x from hO _ (.head _))
          have B2 := Lib.hid (HBW.out.trans (hb.mono HBW.out.size))
          have HC2 := Lib.hid (HCELL.out w2 hb)
          clear hb hO
          go_wp2_with fail
          refine wp_region_G w2 (by kernel_rfl) ?_
          refine wpG_take (i := 0) (oi := ⟨some 57, _, _, _, _, _⟩) (v := ?_) rfl (by kernel_rfl) (by kernel_rfl) (by kernel_rfl) (Or.inl ⟨by rfl, unib_val ?_⟩) ?_; rotate_left; (focus (intro w9 hSw; go_simp; try with_reducible rfl)); simp only [Act.put, List.setIfInBounds_toArray, List.set_cons_zero, List.set_cons_succ]
          refine wpG_take (i := 1) (oi := ⟨some 58, _, _, _, _, _⟩) (v := ?_) rfl (by kernel_rfl) (by kernel_rfl) (by kernel_rfl) (Or.inl ⟨by rfl, unib_val ?_⟩) ?_; rotate_left; (focus (intro w9 hSw; have q9 := TG.out.below hSw TG.out.lt; have q0 := q9.c0; go_simp; try with_reducible rfl)); simp only [Act.put, List.setIfInBounds_toArray, List.set_cons_zero, List.set_cons_succ]
          refine wpG_take (i := 2) (oi := ⟨some 59, _, _, _, _, _⟩) (v := ?_) rfl (by kernel_rfl) (by kernel_rfl) (by kernel_rfl) (Or.inl ⟨by rfl, unib_val ?_⟩) ?_; rotate_left; (focus (intro w9 hSw; go_simp; try with_reducible rfl)); simp only [Act.put, List.setIfInBounds_toArray, List.set_cons_zero, List.set_cons_succ]
          refine wpG_take (i := 3) (oi := ⟨some 60, _, _, _, _, _⟩) (v := ?_) rfl (by kernel_rfl) (by kernel_rfl) (by kernel_rfl) (Or.inl ⟨by rfl, unib_val ?_⟩) ?_; rotate_left; (focus (intro w9 hSw; have q9 := TS2.out.below hSw TS2.out.lt; have q0 := q9.c0; go_simp; try with_reducible rfl)); simp only [Act.put, List.setIfInBounds_toArray, List.set_cons_zero, List.set_cons_succ]
          refine wpG_take (i := 4) (oi := ⟨some 61, _, _, _, _, _⟩) (v := ?_) rfl (by kernel_rfl) (by kernel_rfl) (by kernel_rfl) (Or.inl ⟨by rfl, unib_val ?_⟩) ?_; rotate_left; (focus (intro w9 hSw; go_simp; try with_reducible rfl)); simp only [Act.put, List.setIfInBounds_toArray, List.set_cons_zero, List.set_cons_succ]
          refine wpG_take (i := 5) (oi := ⟨some 62, _, _, _, _, _⟩) (v := ?_) rfl (by kernel_rfl) (by kernel_rfl) (by kernel_rfl) (Or.inl ⟨by rfl, unib_val ?_⟩) ?_; rotate_left; (focus (intro w9 hSw; go_simp; try with_reducible rfl)); simp only [Act.put, List.setIfInBounds_toArray, List.set_cons_zero, List.set_cons_succ]
          refine wpG_take (i := 6) (oi := ⟨some 63, _, _, _, _, _⟩) (v := ?_) rfl (by kernel_rfl) (by kernel_rfl) (by kernel_rfl) (Or.inl ⟨by rfl, unib_val ?_⟩) ?_; rotate_left; (focus (intro w9 hSw; go_simp; try with_reducible rfl)); simp only [Act.put, List.setIfInBounds_toArray, List.set_cons_zero, List.set_cons_succ]
          refine wpG_take (i := 7) (oi := ⟨some 64, _, _, _, _, _⟩) (v := ?_) rfl (by kernel_rfl) (by kernel_rfl) (by kernel_rfl) (Or.inl ⟨by rfl, unib_val ?_⟩) ?_; rotate_left; (focus (intro w9 hSw; have q9 := TS2.out.below hSw TS2.out.lt; have q0 := q9.c0; have q1 := q9.c1; go_simp; try with_reducible rfl)); simp only [Act.put, List.setIfInBounds_toArray, List.set_cons_zero, List.set_cons_succ]
          refine wpG_take (i := 8) (oi := ⟨some 65, _, _, _, _, _⟩) (v := ?_) rfl (by kernel_rfl) (by kernel_rfl) (by kernel_rfl) (Or.inl ⟨by rfl, unib_val ?_⟩) ?_; rotate_left; (focus (intro w9 hSw; have q9 := TG.out.below hSw TG.out.lt; have q0 := q9.c0; have q1 := q9.c1; go_simp; try with_reducible rfl)); simp only [Act.put, List.setIfInBounds_toArray, List.set_cons_zero, List.set_cons_succ]
          refine wpG_take (i := 9) (oi := ⟨some 66, _, _, _, _, _⟩) rfl (by kernel_rfl) (by kernel_rfl) (by kernel_rfl) (Or.inl ⟨by rfl, unib_call ?_ HL.out⟩) ?_; (focus (intro w9 hSw; go_simp; try with_reducible rfl)); simp only [Act.put, List.setIfInBounds_toArray, List.set_cons_zero, List.set_cons_succ]
          refine wpG_take (i := 10) (oi := ⟨some 67, _, _, _, _, _⟩) (v := ?_) rfl (by kernel_rfl) (by kernel_rfl) (by kernel_rfl) (Or.inl ⟨by rfl, unib_val ?_⟩) ?_; rotate_left; (focus (intro w9 hSw; go_simp; try with_reducible rfl)); simp only [Act.put, List.setIfInBounds_toArray, List.set_cons_zero, List.set_cons_succ]
          refine wpG_take (i := 11) (oi := ⟨some 68, _, _, _, _, _⟩) (v := ?_) rfl (by kernel_rfl) (by kernel_rfl) (by kernel_rfl) (Or.inl ⟨by rfl, unib_val ?_⟩) ?_; rotate_left; (focus (intro w9 hSw; go_simp; try with_reducible rfl)); simp only [Act.put, List.setIfInBounds_toArray, List.set_cons_zero, List.set_cons_succ]
          refine wpG_take (i := 12) (oi := ⟨some 69, _, _, _, _, _⟩) (v := ?_) rfl (by kernel_rfl) (by kernel_rfl) (by kernel_rfl) (Or.inl ⟨by rfl, unib_val ?_⟩) ?_; rotate_left; (focus (intro w9 hSw; go_simp; try with_reducible rfl)); simp only [Act.put, List.setIfInBounds_toArray, List.set_cons_zero, List.set_cons_succ]
          refine wpG_take (i := 13) (oi := ⟨some 70, _, _, _, _, _⟩) (v := ?_) rfl (by kernel_rfl) (by kernel_rfl) (by kernel_rfl) (Or.inl ⟨by rfl, unib_val ?_⟩) ?_; rotate_left; (focus (intro w9 hSw; have q9 := TS2.out.below hSw TS2.out.lt; have q0 := q9.c0; have q1 := q9.c1; go_simp; try with_reducible rfl)); simp only [Act.put, List.setIfInBounds_toArray, List.set_cons_zero, List.set_cons_succ]
          refine wpG_take (i := 14) (oi := ⟨some 71, _, _, _, _, _⟩) (v := ?_) rfl (by kernel_rfl) (by kernel_rfl) (by kernel_rfl) (Or.inl ⟨by rfl, unib_val ?_⟩) ?_; rotate_left; (focus (intro w9 hSw; have q9 := TG.out.below hSw TG.out.lt; have q0 := q9.c0; have q1 := q9.c1; go_simp; try with_reducible rfl)); simp only [Act.put, List.setIfInBounds_toArray, List.set_cons_zero, List.set_cons_succ]
          refine wpG_take (i := 15) (oi := ⟨some 72, _, _, _, _, _⟩) rfl (by kernel_rfl) (by kernel_rfl) (by kernel_rfl) (Or.inl ⟨by rfl, unib_call ?_ HMX.out⟩) ?_; (focus (intro w9 hSw; go_simp; try with_reducible rfl)); simp only [Act.put, List.setIfInBounds_toArray, List.set_cons_zero, List.set_cons_succ]
          refine wpG_take (i := 16) (oi := ⟨some 73, _, _, _, _, _⟩) (v := ?_) rfl (by kernel_rfl) (by kernel_rfl) (by kernel_rfl) (Or.inl ⟨by rfl, unib_val ?_⟩) ?_; rotate_left; (focus (intro w9 hSw; have q9 := TG.out.below hSw TG.out.lt; have q0 := q9.c0; have q1 := q9.c1; go_simp; try with_reducible rfl)); simp only [Act.put, List.setIfInBounds_toArray, List.set_cons_zero, List.set_cons_succ]
          refine wpG_take (i := 17) (oi := ⟨some 74, _, _, _, _, _⟩) (v := ?_) rfl (by kernel_rfl) (by kernel_rfl) (by kernel_rfl) (Or.inl ⟨by rfl, unib_val ?_⟩) ?_; rotate_left; (focus (intro w9 hSw; go_simp; try with_reducible rfl)); simp only [Act.put, List.setIfInBounds_toArray, List.set_cons_zero, List.set_cons_succ]
          refine wpG_take (i := 18) (oi := ⟨some 75, _, _, _, _, _⟩) (v := ?_) rfl (by kernel_rfl) (by kernel_rfl) (by kernel_rfl) (Or.inl ⟨by rfl, unib_val ?_⟩) ?_; rotate_left; (focus (intro w9 hSw; go_simp; try with_reducible rfl)); simp only [Act.put, List.setIfInBounds_toArray, List.set_cons_zero, List.set_cons_succ]
          refine wpG_done (by kernel_rfl) ?_ _
          intro w3 hb hO
          have ts := TS2.out.below hb TS2.out.lt
          have tg := TG.out.below hb TG.out.lt
          have b3 := B2.out.trans (hb.mono B2.out.size)
          have a0 := ts.c0
          have a1 := ts.c1
          have f0 := ts.fz 0
          have f1 := ts.fz 1
          have g0 := tg.c0
          have g1 := tg.c1
          have T9 := Lib.hid (ts.put (n + 1) x)
          have B9 := Lib.hid (below_put b3 (Nat.le_refl w.heap.size) (.int .i64 (n + 1)) (.int .i64 x))
          clear ts tg b3 hb hO
          go_wp2
          go_roundw
          case rel => exact ⟨k + 1, n + 1, x, by omega, by go_num, T9.out, HMAY.out, B9.out⟩
          case measure => simp [intOf]; omega
    · obtain rfl : k = len := by omega
      clear hst hbw
      go_wp2
      go_ret
      exact ⟨rfl, HBW.out⟩
end Go.Proofs.Ytomlckefkamdgaa
