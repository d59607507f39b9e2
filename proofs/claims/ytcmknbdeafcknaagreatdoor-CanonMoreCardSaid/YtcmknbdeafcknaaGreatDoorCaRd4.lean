import Derived.Test.YtcmknbdeafcknaaGreatDoorCaRd3
import Derived.Test.YtcmknbdeafcknaaGreatDoorGBkVals
/-
  The reader of package canon: what rec answers, or that it panics.
-/
namespace Go.Proofs.YtcmknbdeafcknaaGreatDoor
open Go.RowKit WM
set_option linter.unusedVariables false
set_option maxRecDepth 20000
/-- A record that bytes begin by, and what stands behind. -/
def prc (zs : List Int) : Option (Rc × List Int) :=
  if 16 ≤ zs.length then (pst (zs.drop 16)).bind fun s => (lst pfl 8 s.2).map fun f => (⟨zs.take 16, s.1.1, s.1.2, f.1⟩, f.2) else none
def RRcPost (w : World) (q : Nat) (r : Option (Rc × List Int)) (e : Ending) (w' : World) : Prop :=
  match r with
  | some (R, ys) => ∃ x : RcA, e = .returned (.agg x.cells) ∧ x.R = R ∧ RvAt w' x ∧ FTag w' x.A ∧ RdAt w' q ys ∧ w.grownBy w' (some q)
  | none => e = .panicked pan ∧ w.grownBy w' (some q)
theorem tag_ne {w : World} {g : Nat} {cur : Array Value} {t : TypeId} (h : w.heap[g]? = some (.cells cur t)) (ht : t ≠ 59) : ∀ c, w.heap[g]? ≠ some (.cells c 59) := by
  intro c e
  rw [h] at e
  simp only [Option.some.injEq, Obj.cells.injEq] at e
  exact ht e.2.1
theorem FTag.kept {w w' : World} {A : Option Addr} {row : Option Nat} (h : FTag w A) (hg : w.grownBy w' row) (hr : ∀ g, row = some g → ∀ c, w.heap[g]? ≠ some (.cells c 59)) : FTag w' A := fun p e => by
  obtain ⟨cur, hc⟩ := h p e
  refine ⟨cur, (hg.block _ (Array.getElem?_eq_some_iff.1 hc).1 (fun e2 => hr _ e2.symm cur hc)).trans hc⟩
theorem FsAt.kept_tag {w w' : World} {A : Option Addr} {c : Nat} {fs : List Fld} {row : Option Nat} (h : FsAt w A c fs) (t : FTag w A) (hg : w.grownBy w' row) (hr : ∀ g, row = some g → ∀ c, w.heap[g]? ≠ some (.cells c 59)) : FsAt w' A c fs := by
  cases row with
  | none => exact h.below (B := w.heap.size) ⟨hg.os, hg.tape, hg.output, hg.size, fun k hk => hg.block k hk (fun e => by cases e)⟩ (Nat.le_refl _)
  | some b =>
    refine h.kept' hg fun off h0 e => ?_
    obtain ⟨cur, hc⟩ := t _ e
    exact hr b rfl cur hc
theorem RvAt.kept_tag {w w' : World} {x : RcA} {row : Option Nat} (h : RvAt w x) (t : FTag w x.A) (hg : w.grownBy w' row) (hr : ∀ g, row = some g → ∀ c, w.heap[g]? ≠ some (.cells c 59)) : RvAt w' x := ⟨h.1, h.2.kept_tag t hg hr⟩
theorem RdAt.tag {w : World} {q : Nat} {zs : List Int} (h : RdAt w q zs) : ∀ g, some q = some g → ∀ c, w.heap[g]? ≠ some (.cells c 59) := by
  rintro g e
  obtain rfl := Option.some.inj e
  obtain ⟨A, len, cap, hq, _⟩ := h
  exact tag_ne hq (by decide)
theorem own_tag {w : World} {base size n : Nat} {t : TypeId} {v : Value} {xs : List Value} (h : w.ownsRow base t size v n xs) (ht : t ≠ 59) : ∀ g, v.ownBlock = some g → ∀ c, w.heap[g]? ≠ some (.cells c 59) := by
  intro g e
  rcases h.2 with ⟨rfl, _⟩ | ⟨g', cap, cur, rfl, _, hg, _⟩
  · simp [Value.ownBlock] at e
  · obtain rfl : g' = g := by simpa [Value.ownBlock] using e
    exact tag_ne hg ht
theorem IdAt.old' {w : World} {b : Nat} {z : List Int} (h : IdAt w b z) (o : Obj) : IdAt (w.alloc o) b z := h.below ((Below.refl w.heap.size w).alloc (Nat.le_refl _) o) h.lt
theorem IdAt.same {w w' : World} {b : Nat} {z : List Int} (h : IdAt w b z) (hb : w'.heap[b]? = w.heap[b]?) : IdAt w' b z := ⟨h.1, hb.trans h.2⟩
theorem StAt.same {w w' : World} {b : Nat} {n r : Int} (h : StAt w b n r) (hb : w'.heap[b]? = w.heap[b]?) : StAt w' b n r := hb.trans h
theorem XAt.kept {w w' : World} {b q : Nat} {x : RcA} (h : XAt w b x) (hg : w.grownBy w' (some q)) (hne : b ≠ q) : XAt w' b x := h.same (hg.block b h.lt (fun e => hne (Option.some.inj e)))
theorem built_rec3 {z : List Int} (h : z.length = 16) (n r : Int) (A : Option Addr) (l c : Nat) : Tryz.prog.built 33 [(0, .agg (bvals z)), (1, .agg #[.int .i64 n, .int .i64 r]), (2, .slice A l c)] = some (rcells z n r (.slice A l c)) := by
  obtain ⟨a, b, c, d, e, f, g, i, j, k, l, m, n', o, p, q, rfl⟩ := list16 h
  kernel_rfl
theorem build_rec3 {z : List Int} (h : z.length = 16) (n r : Int) (A : Option Addr) (l c : Nat) (w : World) : (Instr.build 33 #[(0, .agg (bvals z)), (1, .agg #[.int .i64 n, .int .i64 r]), (2, .slice A l c)]).run Tryz.prog w = .ok (.agg (rcells z n r (.slice A l c))) w := run_build w _ _ _ (built_rec3 h n r A l c)
set_option maxHeartbeats 2000000 in
theorem rrec_any (q : Nat) (zs : List Int) (w : World) (h : RdAt w q zs) :
    Calls Tryz.prog 64 #[.pointer (some ⟨q, 0, none⟩)] w (RRcPost w q (prc zs)) := by
  have HQ := Lib.hid h.lt
  have HI := rid_any q zs _ (h.alloc (.cells rcA0.cells 33))
  have G1 := Lib.hid (gq_alloc (gq_refl q w) (.cells rcA0.cells 33))
  have X1 := Lib.hid (XAt.new (x := rcA0) w z16_len)
  have hz := zeroX
  have hzi := zeroID
  have hall : AllBytes zs := by obtain ⟨_, _, _, _, _, _, _, _, h⟩ := h; exact h
  unfold RIdPost at HI
  by_cases hl : 16 ≤ zs.length
  · have HT := Lib.hid (show (zs.take 16).length = 16 by rw [List.length_take]; omega)
    have HA := Lib.hid (all_take hall 16)
    have hprc : prc zs = (pst (zs.drop 16)).bind fun s => (lst pfl 8 s.2).map fun f => (⟨zs.take 16, s.1.1, s.1.2, f.1⟩, f.2) := by unfold prc; rw [if_pos hl]
    simp only [hl, if_true] at HI
    have HI := Lib.hid HI
    clear h hl hall
    generalize zs.take 16 = z at *
    generalize zs.drop 16 = zs1 at *
    cases hs : pst zs1 with
    | none =>
      have HV := Lib.hid (show prc zs = none by rw [hprc, hs]; rfl)
      clear hprc
      generalize hZ : rcA0.cells = Z at *
      go_enter Tryz.func64, Tryz.ntmps64
      go_wp2_with fail
      refine HI.out.mono ?_
      rintro e w2 ⟨rfl, hr, hg⟩
      have R3 := hr.alloc (.cells (bvals z) 26)
      have G3 := Lib.hid (gq_alloc (grown_trans G1.out hg) (.cells (bvals z) 26))
      have HS := rstamp_any q zs1 _ R3
      rw [hs] at HS
      unfold RStPost at HS
      have HS := Lib.hid HS
      clear hr hg R3 hs
      go_wp2_with (first | ((with_reducible refine wpList_store_newid (o := ⟨none, .store 26 (.tmp 3) (.tmp 6), _, _, _, _⟩) (w := w2) ?e1 (.tmp 3) (.tmp 6) ?e2 w2.heap.size ?e0 ?e3 z ?e4 HT.out ?_); (case e1 => rfl); (case e2 => rfl); (case e0 => rfl); (case e3 => rfl); (case e4 => rfl)))
      refine HS.out.mono ?_
      rintro e w4 ⟨rfl, hg⟩
      go_wp2
      refine ⟨rfl, ?_⟩
      rw [HV.out]
      exact ⟨rfl, grown_trans G3.out hg⟩
    | some p =>
      obtain ⟨⟨n, r⟩, zs2⟩ := p
      generalize hZ : rcA0.cells = Z at *
      cases hf : lst pfl 8 zs2 with
      | none =>
        have HV := Lib.hid (show prc zs = none by rw [hprc, hs, Option.bind_some]; dsimp only; rw [hf]; rfl)
        clear hprc
        go_enter Tryz.func64, Tryz.ntmps64
        go_wp2_with fail
        refine HI.out.mono ?_
        rintro e w2 ⟨rfl, hr, hg⟩
        have R3 := hr.alloc (.cells (bvals z) 26)
        have G3 := Lib.hid (gq_alloc (grown_trans G1.out hg) (.cells (bvals z) 26))
        have I3 := Lib.hid (IdAt.new w2 HT.out)
        have hsz := hg.size
        rw [World.size_alloc] at hsz
        have X3 := Lib.hid ((X1.out.kept hg (by have := HQ.out; omega)).old (.cells (bvals z) 26))
        have HZ3 := Lib.hid hsz
        have HS := rstamp_any q zs1 _ R3
        rw [hs] at HS
        unfold RStPost st at HS
        have HS := Lib.hid HS
        clear hr hg R3 hs hsz
        go_wp2_with (first | ((with_reducible refine wpList_store_newid (o := ⟨none, .store 26 (.tmp 3) (.tmp 6), _, _, _, _⟩) (w := w2) ?e1 (.tmp 3) (.tmp 6) ?e2 w2.heap.size ?e0 ?e3 z ?e4 HT.out ?_); (case e1 => rfl); (case e2 => rfl); (case e0 => rfl); (case e3 => rfl); (case e4 => rfl)))
        refine HS.out.mono ?_
        rintro e w4 ⟨rfl, hr, hg⟩
        have hsz := hg.size
        rw [World.size_alloc] at hsz
        have HZ4 : Hid (w.heap.size + 1 ≤ w4.heap.size) := Lib.hid (by have := HZ3.out; omega)
        have HN3 : Hid (w2.heap.size ≠ w4.heap.size) := Lib.hid (by omega)
        have R5 := hr.alloc (.cells #[.int .i64 n, .int .i64 r] 30)
        have G5 := gq_alloc (grown_trans G3.out hg) (.cells #[.int .i64 n, .int .i64 r] 30)
        have I5 := (I3.out.kept hg (by have := HQ.out; have := HZ3.out; omega)).old' (.cells #[.int .i64 n, .int .i64 r] 30)
        have X5 := (X3.out.kept hg (by have := HQ.out; omega)).old (.cells #[.int .i64 n, .int .i64 r] 30)
        have S5 := StAt.new w4 n r
        clear hr hg hsz
        generalize hw5 : w4.alloc (.cells #[.int .i64 n, .int .i64 r] 30) = w5 at *
        have BD := (Below.refl w5.heap.size w5).drew
        have G5d := Lib.hid (gq_below G5 BD)
        have I5d := Lib.hid (I5.below BD I5.lt)
        have S5d := Lib.hid (S5.below BD S5.lt)
        have X5d := Lib.hid (X5.below BD X5.lt)
        have HL := listF_any q zs2 w5.drew (R5.below BD (Nat.le_refl _))
        rw [hf] at HL
        unfold LFPost at HL
        have HL := Lib.hid HL
        clear R5 G5 I5 X5 BD hf
        go_wp2_with fail
        refine wp_region_held_drew (S := fun w' => IdAt w' w2.heap.size z ∧ StAt w' w4.heap.size n r) (by kernel_rfl) ⟨I5d.out, S5d.out⟩ (fun hS => ?_)
        refine wpAnyH_take (i := 0) (oi := ⟨some 9, _, _, _, _, _⟩) (v := (.agg (bvals z))) rfl (by kernel_rfl) (by kernel_rfl) (by kernel_rfl) (fun _ _ _ h => h) (Or.inl ⟨by rfl, ?_⟩) hS ?_; (focus (intro w9 hSw; exact exec_load_by 26 _ rfl ⟨w2.heap.size, 0, none⟩ rfl (load_arr16 hSw.1))); simp only [Act.put, List.setIfInBounds_toArray, List.set_cons_zero, List.set_cons_succ]
        refine wpAnyH_take (i := 1) (oi := ⟨some 10, _, _, _, _, _⟩) (v := (.agg #[.int .i64 n, .int .i64 r])) rfl (by kernel_rfl) (by kernel_rfl) (by kernel_rfl) (fun _ _ _ h => h) (Or.inl ⟨by rfl, ?_⟩) hS ?_; (focus (intro w9 hSw; exact exec_load_by 30 _ rfl ⟨w4.heap.size, 0, none⟩ rfl (load_st hSw.2))); simp only [Act.put, List.setIfInBounds_toArray, List.set_cons_zero, List.set_cons_succ]
        refine wpAnyH_take (i := 2) (oi := ⟨some 11, _, _, _, _, _⟩) (v := ?_) rfl (by kernel_rfl) (by kernel_rfl) (by kernel_rfl) (fun _ _ _ h => h) (Or.inl ⟨by rfl, ?_⟩) hS ?_; rotate_left; (focus (intro w9 hSw; (try dsimp only at hSw); go_simp; try with_reducible rfl)); simp only [Act.put, List.setIfInBounds_toArray, List.set_cons_zero, List.set_cons_succ]
        refine wpAnyH_take (i := 3) (oi := ⟨some 12, _, _, _, _, _⟩) (v := ?_) rfl (by kernel_rfl) (by kernel_rfl) (by kernel_rfl) (fun _ _ _ h => h) (Or.inl ⟨by rfl, ?_⟩) hS ?_; rotate_left; (focus (intro w9 hSw; (try dsimp only at hSw); go_simp; try with_reducible rfl)); simp only [Act.put, List.setIfInBounds_toArray, List.set_cons_zero, List.set_cons_succ]
        refine wpAnyH_take (i := 4) (oi := ⟨some 13, _, _, _, _, _⟩) (v := .func (.func 100) #[.pointer (some ⟨q, 0, none⟩)] #[]) rfl (by kernel_rfl) (by kernel_rfl) (by kernel_rfl) (fun _ _ _ h => h) (Or.inl ⟨by rfl, ?_⟩) hS ?_; (focus (intro w9 hSw; have hmf : ∀ (fn : Fn) (first cap : Array Value) (w : World), (Instr.makeFunc fn first cap).run Tryz.prog w = .ok (.func fn first cap) w := fun _ _ _ _ => rfl; go_simp; try rfl)); simp only [Act.put, List.setIfInBounds_toArray, List.set_cons_zero, List.set_cons_succ]
        refine wpAnyH_ready (rs := [5]) (by kernel_rfl) (by simp) (AllReadyH.cons (o := ⟨some 14, _, _, _, _, _⟩) rfl (fun K hK => ?_) AllReadyH.nil)
        · clear HN3 S5
          go_simp
          refine HL.out.mono ?_
          rintro e w6 ⟨rfl, hg⟩
          refine ⟨rfl, ?_⟩
          rw [HV.out]
          exact ⟨rfl, grown_trans G5d.out hg⟩
      | some p =>
        obtain ⟨fs, zs3⟩ := p
        have HV := Lib.hid (show prc zs = some (⟨z, n, r, fs⟩, zs3) by rw [hprc, hs, Option.bind_some]; dsimp only; rw [hf]; rfl)
        clear hprc
        go_enter Tryz.func64, Tryz.ntmps64
        go_wp2_with fail
        refine HI.out.mono ?_
        rintro e w2 ⟨rfl, hr, hg⟩
        have R3 := hr.alloc (.cells (bvals z) 26)
        have G3 := Lib.hid (gq_alloc (grown_trans G1.out hg) (.cells (bvals z) 26))
        have I3 := Lib.hid (IdAt.new w2 HT.out)
        have hsz := hg.size
        rw [World.size_alloc] at hsz
        have X3 := Lib.hid ((X1.out.kept hg (by have := HQ.out; omega)).old (.cells (bvals z) 26))
        have HZ3 := Lib.hid hsz
        have HS := rstamp_any q zs1 _ R3
        rw [hs] at HS
        unfold RStPost st at HS
        have HS := Lib.hid HS
        clear hr hg R3 hs hsz
        go_wp2_with (first | ((with_reducible refine wpList_store_newid (o := ⟨none, .store 26 (.tmp 3) (.tmp 6), _, _, _, _⟩) (w := w2) ?e1 (.tmp 3) (.tmp 6) ?e2 w2.heap.size ?e0 ?e3 z ?e4 HT.out ?_); (case e1 => rfl); (case e2 => rfl); (case e0 => rfl); (case e3 => rfl); (case e4 => rfl)))
        refine HS.out.mono ?_
        rintro e w4 ⟨rfl, hr, hg⟩
        have hsz := hg.size
        rw [World.size_alloc] at hsz
        have HZ4 : Hid (w.heap.size + 1 ≤ w4.heap.size) := Lib.hid (by have := HZ3.out; omega)
        have HN3 : Hid (w2.heap.size ≠ w4.heap.size) := Lib.hid (by omega)
        have R5 := hr.alloc (.cells #[.int .i64 n, .int .i64 r] 30)
        have G5 := gq_alloc (grown_trans G3.out hg) (.cells #[.int .i64 n, .int .i64 r] 30)
        have I5 := (I3.out.kept hg (by have := HQ.out; have := HZ3.out; omega)).old' (.cells #[.int .i64 n, .int .i64 r] 30)
        have X5 := (X3.out.kept hg (by have := HQ.out; omega)).old (.cells #[.int .i64 n, .int .i64 r] 30)
        have S5 := StAt.new w4 n r
        clear hr hg hsz
        generalize hw5 : w4.alloc (.cells #[.int .i64 n, .int .i64 r] 30) = w5 at *
        have BD := (Below.refl w5.heap.size w5).drew
        have G5d := Lib.hid (gq_below G5 BD)
        have I5d := Lib.hid (I5.below BD I5.lt)
        have S5d := Lib.hid (S5.below BD S5.lt)
        have X5d := Lib.hid (X5.below BD X5.lt)
        have HL := listF_any q zs2 w5.drew (R5.below BD (Nat.le_refl _))
        rw [hf] at HL
        unfold LFPost at HL
        have HL := Lib.hid HL
        clear R5 G5 I5 X5 BD hf
        go_wp2_with fail
        refine wp_region_held_drew (S := fun w' => IdAt w' w2.heap.size z ∧ StAt w' w4.heap.size n r) (by kernel_rfl) ⟨I5d.out, S5d.out⟩ (fun hS => ?_)
        refine wpAnyH_take (i := 0) (oi := ⟨some 9, _, _, _, _, _⟩) (v := (.agg (bvals z))) rfl (by kernel_rfl) (by kernel_rfl) (by kernel_rfl) (fun _ _ _ h => h) (Or.inl ⟨by rfl, ?_⟩) hS ?_; (focus (intro w9 hSw; exact exec_load_by 26 _ rfl ⟨w2.heap.size, 0, none⟩ rfl (load_arr16 hSw.1))); simp only [Act.put, List.setIfInBounds_toArray, List.set_cons_zero, List.set_cons_succ]
        refine wpAnyH_take (i := 1) (oi := ⟨some 10, _, _, _, _, _⟩) (v := (.agg #[.int .i64 n, .int .i64 r])) rfl (by kernel_rfl) (by kernel_rfl) (by kernel_rfl) (fun _ _ _ h => h) (Or.inl ⟨by rfl, ?_⟩) hS ?_; (focus (intro w9 hSw; exact exec_load_by 30 _ rfl ⟨w4.heap.size, 0, none⟩ rfl (load_st hSw.2))); simp only [Act.put, List.setIfInBounds_toArray, List.set_cons_zero, List.set_cons_succ]
        refine wpAnyH_take (i := 2) (oi := ⟨some 11, _, _, _, _, _⟩) (v := ?_) rfl (by kernel_rfl) (by kernel_rfl) (by kernel_rfl) (fun _ _ _ h => h) (Or.inl ⟨by rfl, ?_⟩) hS ?_; rotate_left; (focus (intro w9 hSw; (try dsimp only at hSw); go_simp; try with_reducible rfl)); simp only [Act.put, List.setIfInBounds_toArray, List.set_cons_zero, List.set_cons_succ]
        refine wpAnyH_take (i := 3) (oi := ⟨some 12, _, _, _, _, _⟩) (v := ?_) rfl (by kernel_rfl) (by kernel_rfl) (by kernel_rfl) (fun _ _ _ h => h) (Or.inl ⟨by rfl, ?_⟩) hS ?_; rotate_left; (focus (intro w9 hSw; (try dsimp only at hSw); go_simp; try with_reducible rfl)); simp only [Act.put, List.setIfInBounds_toArray, List.set_cons_zero, List.set_cons_succ]
        refine wpAnyH_take (i := 4) (oi := ⟨some 13, _, _, _, _, _⟩) (v := .func (.func 100) #[.pointer (some ⟨q, 0, none⟩)] #[]) rfl (by kernel_rfl) (by kernel_rfl) (by kernel_rfl) (fun _ _ _ h => h) (Or.inl ⟨by rfl, ?_⟩) hS ?_; (focus (intro w9 hSw; have hmf : ∀ (fn : Fn) (first cap : Array Value) (w : World), (Instr.makeFunc fn first cap).run Tryz.prog w = .ok (.func fn first cap) w := fun _ _ _ _ => rfl; go_simp; try rfl)); simp only [Act.put, List.setIfInBounds_toArray, List.set_cons_zero, List.set_cons_succ]
        refine wpAnyH_ready (rs := [5]) (by kernel_rfl) (by simp) (AllReadyH.cons (o := ⟨some 14, _, _, _, _, _⟩) rfl (fun K hK => ?_) AllReadyH.nil)
        · go_simp
          refine HL.out.mono ?_
          rintro e w6 ⟨A, c, rfl, hF, hT, hr, hg⟩
          have I6 := I5d.out.kept hg (by have := HQ.out; have := HZ3.out; omega)
          have S6 := S5d.out.kept hg (by have := HQ.out; have := HZ4.out; omega)
          have X6 := Lib.hid (X5d.out.kept hg (by have := HQ.out; omega))
          have G6 := Lib.hid (grown_trans G5d.out hg)
          have R6 := Lib.hid hr
          have F6 := Lib.hid hF
          have T6 := Lib.hid hT
          clear hF hT hr hg
          refine hK.out _ _ ⟨I6, S6⟩ (fun hS => ?_)
          clear hK K
          refine wpAnyH_take (i := 6) (oi := ⟨some 15, _, _, _, _, _⟩) (v := (.agg (rcells z n r (.slice A fs.length c)))) rfl (by kernel_rfl) (by kernel_rfl) (by kernel_rfl) (fun _ _ _ h => h) (Or.inl ⟨by rfl, ?_⟩) hS ?_; (focus (intro w9 hSw; refine exec_build_by _ _ rfl #[(0, .agg (bvals z)), (1, .agg #[.int .i64 n, .int .i64 r]), (2, .slice A fs.length c)] ?_ (build_rec3 HT.out n r A fs.length c w9); simp only [List.map_toArray, List.map_cons, List.map_nil]; rfl)); simp only [Act.put, List.setIfInBounds_toArray, List.set_cons_zero, List.set_cons_succ]
          refine wpAnyH_ready (rs := [7]) (by kernel_rfl) (by simp) (AllReadyH.cons (o := ⟨none, _, _, _, _, _⟩) rfl (fun K hK => ?_) AllReadyH.nil)
          have XR : RvAt w6 ⟨⟨z, n, r, fs⟩, A, c⟩ := ⟨⟨HT.out, HA.out⟩, F6.out⟩
          have XT : FTag w6 (RcA.A ⟨⟨z, n, r, fs⟩, A, c⟩) := T6.out
          refine wp_store_row (o := ⟨none, .store 33 (.tmp 2) (.tmp 15), _, _, _, _⟩) 33 (.tmp 2) (.tmp 15) rfl w.heap.size (RcA.cells ⟨⟨z, n, r, fs⟩, A, c⟩) rfl rfl 33 _ X6.out.2 (x_size HT.out) (by rw [cells_len X6.out.1, cells_len HT.out]) (x_one _) ?_
          have hg7 := grownBy_setRow w6 w.heap.size (RcA.cells ⟨⟨z, n, r, fs⟩, A, c⟩)
          have X7 : XAt (w6.setRow w.heap.size (RcA.cells ⟨⟨z, n, r, fs⟩, A, c⟩)) w.heap.size ⟨⟨z, n, r, fs⟩, A, c⟩ := X6.out.rc.putAll HT.out
          have htag : ∀ g, some w.heap.size = some g → ∀ c, w6.heap[g]? ≠ some (.cells c 59) := fun g e => by
            obtain rfl := Option.some.inj e
            exact tag_ne X6.out.2 (by decide)
          have R7 := Lib.hid (R6.out.kept hg7 (fun k e => by have := Option.some.inj e; have := HQ.out; omega))
          have V7 := Lib.hid (XR.kept_tag XT hg7 htag)
          have T7 := Lib.hid (XT.kept hg7 htag)
          have G7 := Lib.hid (grown_new G6.out hg7 (fun k e => by have := Option.some.inj e; omega))
          have I7 := IdAt.same hS.1 (hg7.block _ hS.1.lt (fun e => by have := Option.some.inj e; have := HZ3.out; omega))
          have S7 := hS.2.same (hg7.block _ hS.2.lt (fun e => by have := Option.some.inj e; have := HZ4.out; omega))
          clear XR XT htag hg7
          generalize w6.setRow w.heap.size (RcA.cells ⟨⟨z, n, r, fs⟩, A, c⟩) = w7 at *
          refine hK.out _ _ ⟨I7, S7⟩ (fun hS => ?_)
          refine wpAnyH_done (by kernel_rfl) ?_ _
          have X7 := Lib.hid X7
          clear hK K hS I7 S7
          go_wp2
          refine bodyPost_ret (v := .agg (RcA.cells ⟨⟨z, n, r, fs⟩, A, c⟩)) ?_ rfl ?_
          · exact res_rc Tryz.results64 rfl X7.out.rc
          · rw [HV.out]
            exact ⟨_, rfl, rfl, V7.out, T7.out, R7.out, G7.out⟩
  · have HV := Lib.hid (show prc zs = none by unfold prc; rw [if_neg hl])
    simp only [hl, if_false] at HI
    have HI := Lib.hid HI
    clear h hl hall
    generalize hZ : rcA0.cells = Z at *
    go_enter Tryz.func64, Tryz.ntmps64
    go_wp2_with fail
    refine HI.out.mono ?_
    rintro e w2 ⟨rfl, hg⟩
    go_wp2
    refine ⟨rfl, ?_⟩
    rw [HV.out]
    exact ⟨rfl, grown_trans G1.out hg⟩
end Go.Proofs.YtcmknbdeafcknaaGreatDoor

