import Derived.Test.YtcmknbdeafcknaaGreatDoorGBkN
import Derived.Test.YtcmknbdeafcknaaGreatDoorGStR
import Derived.Test.YtcmknbdeafcknaaGreatDoorGBkP
import Derived.Test.YtcmknbdeafcknaaGreatDoorStRef2
section
/-
  What the document's own last of books answers. Nothing that was there is written.
-/
namespace Go.Proofs.YtcmknbdeafcknaaGreatDoor
open Go.RowKit Go.Shelf WM
set_option linter.unusedVariables false
set_option maxRecDepth 100000
theorem rmx_any (a b : Int × Int) (w : World) : Calls Tryz.prog 91 #[st a.1 a.2, st b.1 b.2] w fun e w' => e = .returned (st (mx a b).1 (mx a b).2) ∧ Below w.heap.size w w' := by
  have h := rmax_any a.1 a.2 b.1 b.2 w
  unfold mx
  split at h <;> rename_i hh
  · rw [if_pos hh]; exact h
  · rw [if_neg hh]; exact h
def SL (w : World) (b : Bk) (W : World) : Prop := Below w.heap.size w W ∧ BoAt W w.heap.size (.slice b.A b.xs.length b.c)
def LJ (w : World) (b : Bk) (s : Int × Int) (W : World) : Prop := SL w b W ∧ StAt W (w.heap.size + 1) 0 0 ∧ StAt W (w.heap.size + 1 + 1) s.1 s.2
section
variable {w W W' : World} {b : Bk} {s : Int × Int}
theorem LJ.below (h : LJ w b s W) (hb : Below W.heap.size W W') : LJ w b s W' := by
  obtain ⟨⟨h1, h2⟩, h3, h4⟩ := h
  exact ⟨⟨h1.trans (hb.mono h1.size), h2.below hb h2.lt⟩, h3.below hb h3.lt, h4.below hb h4.lt⟩
theorem LJ.drew (h : LJ w b s W) : LJ w b s W.drew := h.below ((Below.refl _ _).drew)
theorem LJ.put (h : LJ w b s W) (t : Int × Int) : LJ w b t ((W.setCell ⟨w.heap.size + 1 + 1, 0, none⟩ (.int .i64 t.1)).setCell ⟨w.heap.size + 1 + 1, 1, none⟩ (.int .i64 t.2)) := by
  obtain ⟨⟨h1, h2⟩, h3, h4⟩ := h
  have hk : ∀ q, q ≠ w.heap.size + 1 + 1 → ((W.setCell ⟨w.heap.size + 1 + 1, 0, none⟩ (.int .i64 t.1)).setCell ⟨w.heap.size + 1 + 1, 1, none⟩ (.int .i64 t.2)).heap[q]? = W.heap[q]? := fun q hq => by
    rw [Below.heap_setCell _ _ _ _ hq, Below.heap_setCell _ _ _ _ hq]
  exact ⟨⟨below_put h1 (show w.heap.size ≤ w.heap.size + 1 + 1 by omega) _ _, h2.same (hk _ (by omega))⟩, (hk _ (by omega)).trans h3, h4.put t.1 t.2⟩
end
set_option maxHeartbeats 16000000 in
theorem rblast_any (b : Bk) (w : World) (h : BkAt w b) (hfs : ∀ x ∈ b.xs, x.R.fs.length ≤ 1000) :
    Calls Tryz.prog 56 #[.agg #[.slice b.A b.xs.length b.c]] w fun e w' => e = .returned (st (blast b.rs).1 (blast b.rs).2) ∧ Below w.heap.size w w' := by
  have s0 := (((BoAt.new w (.slice b.A b.xs.length b.c)).old (.cells #[.int .i64 0, .int .i64 0] 30)).old (.cells #[.int .i64 0, .int .i64 0] 30))
  have r1 := (StAt.new (w.alloc (.cells #[.slice b.A b.xs.length b.c] 24)) 0 0).old (.cells #[.int .i64 0, .int .i64 0] 30)
  rw [World.size_alloc] at r1
  have r2 := StAt.new ((w.alloc (.cells #[.slice b.A b.xs.length b.c] 24)).alloc (.cells #[.int .i64 0, .int .i64 0] 30)) 0 0
  rw [World.size_alloc, World.size_alloc] at r2
  have hb := (((Below.refl w.heap.size w).alloc (Nat.le_refl _) (.cells #[.slice b.A b.xs.length b.c] 24)).alloc (by simp) (.cells #[.int .i64 0, .int .i64 0] 30)).alloc (by simp; omega) (.cells #[.int .i64 0, .int .i64 0] 30)
  have J0 : Hid (LJ w b (0, 0) (((w.alloc (.cells #[.slice b.A b.xs.length b.c] 24)).alloc (.cells #[.int .i64 0, .int .i64 0] 30)).alloc (.cells #[.int .i64 0, .int .i64 0] 30))) := Lib.hid ⟨⟨hb, s0⟩, r1, r2⟩
  have HRV := Lib.hid (fun i (hi : i < b.xs.length) => RsAt.rv h hi)
  have HFS9 : Hid (∀ i, i < b.xs.length → (b.xs.getD i rcA0).R.fs.length ≤ 1000) := Lib.hid (fun i hi => hfs _ (by rw [List.getD_eq_getElem?_getD, List.getElem?_eq_getElem hi]; exact List.getElem_mem _))
  have HC := Lib.hid h.2.2.2.1
  have hcap := h.2.1
  have hlc := h.1
  simp only [maxLen] at hcap
  have HMX := Lib.hid rmx_any
  have hbs := build_st0
  unfold st at HMX
  have HIX := Lib.hid (fun b0 off k hk w9 => ix_rec b0 off b.xs.length b.c k hk k rfl w9)
  have HSN9 := Lib.hid (fun k (hk : k < b.xs.length) => last_snoc (xs := b.xs) hk)
  have HTK : Hid ((b.xs.take b.xs.length).map (·.R) = b.rs) := Lib.hid (by rw [List.take_length]; rfl)
  unfold blast st
  generalize hV : b.rs.foldl lastR (0, 0) = V
  have HV := Lib.hid hV
  clear s0 r1 r2 hb h hfs hV
  go_enter Tryz.func56, Tryz.ntmps56
  go_wp2
  go_loopw [4] (fun i wq => ∃ (k : Nat) (s : Int × Int), k ≤ b.xs.length ∧ i = .int .i64 k ∧ LJ w b s wq ∧ s = ((b.xs.take k).map (·.R)).foldl lastR (0, 0)) (fun i _ => b.xs.length - (intOf i).toNat)
  case atStart => exact ⟨0, (0, 0), Nat.zero_le _, rfl, J0.out, rfl⟩
  case round =>
    obtain ⟨k, s, hk, rfl, hJ, hf⟩ := hrel
    clear J0
    have J := Lib.hid hJ
    have c00 := hJ.1.2.c0
    by_cases hlt : k < b.xs.length
    · have t1 : (k : Int) < (b.xs.length : Int) := by omega
      obtain ⟨b0, off, hA, hb0, hcc⟩ := HC.out (by omega)
      have HA := Lib.hid hA
      have HX := Lib.hid (hcc k hlt)
      have IX := Lib.hid (HIX.out b0 off k hlt)
      rw [← hA] at IX
      have HVX := Lib.hid (HRV.out k hlt)
      have HFL := Lib.hid (HFS9.out k hlt)
      have hsn := HSN9.out k hlt
      rw [← hf] at hsn
      have HSN := Lib.hid hsn
      generalize b.xs.getD k rcA0 = x at *
      have HS0 : Hid (lastR s x.R = lastF (mx s (x.R.n, x.R.r)) x.R.fs) := Lib.hid rfl
      clear hA hcc hJ hsn hf
      go_wp2_with fail
      clear c00
      refine wp_region_held_drew (S := fun w' => SL w b w') (by kernel_rfl) J.out.drew.1 (fun hS => ?_)
      have JD := Lib.hid J.out.drew
      generalize World.drew _ = X at *
      refine wpAnyH_take (i := 1) (oi := ⟨some 15, _, _, _, _, _⟩) (v := ?_) rfl (by kernel_rfl) (by kernel_rfl) (by kernel_rfl) (fun _ _ _ h => h) (Or.inl ⟨by rfl, ?_⟩) hS ?_; rotate_left; (focus (intro w9 hSw; (try dsimp only at hSw); go_simp; try with_reducible rfl)); simp only [Act.put, List.setIfInBounds_toArray, List.set_cons_zero, List.set_cons_succ]
      refine wpAnyH_take (i := 2) (oi := ⟨some 16, _, _, _, _, _⟩) (v := ?_) rfl (by kernel_rfl) (by kernel_rfl) (by kernel_rfl) (fun _ _ _ h => h) (Or.inl ⟨by rfl, ?_⟩) hS ?_; rotate_left; (focus (intro w9 hSw; (try dsimp only at hSw); have q0 := hSw.2.c0; go_simp; try with_reducible rfl)); simp only [Act.put, List.setIfInBounds_toArray, List.set_cons_zero, List.set_cons_succ]
      refine wpAnyH_take (i := 3) (oi := ⟨some 17, _, _, _, _, _⟩) (v := ?_) rfl (by kernel_rfl) (by kernel_rfl) (by kernel_rfl) (fun _ _ _ h => h) (Or.inl ⟨by rfl, ?_⟩) hS ?_; rotate_left; (focus (intro w9 hSw; (try dsimp only at hSw); go_simp; try with_reducible rfl)); simp only [Act.put, List.setIfInBounds_toArray, List.set_cons_zero, List.set_cons_succ]
      refine wpAnyH_take (i := 4) (oi := ⟨some 18, _, _, _, _, _⟩) (v := ?_) rfl (by kernel_rfl) (by kernel_rfl) (by kernel_rfl) (fun _ _ _ h => h) (Or.inl ⟨by rfl, ?_⟩) hS ?_; rotate_left; (focus (intro w9 hSw; (try dsimp only at hSw); have q0 := IX.out w9; go_simp; try with_reducible rfl)); simp only [Act.put, List.setIfInBounds_toArray, List.set_cons_zero, List.set_cons_succ]
      refine wpAnyH_take (i := 5) (oi := ⟨some 19, _, _, _, _, _⟩) (v := ?_) rfl (by kernel_rfl) (by kernel_rfl) (by kernel_rfl) (fun _ _ _ h => h) (Or.inl ⟨by rfl, ?_⟩) hS ?_; rotate_left; (focus (intro w9 hSw; (try dsimp only at hSw); go_simp; try with_reducible rfl)); simp only [Act.put, List.setIfInBounds_toArray, List.set_cons_zero, List.set_cons_succ]
      refine wpAnyH_take (i := 6) (oi := ⟨some 20, _, _, _, _, _⟩) (v := ?_) rfl (by kernel_rfl) (by kernel_rfl) (by kernel_rfl) (fun _ _ _ h => h) (Or.inl ⟨by rfl, ?_⟩) hS ?_; rotate_left; (focus (intro w9 hSw; (try dsimp only at hSw); have q9 := HX.out.same (hSw.1.block b0 hb0); have q0 := q9.c16; have q1 := q9.c17; go_simp; try with_reducible rfl)); simp only [Act.put, List.setIfInBounds_toArray, List.set_cons_zero, List.set_cons_succ]
      refine wpAnyH_ready (rs := [0]) (by kernel_rfl) (by simp) (AllReadyH.cons (o := ⟨some 14, _, _, _, _, _⟩) rfl (fun K hK => ?_) AllReadyH.nil)
      have g0 := JD.out.2.2.c0
      have g1 := JD.out.2.2.c1
      go_simp
      refine hK.out _ _ JD.out.1 (fun hS => ?_)
      clear hK K g0 g1
      try simp only [Act.put, List.setIfInBounds_toArray, List.set_cons_zero, List.set_cons_succ]
      refine wpAnyH_ready (rs := [7]) (by kernel_rfl) (by simp) (AllReadyH.cons (o := ⟨some 21, _, _, _, _, _⟩) rfl (fun K hK => ?_) AllReadyH.nil)
      go_simp
      refine (HMX.out s (x.R.n, x.R.r) X).mono ?_
      rintro e X1 ⟨rfl, hb9⟩
      have J1 := Lib.hid (JD.out.below hb9)
      refine hK.out _ _ J1.out.1 (fun hS => ?_)
      clear hK K hb9
      try simp only [Act.put, List.setIfInBounds_toArray, List.set_cons_zero, List.set_cons_succ]
      generalize mx s (x.R.n, x.R.r) = s1 at *
      refine wpAnyH_ready (rs := [8]) (by kernel_rfl) (by simp) (AllReadyH.cons (o := ⟨none, _, _, _, _, _⟩) rfl (fun K hK => ?_) AllReadyH.nil)
      have f0 := J1.out.2.2.fz 0
      have f1 := J1.out.2.2.fz 1
      have g0 := J1.out.2.2.c0
      have g1 := J1.out.2.2.c1
      have J2 := Lib.hid (J1.out.put s1)
      go_simp
      refine hK.out _ _ J2.out.1 (fun hS => ?_)
      clear hK K f0 f1 g0 g1
      try simp only [Act.put]
      refine wpAnyH_done (by kernel_rfl) ?_ _
      go_wp2
      generalize hwq : (X1.setCell ⟨w.heap.size + 1 + 1, 0, none⟩ (.int .i64 s1.1)).setCell ⟨w.heap.size + 1 + 1, 1, none⟩ (.int .i64 s1.2) = X2 at *
      clear hwq
      go_loopw [5] (fun i wi => ∃ (j : Nat) (t : Int × Int), j ≤ x.R.fs.length ∧ i = .int .i64 j ∧ LJ w b t wi ∧ t = lastF s1 (x.R.fs.take j)) (fun i _ => x.R.fs.length - (intOf i).toNat)
      case atStart => exact ⟨0, s1, Nat.zero_le _, rfl, J2.out, rfl⟩
      case round =>
        obtain ⟨j, t, hj, rfl, hJ, hf⟩ := hrel
        clear J1 J2 JD
        have J := Lib.hid hJ
        have c00 := hJ.1.2.c0
        rw [HA.out] at c00
        have ix1 := HIX.out b0 off k hlt
        have hfl := HFL.out
        have x18 := (HX.out.same (hJ.1.1.block b0 hb0)).c18
        by_cases hlt2 : j < x.R.fs.length
        · have tj : (j : Int) < (x.R.fs.length : Int) := by omega
          obtain ⟨hq1, hq2, hq3, hq4⟩ := HVX.out.2
          obtain ⟨b1, off1, hA1, hb1, hcx⟩ := hq4 (by omega)
          simp only [maxLen] at hq2
          obtain ⟨c0, c1, c2, c3⟩ := hcx j hlt2
          have IXF := Lib.hid (fun w9 => ix_fld b1 off1 x.R.fs.length x.c j hlt2 j rfl w9)
          rw [← hA1] at IXF
          have hsn := lastF_snoc (s := s1) hlt2
          rw [← hf] at hsn
          have HSN2 := Lib.hid hsn
          generalize x.R.fs.getD j fld0 = f at *
          generalize off1 + j * 4 = o1 at *
          clear hA1 hcx hq4 hsn hf hJ c0 c3
          go_wp2_with fail
          clear c00 ix1 x18
          refine wp_region_held_drew (S := fun w' => SL w b w') (by kernel_rfl) J.out.drew.1 (fun hS => ?_)
          have JD := Lib.hid J.out.drew
          generalize World.drew _ = X at *
          refine wpAnyH_take (i := 1) (oi := ⟨some 34, _, _, _, _, _⟩) (v := ?_) rfl (by kernel_rfl) (by kernel_rfl) (by kernel_rfl) (fun _ _ _ h => h) (Or.inl ⟨by rfl, ?_⟩) hS ?_; rotate_left; (focus (intro w9 hSw; (try dsimp only at hSw); go_simp; try with_reducible rfl)); simp only [Act.put, List.setIfInBounds_toArray, List.set_cons_zero, List.set_cons_succ]
          refine wpAnyH_take (i := 2) (oi := ⟨some 35, _, _, _, _, _⟩) (v := ?_) rfl (by kernel_rfl) (by kernel_rfl) (by kernel_rfl) (fun _ _ _ h => h) (Or.inl ⟨by rfl, ?_⟩) hS ?_; rotate_left; (focus (intro w9 hSw; (try dsimp only at hSw); have q0 := hSw.2.c0; go_simp; try with_reducible rfl)); simp only [Act.put, List.setIfInBounds_toArray, List.set_cons_zero, List.set_cons_succ]
          refine wpAnyH_take (i := 3) (oi := ⟨some 36, _, _, _, _, _⟩) (v := ?_) rfl (by kernel_rfl) (by kernel_rfl) (by kernel_rfl) (fun _ _ _ h => h) (Or.inl ⟨by rfl, ?_⟩) hS ?_; rotate_left; (focus (intro w9 hSw; (try dsimp only at hSw); go_simp; try with_reducible rfl)); simp only [Act.put, List.setIfInBounds_toArray, List.set_cons_zero, List.set_cons_succ]
          refine wpAnyH_take (i := 4) (oi := ⟨some 37, _, _, _, _, _⟩) (v := ?_) rfl (by kernel_rfl) (by kernel_rfl) (by kernel_rfl) (fun _ _ _ h => h) (Or.inl ⟨by rfl, ?_⟩) hS ?_; rotate_left; (focus (intro w9 hSw; (try dsimp only at hSw); have q0 := IX.out w9; go_simp; try with_reducible rfl)); simp only [Act.put, List.setIfInBounds_toArray, List.set_cons_zero, List.set_cons_succ]
          refine wpAnyH_take (i := 5) (oi := ⟨some 38, _, _, _, _, _⟩) (v := ?_) rfl (by kernel_rfl) (by kernel_rfl) (by kernel_rfl) (fun _ _ _ h => h) (Or.inl ⟨by rfl, ?_⟩) hS ?_; rotate_left; (focus (intro w9 hSw; (try dsimp only at hSw); go_simp; try with_reducible rfl)); simp only [Act.put, List.setIfInBounds_toArray, List.set_cons_zero, List.set_cons_succ]
          refine wpAnyH_take (i := 6) (oi := ⟨some 39, _, _, _, _, _⟩) (v := ?_) rfl (by kernel_rfl) (by kernel_rfl) (by kernel_rfl) (fun _ _ _ h => h) (Or.inl ⟨by rfl, ?_⟩) hS ?_; rotate_left; (focus (intro w9 hSw; (try dsimp only at hSw); have q0 := (HX.out.same (hSw.1.block b0 hb0)).c18; go_simp; try with_reducible rfl)); simp only [Act.put, List.setIfInBounds_toArray, List.set_cons_zero, List.set_cons_succ]
          refine wpAnyH_take (i := 7) (oi := ⟨some 40, _, _, _, _, _⟩) (v := ?_) rfl (by kernel_rfl) (by kernel_rfl) (by kernel_rfl) (fun _ _ _ h => h) (Or.inl ⟨by rfl, ?_⟩) hS ?_; rotate_left; (focus (intro w9 hSw; (try dsimp only at hSw); go_simp; try with_reducible rfl)); simp only [Act.put, List.setIfInBounds_toArray, List.set_cons_zero, List.set_cons_succ]
          refine wpAnyH_take (i := 8) (oi := ⟨some 41, _, _, _, _, _⟩) (v := ?_) rfl (by kernel_rfl) (by kernel_rfl) (by kernel_rfl) (fun _ _ _ h => h) (Or.inl ⟨by rfl, ?_⟩) hS ?_; rotate_left; (focus (intro w9 hSw; (try dsimp only at hSw); have q0 := IXF.out w9; go_simp; try with_reducible rfl)); simp only [Act.put, List.setIfInBounds_toArray, List.set_cons_zero, List.set_cons_succ]
          refine wpAnyH_take (i := 9) (oi := ⟨some 42, _, _, _, _, _⟩) (v := ?_) rfl (by kernel_rfl) (by kernel_rfl) (by kernel_rfl) (fun _ _ _ h => h) (Or.inl ⟨by rfl, ?_⟩) hS ?_; rotate_left; (focus (intro w9 hSw; (try dsimp only at hSw); go_simp; try with_reducible rfl)); simp only [Act.put, List.setIfInBounds_toArray, List.set_cons_zero, List.set_cons_succ]
          refine wpAnyH_take (i := 10) (oi := ⟨some 43, _, _, _, _, _⟩) (v := ?_) rfl (by kernel_rfl) (by kernel_rfl) (by kernel_rfl) (fun _ _ _ h => h) (Or.inl ⟨by rfl, ?_⟩) hS ?_; rotate_left; (focus (intro w9 hSw; (try dsimp only at hSw); go_simp; try with_reducible rfl)); simp only [Act.put, List.setIfInBounds_toArray, List.set_cons_zero, List.set_cons_succ]
          refine wpAnyH_take (i := 11) (oi := ⟨some 44, _, _, _, _, _⟩) (v := ?_) rfl (by kernel_rfl) (by kernel_rfl) (by kernel_rfl) (fun _ _ _ h => h) (Or.inl ⟨by rfl, ?_⟩) hS ?_; rotate_left; (focus (intro w9 hSw; (try dsimp only at hSw); have q0 := (hSw.1.cell (p := ⟨b1, o1 + 1, none⟩) hb1).trans c1; have q1 := (hSw.1.cell (p := ⟨b1, o1 + 2, none⟩) hb1).trans c2; go_simp; try with_reducible rfl)); simp only [Act.put, List.setIfInBounds_toArray, List.set_cons_zero, List.set_cons_succ]
          refine wpAnyH_ready (rs := [0]) (by kernel_rfl) (by simp) (AllReadyH.cons (o := ⟨some 33, _, _, _, _, _⟩) rfl (fun K hK => ?_) AllReadyH.nil)
          have g0 := JD.out.2.2.c0
          have g1 := JD.out.2.2.c1
          go_simp
          refine hK.out _ _ JD.out.1 (fun hS => ?_)
          clear hK K g0 g1
          try simp only [Act.put, List.setIfInBounds_toArray, List.set_cons_zero, List.set_cons_succ]
          refine wpAnyH_ready (rs := [12]) (by kernel_rfl) (by simp) (AllReadyH.cons (o := ⟨some 45, _, _, _, _, _⟩) rfl (fun K hK => ?_) AllReadyH.nil)
          go_simp
          refine (HMX.out t (f.c.n, f.c.r) X).mono ?_
          rintro e X1 ⟨rfl, hb9⟩
          have J1 := Lib.hid (JD.out.below hb9)
          refine hK.out _ _ J1.out.1 (fun hS => ?_)
          clear hK K hb9
          try simp only [Act.put, List.setIfInBounds_toArray, List.set_cons_zero, List.set_cons_succ]
          generalize mx t (f.c.n, f.c.r) = t1 at *
          refine wpAnyH_ready (rs := [13]) (by kernel_rfl) (by simp) (AllReadyH.cons (o := ⟨none, _, _, _, _, _⟩) rfl (fun K hK => ?_) AllReadyH.nil)
          have f0 := J1.out.2.2.fz 0
          have f1 := J1.out.2.2.fz 1
          have g0 := J1.out.2.2.c0
          have g1 := J1.out.2.2.c1
          have J2 := Lib.hid (J1.out.put t1)
          go_simp
          refine hK.out _ _ J2.out.1 (fun hS => ?_)
          clear hK K f0 f1 g0 g1
          try simp only [Act.put]
          refine wpAnyH_done (by kernel_rfl) ?_ _
          go_wp2
          go_roundw
          case rel => exact ⟨j + 1, t1, by omega, by go_num, J2.out, HSN2.out.symm⟩
          case measure => simp [intOf]; omega
        · obtain rfl : j = x.R.fs.length := by omega
          have t2 : ¬ (x.R.fs.length : Int) < (x.R.fs.length : Int) := by omega
          rw [List.take_length] at hf
          have HFE := Lib.hid hf
          clear hf hJ
          go_wp2
          go_roundw
          case rel => exact ⟨k + 1, t, by omega, by go_num, J.out, by rw [HFE.out, HSN.out, HS0.out]⟩
          case measure => simp [intOf]; omega
    · obtain rfl : k = b.xs.length := by omega
      have t1 : ¬ (b.xs.length : Int) < (b.xs.length : Int) := by omega
      rw [HTK.out, HV.out] at hf
      subst hf
      have e0 := hJ.2.2.c0
      have e1 := hJ.2.2.c1
      have d0 := hJ.2.1.c0
      have d1 := hJ.2.1.c1
      have f0 := hJ.2.1.fz 0
      have f1 := hJ.2.1.fz 1
      have FIN := Lib.hid (And.intro (hJ.2.1.put s.1 s.2) (below_put hJ.1.1 (show w.heap.size ≤ w.heap.size + 1 by omega) (.int .i64 s.1) (.int .i64 s.2)))
      clear hJ J
      go_wp2
      refine bodyPost_ret (v := st s.1 s.2) ?_ rfl ⟨rfl, FIN.out.2⟩
      exact res_st Tryz.results56 rfl FIN.out.1
end Go.Proofs.YtcmknbdeafcknaaGreatDoor

end
section
/-
  What the document's own Write of books answers. Nothing that was there is written.
-/
namespace Go.Proofs.YtcmknbdeafcknaaGreatDoor
open Go.RowKit Go.Shelf WM
set_option linter.unusedVariables false
set_option maxRecDepth 100000
theorem joinOne (b : Bk) (x : RcA) (w6 : World) (r : Int × List Rc) {w : World} (H1 : Hid (BkAt w b)) (HFS : Hid (∀ x ∈ b.xs, x.R.fs.length ≤ 1000)) (HBL : Hid (b.xs.length ≤ 1000)) (B5 : Hid (Below w.heap.size w w6)) (HV6 : Hid (RvAt w6 x)) (HRR : Hid (x.R.fs.length ≤ 1000 ∧ bjE b.rs [x.R] = r)) :
    Hid (Calls Tryz.prog 16 #[.agg #[.slice b.A b.xs.length b.c], .agg #[.slice (some ⟨w6.heap.size, 0, none⟩) 1 1]] (w6.alloc (.cells x.cells 33)) fun e w' => ∃ d : Bk, e = .returned (.tuple #[.agg #[.slice d.A d.xs.length d.c], .int .i64 r.1]) ∧ d.rs = r.2 ∧ BkAt w' d ∧ Below (w6.alloc (.cells x.cells 33)).heap.size (w6.alloc (.cells x.cells 33)) w') := by
  have hb := (Below.refl w6.heap.size w6).alloc (Nat.le_refl _) (.cells x.cells 33)
  have h := rbjoin_any b ⟨[x], some ⟨w6.heap.size, 0, none⟩, 1⟩ _ (H1.out.below (B5.out.trans (hb.mono B5.out.size)) (Nat.le_refl _)) (one_at HV6.out) HBL.out (by show 1 ≤ 1000; omega) HFS.out (fun y hy => by rw [List.mem_singleton.1 hy]; exact HRR.out.1)
  have e : bjE b.rs (Bk.rs ⟨[x], some ⟨w6.heap.size, 0, none⟩, 1⟩) = r := HRR.out.2
  rw [e] at h
  exact Lib.hid h
set_option maxHeartbeats 16000000 in
theorem rbwrite_any (b : Bk) (z : List Int) (no q : Int) (s : ByteArray) (w : World) (h1 : BkAt w b) (hbl : b.xs.length ≤ 1000) (hfs : ∀ x ∈ b.xs, x.R.fs.length ≤ 1000) (hz16 : z.length = 16) (hzb : AllBytes z) (hss : s.size ≤ 1000) :
    Calls Tryz.prog 27 #[.agg #[.slice b.A b.xs.length b.c], .agg (bvals z), .int .i64 no, .int .i64 q, .string s] w (BJoinPost w (bwrite b.rs z no q s)) := by
  have s0 := ((BoAt.new w (.slice b.A b.xs.length b.c)).old (.cells (bvals z) 26)).old (.cells #[.slice none 0 0] 24)
  have i1 := (IdAt.new (w.alloc (.cells #[.slice b.A b.xs.length b.c] 24)) hz16).old (.cells #[.slice none 0 0] 24)
  rw [World.size_alloc] at i1
  have s2 := BoAt.new ((w.alloc (.cells #[.slice b.A b.xs.length b.c] 24)).alloc (.cells (bvals z) 26)) (.slice none 0 0)
  rw [World.size_alloc, World.size_alloc] at s2
  have S0 := Lib.hid s0
  have I1 := Lib.hid i1
  have S2 := Lib.hid s2
  have HB := Lib.hid ((((Below.refl w.heap.size w).alloc (Nat.le_refl _) (.cells #[.slice b.A b.xs.length b.c] 24)).alloc (by simp) (.cells (bvals z) 26)).alloc (by simp; omega) (.cells #[.slice none 0 0] 24))
  have LA := Lib.hid S0.out.load
  have HM := Lib.hid (rbmay_any b _ (h1.below HB.out (Nat.le_refl _)) hfs hbl)
  have H1 := Lib.hid h1
  have HFS := Lib.hid hfs
  have HBL := Lib.hid hbl
  have HZ := Lib.hid (And.intro hz16 hzb)
  have hz : ∀ w : World, (zeroValue 24).run Tryz.prog w = .ok (.agg #[.slice none 0 0]) w := zeroBook
  have hb0 := build_book0
  have hzx := zeroX
  have HN := Lib.hid (fun w => rnext_any (blast b.rs).1 (blast b.rs).2 q w)
  have HTT : Hid (nxt (blast b.rs).1 (blast b.rs).2 q = bnext b.rs q) := Lib.hid rfl
  rw [HTT.out] at HN
  unfold st nxtV st at HN
  clear s0 i1 s2 h1 hz16 hzb hfs hbl
  cases hm : bmay b.rs
  · have HE := Lib.hid (show bwrite b.rs z no q s = (1, []) by unfold bwrite bwok; rw [hm]; rfl)
    rw [hm] at HM
    clear hm
    go_enter Tryz.func27, Tryz.ntmps27
    go_wp2_with (first | ((with_reducible refine wpList_load_by (o := ⟨some 18, .load 24 (.tmp 5), _, _, _, _⟩) ?e1 24 (.tmp 5) ?e2 ⟨w.heap.size, 0, none⟩ ?e3 _ LA.out ?_); (case e1 => rfl); (case e2 => rfl); (case e3 => rfl)))
    refine HM.out.mono ?_
    rintro e w1 ⟨rfl, hb⟩
    have S01 := Lib.hid (S0.out.below hb S0.out.lt)
    have I11 := Lib.hid (I1.out.below hb I1.out.lt)
    have S21 := Lib.hid (S2.out.below hb S2.out.lt)
    have B1 := Lib.hid (HB.out.trans (hb.mono HB.out.size))
    clear hb
    go_wp2_with (first | ((with_reducible refine wpList_store_oldb (o := ⟨none, .store 24 (.tmp 10) (.tmp 43), _, _, _, _⟩) ?e1 (.tmp 10) (.tmp 43) ?e2 (w.heap.size + 1 + 1) _ S21.out ?e3 (.slice none 0 0) ?e4 ?e5 ?_); (case e1 => rfl); (case e2 => rfl); (case e3 => rfl); (case e4 => rfl); (case e5 => rfl); intro w2 hg2 hx2; have G9 := Lib.hid hg2; have X9 := Lib.hid hx2; clear hg2 hx2))
    refine bodyPost_ret (v := .tuple #[.agg #[.slice none 0 0], .int .i64 1]) ?_ rfl ?_
    · exact res_bk2 Tryz.results27 rfl X9.out
    · rw [HE.out]
      exact ⟨bk0, rfl, rfl, BkAt.zero _, B1.out.grown G9.out B1.out.size (fun k e => by have := Option.some.inj e; omega)⟩
  · rw [hm] at HM
    by_cases t1 : no < 0
    · have HE := Lib.hid (show bwrite b.rs z no q s = (1, []) by unfold bwrite bwok; rw [hm, decide_eq_false (show ¬ 0 ≤ no by omega)]; rfl)
      clear hm
      go_enter Tryz.func27, Tryz.ntmps27
      go_wp2_with (first | ((with_reducible refine wpList_load_by (o := ⟨some 18, .load 24 (.tmp 5), _, _, _, _⟩) ?e1 24 (.tmp 5) ?e2 ⟨w.heap.size, 0, none⟩ ?e3 _ LA.out ?_); (case e1 => rfl); (case e2 => rfl); (case e3 => rfl)))
      refine HM.out.mono ?_
      rintro e w1 ⟨rfl, hb⟩
      have S01 := Lib.hid (S0.out.below hb S0.out.lt)
      have I11 := Lib.hid (I1.out.below hb I1.out.lt)
      have S21 := Lib.hid (S2.out.below hb S2.out.lt)
      have B1 := Lib.hid (HB.out.trans (hb.mono HB.out.size))
      clear hb
      go_wp2_with (first | ((with_reducible refine wpList_store_oldb (o := ⟨none, .store 24 (.tmp 10) (.tmp 43), _, _, _, _⟩) ?e1 (.tmp 10) (.tmp 43) ?e2 (w.heap.size + 1 + 1) _ S21.out ?e3 (.slice none 0 0) ?e4 ?e5 ?_); (case e1 => rfl); (case e2 => rfl); (case e3 => rfl); (case e4 => rfl); (case e5 => rfl); intro w2 hg2 hx2; have G9 := Lib.hid hg2; have X9 := Lib.hid hx2; clear hg2 hx2))
      refine bodyPost_ret (v := .tuple #[.agg #[.slice none 0 0], .int .i64 1]) ?_ rfl ?_
      · exact res_bk2 Tryz.results27 rfl X9.out
      · rw [HE.out]
        exact ⟨bk0, rfl, rfl, BkAt.zero _, B1.out.grown G9.out B1.out.size (fun k e => by have := Option.some.inj e; omega)⟩
    · by_cases t2 : 8 ≤ no
      · have HE := Lib.hid (show bwrite b.rs z no q s = (1, []) by unfold bwrite bwok; rw [hm, decide_eq_false (show ¬ no < 8 by omega), Bool.and_false]; rfl)
        clear hm
        go_enter Tryz.func27, Tryz.ntmps27
        go_wp2_with (first | ((with_reducible refine wpList_load_by (o := ⟨some 18, .load 24 (.tmp 5), _, _, _, _⟩) ?e1 24 (.tmp 5) ?e2 ⟨w.heap.size, 0, none⟩ ?e3 _ LA.out ?_); (case e1 => rfl); (case e2 => rfl); (case e3 => rfl)))
        refine HM.out.mono ?_
        rintro e w1 ⟨rfl, hb⟩
        have S01 := Lib.hid (S0.out.below hb S0.out.lt)
        have I11 := Lib.hid (I1.out.below hb I1.out.lt)
        have S21 := Lib.hid (S2.out.below hb S2.out.lt)
        have B1 := Lib.hid (HB.out.trans (hb.mono HB.out.size))
        clear hb
        go_wp2_with (first | ((with_reducible refine wpList_store_oldb (o := ⟨none, .store 24 (.tmp 10) (.tmp 43), _, _, _, _⟩) ?e1 (.tmp 10) (.tmp 43) ?e2 (w.heap.size + 1 + 1) _ S21.out ?e3 (.slice none 0 0) ?e4 ?e5 ?_); (case e1 => rfl); (case e2 => rfl); (case e3 => rfl); (case e4 => rfl); (case e5 => rfl); intro w2 hg2 hx2; have G9 := Lib.hid hg2; have X9 := Lib.hid hx2; clear hg2 hx2))
        refine bodyPost_ret (v := .tuple #[.agg #[.slice none 0 0], .int .i64 1]) ?_ rfl ?_
        · exact res_bk2 Tryz.results27 rfl X9.out
        · rw [HE.out]
          exact ⟨bk0, rfl, rfl, BkAt.zero _, B1.out.grown G9.out B1.out.size (fun k e => by have := Option.some.inj e; omega)⟩
      · by_cases t5 : q < 0
        · have HE := Lib.hid (show bwrite b.rs z no q s = (1, []) by unfold bwrite bwok; rw [show mayR q = false by (unfold mayR; exact decide_eq_false (by omega)), Bool.and_false]; rfl)
          clear hm
          go_enter Tryz.func27, Tryz.ntmps27
          go_wp2_with (first | ((with_reducible refine wpList_load_by (o := ⟨some 18, .load 24 (.tmp 5), _, _, _, _⟩) ?e1 24 (.tmp 5) ?e2 ⟨w.heap.size, 0, none⟩ ?e3 _ LA.out ?_); (case e1 => rfl); (case e2 => rfl); (case e3 => rfl)))
          refine HM.out.mono ?_
          rintro e w1 ⟨rfl, hb⟩
          have S01 := Lib.hid (S0.out.below hb S0.out.lt)
          have I11 := Lib.hid (I1.out.below hb I1.out.lt)
          have S21 := Lib.hid (S2.out.below hb S2.out.lt)
          have B1 := Lib.hid (HB.out.trans (hb.mono HB.out.size))
          clear hb
          go_wp2_with (first | ((with_reducible refine wpList_store_oldb (o := ⟨none, .store 24 (.tmp 10) (.tmp 43), _, _, _, _⟩) ?e1 (.tmp 10) (.tmp 43) ?e2 (w.heap.size + 1 + 1) _ S21.out ?e3 (.slice none 0 0) ?e4 ?e5 ?_); (case e1 => rfl); (case e2 => rfl); (case e3 => rfl); (case e4 => rfl); (case e5 => rfl); intro w2 hg2 hx2; have G9 := Lib.hid hg2; have X9 := Lib.hid hx2; clear hg2 hx2))
          refine bodyPost_ret (v := .tuple #[.agg #[.slice none 0 0], .int .i64 1]) ?_ rfl ?_
          · exact res_bk2 Tryz.results27 rfl X9.out
          · rw [HE.out]
            exact ⟨bk0, rfl, rfl, BkAt.zero _, B1.out.grown G9.out B1.out.size (fun k e => by have := Option.some.inj e; omega)⟩
        · by_cases t6 : 8 ≤ q
          · have HE := Lib.hid (show bwrite b.rs z no q s = (1, []) by unfold bwrite bwok; rw [show mayR q = false by (unfold mayR; exact decide_eq_false (by omega)), Bool.and_false]; rfl)
            clear hm
            go_enter Tryz.func27, Tryz.ntmps27
            go_wp2_with (first | ((with_reducible refine wpList_load_by (o := ⟨some 18, .load 24 (.tmp 5), _, _, _, _⟩) ?e1 24 (.tmp 5) ?e2 ⟨w.heap.size, 0, none⟩ ?e3 _ LA.out ?_); (case e1 => rfl); (case e2 => rfl); (case e3 => rfl)))
            refine HM.out.mono ?_
            rintro e w1 ⟨rfl, hb⟩
            have S01 := Lib.hid (S0.out.below hb S0.out.lt)
            have I11 := Lib.hid (I1.out.below hb I1.out.lt)
            have S21 := Lib.hid (S2.out.below hb S2.out.lt)
            have B1 := Lib.hid (HB.out.trans (hb.mono HB.out.size))
            clear hb
            go_wp2_with (first | ((with_reducible refine wpList_store_oldb (o := ⟨none, .store 24 (.tmp 10) (.tmp 43), _, _, _, _⟩) ?e1 (.tmp 10) (.tmp 43) ?e2 (w.heap.size + 1 + 1) _ S21.out ?e3 (.slice none 0 0) ?e4 ?e5 ?_); (case e1 => rfl); (case e2 => rfl); (case e3 => rfl); (case e4 => rfl); (case e5 => rfl); intro w2 hg2 hx2; have G9 := Lib.hid hg2; have X9 := Lib.hid hx2; clear hg2 hx2))
            refine bodyPost_ret (v := .tuple #[.agg #[.slice none 0 0], .int .i64 1]) ?_ rfl ?_
            · exact res_bk2 Tryz.results27 rfl X9.out
            · rw [HE.out]
              exact ⟨bk0, rfl, rfl, BkAt.zero _, B1.out.grown G9.out B1.out.size (fun k e => by have := Option.some.inj e; omega)⟩
          · have hq : mayR q = true := by unfold mayR; exact decide_eq_true (by omega)
            by_cases t3 : 200 < (s.size : Int)
            · have HE := Lib.hid (show bwrite b.rs z no q s = (1, []) by unfold bwrite bwok; rw [decide_eq_false (show ¬ s.size ≤ 200 by omega), Bool.and_false]; rfl)
              clear hm hq
              go_enter Tryz.func27, Tryz.ntmps27
              go_wp2_with (first | ((with_reducible refine wpList_load_by (o := ⟨some 18, .load 24 (.tmp 5), _, _, _, _⟩) ?e1 24 (.tmp 5) ?e2 ⟨w.heap.size, 0, none⟩ ?e3 _ LA.out ?_); (case e1 => rfl); (case e2 => rfl); (case e3 => rfl)))
              refine HM.out.mono ?_
              rintro e w1 ⟨rfl, hb⟩
              have S01 := Lib.hid (S0.out.below hb S0.out.lt)
              have I11 := Lib.hid (I1.out.below hb I1.out.lt)
              have S21 := Lib.hid (S2.out.below hb S2.out.lt)
              have B1 := Lib.hid (HB.out.trans (hb.mono HB.out.size))
              clear hb
              go_wp2_with (first | ((with_reducible refine wpList_store_oldb (o := ⟨none, .store 24 (.tmp 10) (.tmp 43), _, _, _, _⟩) ?e1 (.tmp 10) (.tmp 43) ?e2 (w.heap.size + 1 + 1) _ S21.out ?e3 (.slice none 0 0) ?e4 ?e5 ?_); (case e1 => rfl); (case e2 => rfl); (case e3 => rfl); (case e4 => rfl); (case e5 => rfl); intro w2 hg2 hx2; have G9 := Lib.hid hg2; have X9 := Lib.hid hx2; clear hg2 hx2))
              refine bodyPost_ret (v := .tuple #[.agg #[.slice none 0 0], .int .i64 1]) ?_ rfl ?_
              · exact res_bk2 Tryz.results27 rfl X9.out
              · rw [HE.out]
                exact ⟨bk0, rfl, rfl, BkAt.zero _, B1.out.grown G9.out B1.out.size (fun k e => by have := Option.some.inj e; omega)⟩
            · have HOK : bwok b.rs no q s = true := by unfold bwok; rw [hm, hq, decide_eq_true (show 0 ≤ no by omega), decide_eq_true (show no < 8 by omega), decide_eq_true (show s.size ≤ 200 by omega)]; rfl
              have HEE : bwrite b.rs z no q s = if (bnext b.rs q).2.2 = 0 then bjE b.rs [wrec z no (bnext b.rs q) s] else ((bnext b.rs q).2.2, []) := by unfold bwrite; rw [HOK, if_pos rfl]
              clear hm hq HOK HTT
              generalize bnext b.rs q = t at *
              by_cases t4 : t.2.2 = 0
              · rw [if_pos t4] at HEE
                have HE := Lib.hid HEE
                obtain ⟨r, hr⟩ : ∃ r, bjE b.rs [wrec z no t s] = r := ⟨_, rfl⟩
                have HRR : Hid ((wrec z no t s).fs.length ≤ 1000 ∧ bjE b.rs [wrec z no t s] = r) := Lib.hid ⟨by show 1 ≤ 1000; omega, hr⟩
                rw [hr] at HE
                clear HEE hr
                go_enter Tryz.func27, Tryz.ntmps27
                go_wp2_with (first | ((with_reducible refine wpList_load_by (o := ⟨some 18, .load 24 (.tmp 5), _, _, _, _⟩) ?e1 24 (.tmp 5) ?e2 ⟨w.heap.size, 0, none⟩ ?e3 _ LA.out ?_); (case e1 => rfl); (case e2 => rfl); (case e3 => rfl)))
                refine HM.out.mono ?_
                rintro e w1 ⟨rfl, hb⟩
                have S01 := Lib.hid (S0.out.below hb S0.out.lt)
                have I11 := Lib.hid (I1.out.below hb I1.out.lt)
                have S21 := Lib.hid (S2.out.below hb S2.out.lt)
                have B1 := Lib.hid (HB.out.trans (hb.mono HB.out.size))
                clear hb
                have LB := Lib.hid S01.out.load
                have HL := Lib.hid (rblast_any b w1 (H1.out.below B1.out (Nat.le_refl _)) HFS.out)
                unfold st at HL
                go_wp2_with (first | ((with_reducible refine wpList_load_by (o := ⟨some 45, .load 24 (.tmp 5), _, _, _, _⟩) ?e1 24 (.tmp 5) ?e2 ⟨w.heap.size, 0, none⟩ ?e3 _ LB.out ?_); (case e1 => rfl); (case e2 => rfl); (case e3 => rfl)))
                refine HL.out.mono ?_
                rintro e w2 ⟨rfl, hb⟩
                have S02 := Lib.hid (S01.out.below hb S01.out.lt)
                have I12 := Lib.hid (I11.out.below hb I11.out.lt)
                have S22 := Lib.hid (S21.out.below hb S21.out.lt)
                have B2 := Lib.hid (B1.out.trans (hb.mono B1.out.size))
                clear hb
                go_wp2_with fail
                refine (HN.out _).mono ?_
                rintro e w3 ⟨rfl, hb⟩
                have S03 := Lib.hid (S02.out.below hb S02.out.lt)
                have I13 := Lib.hid (I12.out.below hb I12.out.lt)
                have S23 := Lib.hid (S22.out.below hb S22.out.lt)
                have B3 := Lib.hid (B2.out.trans (hb.mono B2.out.size))
                clear hb
                have BS := (Below.refl w3.heap.size w3).alloc (Nat.le_refl _) (.cells #[.int .i64 t.1, .int .i64 t.2.1] 30)
                have L55 := Lib.hid (load_arr16 (I13.out.below BS I13.out.lt))
                have a0 := (StAt.new w3 t.1 t.2.1).c0
                have a1 := (StAt.new w3 t.1 t.2.1).c1
                have BF := BS.trans (((Below.refl _ _).alloc (Nat.le_refl _) (.cells #[.int .i64 no, .int .i64 t.1, .int .i64 t.2.1, .string s] 59)).mono BS.size)
                have hbz := build_zf HZ.out.1
                have hfs1 := fs_one' (w3.alloc (.cells #[.int .i64 t.1, .int .i64 t.2.1] 30)) ⟨no, ⟨t.1, t.2.1, s⟩⟩
                simp only [World.size_alloc] at hfs1
                have HX5 : Hid (RvAt ((w3.alloc (.cells #[.int .i64 t.1, .int .i64 t.2.1] 30)).alloc (.cells #[.int .i64 no, .int .i64 t.1, .int .i64 t.2.1, .string s] 59)) (⟨wrec z no t s, some ⟨w3.heap.size + 1, 0, none⟩, 1⟩ : RcA)) := Lib.hid ⟨⟨HZ.out.1, HZ.out.2⟩, hfs1⟩
                have ZX : Hid ((RcA.R (⟨wrec z no t s, some ⟨w3.heap.size + 1, 0, none⟩, 1⟩ : RcA)).z.length = 16) := Lib.hid HZ.out.1
                clear hfs1
                have S04 := Lib.hid (S03.out.below BF S03.out.lt)
                have I14 := Lib.hid (I13.out.below BF I13.out.lt)
                have S24 := Lib.hid (S23.out.below BF S23.out.lt)
                have B4 := Lib.hid (B3.out.trans (BF.mono B3.out.size))
                clear BF
                go_wp2_with (first | ((with_reducible refine wpList_load_by (o := ⟨some 55, .load 26 (.tmp 6), _, _, _, _⟩) ?e1 26 (.tmp 6) ?e2 ⟨(w.heap.size + 1), 0, none⟩ ?e3 _ L55.out ?_); (case e1 => rfl); (case e2 => rfl); (case e3 => rfl)) | ((with_reducible refine wpList_build_by (o := ⟨some 62, .build 33 #[(0, .tmp 55), (2, .tmp 61)], _, _, _, _⟩) ?e1 33 #[(0, .tmp 55), (2, .tmp 61)] ?e2 #[(0, .agg (bvals z)), (2, .slice (some ⟨w3.heap.size + 1, 0, none⟩) 1 1)] ?e3 _ (hbz _ _ _ _) ?_); (case e1 => rfl); (case e2 => rfl); (case e3 => (simp only [List.map_toArray, List.map_cons, List.map_nil]; rfl))) | ((with_reducible refine wpList_store_newx (o := ⟨none, .store 33 (.tmp 15) (.tmp 62), _, _, _, _⟩) (w := ((w3.alloc (.cells #[.int .i64 t.1, .int .i64 t.2.1] 30)).alloc (.cells #[.int .i64 no, .int .i64 t.1, .int .i64 t.2.1, .string s] 59))) ?e1 (.tmp 15) (.tmp 62) ?e2 (w3.heap.size + 1 + 1) ?e0 ?e3 (⟨wrec z no t s, some ⟨w3.heap.size + 1, 0, none⟩, 1⟩ : RcA) ?e4 ZX.out ?_); (case e1 => rfl); (case e2 => rfl); (case e0 => simp); (case e3 => rfl); (case e4 => rfl); intro w6 hb6 hx6 hs6; have S05 := Lib.hid (S04.out.below hb6 S04.out.lt); have I15 := Lib.hid (I14.out.below hb6 I14.out.lt); have S25 := Lib.hid (S24.out.below hb6 S24.out.lt); have B5 := Lib.hid (B4.out.trans (hb6.mono B4.out.size)); have LB6 := Lib.hid S05.out.load; have LX6 := Lib.hid hx6.load; have HV6 := Lib.hid (HX5.out.below hb6 (Nat.le_refl _)); have HJ := joinOne b (⟨wrec z no t s, some ⟨w3.heap.size + 1, 0, none⟩, 1⟩ : RcA) w6 _ H1 HFS HBL B5 HV6 HRR; clear hx6 hs6 hb6) | ((with_reducible refine wpList_load_by (o := ⟨some 64, .load 24 (.tmp 5), _, _, _, _⟩) ?e1 24 (.tmp 5) ?e2 ⟨w.heap.size, 0, none⟩ ?e3 _ LB6.out ?_); (case e1 => rfl); (case e2 => rfl); (case e3 => rfl)) | ((with_reducible refine wpList_load_by (o := ⟨some 65, .load 33 (.tmp 15), _, _, _, _⟩) ?e1 33 (.tmp 15) ?e2 ⟨(w3.heap.size + 1 + 1), 0, none⟩ ?e3 _ LX6.out ?_); (case e1 => rfl); (case e2 => rfl); (case e3 => rfl)) | ((with_reducible refine wpList_bslice (o := ⟨some 66, .buildSlice 22 1 #[(0, .tmp 65)], _, _, _, _⟩) ?e1 (.tmp 65) ?e2 (⟨wrec z no t s, some ⟨w3.heap.size + 1, 0, none⟩, 1⟩ : RcA) ?e3 ZX.out ?_); (case e1 => rfl); (case e2 => rfl); (case e3 => rfl)) | ((with_reducible refine wpList_build_by (o := ⟨some 67, .build 24 #[(0, .tmp 66)], _, _, _, _⟩) ?e1 24 #[(0, .tmp 66)] ?e2 #[(0, .slice (some ⟨w6.heap.size, 0, none⟩) 1 1)] ?e3 _ (build_book _ _ _ _) ?_); (case e1 => rfl); (case e2 => rfl); (case e3 => (simp only [List.map_toArray, List.map_cons, List.map_nil]; rfl))))
                have hb7 := (Below.refl w6.heap.size w6).alloc (Nat.le_refl _) (.cells (RcA.cells (⟨wrec z no t s, some ⟨w3.heap.size + 1, 0, none⟩, 1⟩ : RcA)) 33)
                have S06 := Lib.hid (S05.out.below hb7 S05.out.lt)
                have I16 := Lib.hid (I15.out.below hb7 I15.out.lt)
                have S26 := Lib.hid (S25.out.below hb7 S25.out.lt)
                have B6 := Lib.hid (B5.out.trans (hb7.mono B5.out.size))
                clear hb7
                refine HJ.out.mono ?_
                rintro e w7 ⟨d, rfl, hd, hk, hb⟩
                have S07 := Lib.hid (S06.out.below hb S06.out.lt)
                have I17 := Lib.hid (I16.out.below hb I16.out.lt)
                have S27 := Lib.hid (S26.out.below hb S26.out.lt)
                have B7 := Lib.hid (B6.out.trans (hb.mono B6.out.size))
                clear hb
                have HD := Lib.hid hd
                have hb9 := (Below.refl w7.heap.size w7).alloc (Nat.le_refl _) (.cells #[.slice d.A d.xs.length d.c] 24)
                have HK := Lib.hid (hk.below hb9 (Nat.le_refl _))
                have LD := Lib.hid (BoAt.new w7 (.slice d.A d.xs.length d.c)).load
                clear hd hk
                have S08 := Lib.hid (S07.out.below hb9 S07.out.lt)
                have I18 := Lib.hid (I17.out.below hb9 I17.out.lt)
                have S28 := Lib.hid (S27.out.below hb9 S27.out.lt)
                have B8 := Lib.hid (B7.out.trans (hb9.mono B7.out.size))
                clear hb9
                go_wp2_with (first | ((with_reducible refine wpList_load_by (o := ⟨some 71, .load 24 (.tmp 16), _, _, _, _⟩) ?e1 24 (.tmp 16) ?e2 ⟨w7.heap.size, 0, none⟩ ?e3 _ LD.out ?_); (case e1 => rfl); (case e2 => rfl); (case e3 => rfl)) | ((with_reducible refine wpList_store_oldb (o := ⟨none, .store 24 (.tmp 10) (.tmp 71), _, _, _, _⟩) ?e1 (.tmp 10) (.tmp 71) ?e2 (w.heap.size + 1 + 1) _ S28.out ?e3 (.slice d.A d.xs.length d.c) ?e4 ?e5 ?_); (case e1 => rfl); (case e2 => rfl); (case e3 => rfl); (case e4 => rfl); (case e5 => rfl); intro w2 hg2 hx2; have G9 := Lib.hid hg2; have X9 := Lib.hid hx2; clear hg2 hx2))
                refine bodyPost_ret (v := .tuple #[.agg #[.slice d.A d.xs.length d.c], .int .i64 r.1]) ?_ rfl ?_
                · exact res_bk2 Tryz.results27 rfl X9.out
                · rw [HE.out]
                  exact ⟨d, rfl, HD.out, HK.out.kept_bo G9.out S28.out, B8.out.grown G9.out B8.out.size (fun k e => by have := Option.some.inj e; omega)⟩
              · rw [if_neg t4] at HEE
                have HE := Lib.hid HEE
                clear HEE
                go_enter Tryz.func27, Tryz.ntmps27
                go_wp2_with (first | ((with_reducible refine wpList_load_by (o := ⟨some 18, .load 24 (.tmp 5), _, _, _, _⟩) ?e1 24 (.tmp 5) ?e2 ⟨w.heap.size, 0, none⟩ ?e3 _ LA.out ?_); (case e1 => rfl); (case e2 => rfl); (case e3 => rfl)))
                refine HM.out.mono ?_
                rintro e w1 ⟨rfl, hb⟩
                have S01 := Lib.hid (S0.out.below hb S0.out.lt)
                have I11 := Lib.hid (I1.out.below hb I1.out.lt)
                have S21 := Lib.hid (S2.out.below hb S2.out.lt)
                have B1 := Lib.hid (HB.out.trans (hb.mono HB.out.size))
                clear hb
                have LB := Lib.hid S01.out.load
                have HL := Lib.hid (rblast_any b w1 (H1.out.below B1.out (Nat.le_refl _)) HFS.out)
                unfold st at HL
                go_wp2_with (first | ((with_reducible refine wpList_load_by (o := ⟨some 45, .load 24 (.tmp 5), _, _, _, _⟩) ?e1 24 (.tmp 5) ?e2 ⟨w.heap.size, 0, none⟩ ?e3 _ LB.out ?_); (case e1 => rfl); (case e2 => rfl); (case e3 => rfl)))
                refine HL.out.mono ?_
                rintro e w2 ⟨rfl, hb⟩
                have S02 := Lib.hid (S01.out.below hb S01.out.lt)
                have I12 := Lib.hid (I11.out.below hb I11.out.lt)
                have S22 := Lib.hid (S21.out.below hb S21.out.lt)
                have B2 := Lib.hid (B1.out.trans (hb.mono B1.out.size))
                clear hb
                go_wp2_with fail
                refine (HN.out _).mono ?_
                rintro e w3 ⟨rfl, hb⟩
                have S03 := Lib.hid (S02.out.below hb S02.out.lt)
                have I13 := Lib.hid (I12.out.below hb I12.out.lt)
                have S23 := Lib.hid (S22.out.below hb S22.out.lt)
                have B3 := Lib.hid (B2.out.trans (hb.mono B2.out.size))
                clear hb
                have BS := (Below.refl w3.heap.size w3).alloc (Nat.le_refl _) (.cells #[.int .i64 t.1, .int .i64 t.2.1] 30)
                have S04 := Lib.hid (S03.out.below BS S03.out.lt)
                have I14 := Lib.hid (I13.out.below BS I13.out.lt)
                have S24 := Lib.hid (S23.out.below BS S23.out.lt)
                have B4 := Lib.hid (B3.out.trans (BS.mono B3.out.size))
                clear BS
                go_wp2_with (first | ((with_reducible refine wpList_store_oldb (o := ⟨none, .store 24 (.tmp 10) (.tmp 53), _, _, _, _⟩) ?e1 (.tmp 10) (.tmp 53) ?e2 (w.heap.size + 1 + 1) _ S24.out ?e3 (.slice none 0 0) ?e4 ?e5 ?_); (case e1 => rfl); (case e2 => rfl); (case e3 => rfl); (case e4 => rfl); (case e5 => rfl); intro w2 hg2 hx2; have G9 := Lib.hid hg2; have X9 := Lib.hid hx2; clear hg2 hx2))
                refine bodyPost_ret (v := .tuple #[.agg #[.slice none 0 0], .int .i64 t.2.2]) ?_ rfl ?_
                · exact res_bk2 Tryz.results27 rfl X9.out
                · rw [HE.out]
                  exact ⟨bk0, rfl, rfl, BkAt.zero _, B4.out.grown G9.out B4.out.size (fun k e => by have := Option.some.inj e; omega)⟩
end Go.Proofs.YtcmknbdeafcknaaGreatDoor

end
section
/-
  What the document's own Kill of books answers. Nothing that was there is written.
-/
namespace Go.Proofs.YtcmknbdeafcknaaGreatDoor
open Go.RowKit Go.Shelf WM
set_option linter.unusedVariables false
set_option maxRecDepth 100000
set_option maxHeartbeats 16000000 in
theorem rbkill_any (b : Bk) (z : List Int) (q : Int) (w : World) (h1 : BkAt w b) (hbl : b.xs.length ≤ 1000) (hfs : ∀ x ∈ b.xs, x.R.fs.length ≤ 1000) (hz16 : z.length = 16) (hzb : AllBytes z) :
    Calls Tryz.prog 29 #[.agg #[.slice b.A b.xs.length b.c], .agg (bvals z), .int .i64 q] w (BJoinPost w (bkill b.rs z q)) := by
  have s0 := ((BoAt.new w (.slice b.A b.xs.length b.c)).old (.cells (bvals z) 26)).old (.cells #[.slice none 0 0] 24)
  have i1 := (IdAt.new (w.alloc (.cells #[.slice b.A b.xs.length b.c] 24)) hz16).old (.cells #[.slice none 0 0] 24)
  rw [World.size_alloc] at i1
  have s2 := BoAt.new ((w.alloc (.cells #[.slice b.A b.xs.length b.c] 24)).alloc (.cells (bvals z) 26)) (.slice none 0 0)
  rw [World.size_alloc, World.size_alloc] at s2
  have S0 := Lib.hid s0
  have I1 := Lib.hid i1
  have S2 := Lib.hid s2
  have HB := Lib.hid ((((Below.refl w.heap.size w).alloc (Nat.le_refl _) (.cells #[.slice b.A b.xs.length b.c] 24)).alloc (by simp) (.cells (bvals z) 26)).alloc (by simp; omega) (.cells #[.slice none 0 0] 24))
  have LA := Lib.hid S0.out.load
  have HM := Lib.hid (rbmay_any b _ (h1.below HB.out (Nat.le_refl _)) hfs hbl)
  have H1 := Lib.hid h1
  have HFS := Lib.hid hfs
  have HBL := Lib.hid hbl
  have HZ := Lib.hid (And.intro hz16 hzb)
  have hz : ∀ w : World, (zeroValue 24).run Tryz.prog w = .ok (.agg #[.slice none 0 0]) w := zeroBook
  have hb0 := build_book0
  have hzx := zeroX
  have HN := Lib.hid (fun w => rnext_any (blast b.rs).1 (blast b.rs).2 q w)
  have HTT : Hid (nxt (blast b.rs).1 (blast b.rs).2 q = bnext b.rs q) := Lib.hid rfl
  rw [HTT.out] at HN
  unfold st nxtV st at HN
  clear s0 i1 s2 h1 hz16 hzb hfs hbl
  cases hm : bmay b.rs
  · have HE := Lib.hid (show bkill b.rs z q = (1, []) by unfold bkill; rw [hm]; rfl)
    rw [hm] at HM
    clear hm
    go_enter Tryz.func29, Tryz.ntmps29
    go_wp2_with (first | ((with_reducible refine wpList_load_by (o := ⟨some 15, .load 24 (.tmp 3), _, _, _, _⟩) ?e1 24 (.tmp 3) ?e2 ⟨w.heap.size, 0, none⟩ ?e3 _ LA.out ?_); (case e1 => rfl); (case e2 => rfl); (case e3 => rfl)))
    refine HM.out.mono ?_
    rintro e w1 ⟨rfl, hb⟩
    have S01 := Lib.hid (S0.out.below hb S0.out.lt)
    have I11 := Lib.hid (I1.out.below hb I1.out.lt)
    have S21 := Lib.hid (S2.out.below hb S2.out.lt)
    have B1 := Lib.hid (HB.out.trans (hb.mono HB.out.size))
    clear hb
    go_wp2_with (first | ((with_reducible refine wpList_store_oldb (o := ⟨none, .store 24 (.tmp 6) (.tmp 27), _, _, _, _⟩) ?e1 (.tmp 6) (.tmp 27) ?e2 (w.heap.size + 1 + 1) _ S21.out ?e3 (.slice none 0 0) ?e4 ?e5 ?_); (case e1 => rfl); (case e2 => rfl); (case e3 => rfl); (case e4 => rfl); (case e5 => rfl); intro w2 hg2 hx2; have G9 := Lib.hid hg2; have X9 := Lib.hid hx2; clear hg2 hx2))
    refine bodyPost_ret (v := .tuple #[.agg #[.slice none 0 0], .int .i64 1]) ?_ rfl ?_
    · exact res_bk2 Tryz.results29 rfl X9.out
    · rw [HE.out]
      exact ⟨bk0, rfl, rfl, BkAt.zero _, B1.out.grown G9.out B1.out.size (fun k e => by have := Option.some.inj e; omega)⟩
  · rw [hm] at HM
    by_cases t5 : q < 0
    · have HE := Lib.hid (show bkill b.rs z q = (1, []) by unfold bkill; rw [show mayR q = false by (unfold mayR; exact decide_eq_false (by omega)), Bool.and_false]; rfl)
      clear hm
      go_enter Tryz.func29, Tryz.ntmps29
      go_wp2_with (first | ((with_reducible refine wpList_load_by (o := ⟨some 15, .load 24 (.tmp 3), _, _, _, _⟩) ?e1 24 (.tmp 3) ?e2 ⟨w.heap.size, 0, none⟩ ?e3 _ LA.out ?_); (case e1 => rfl); (case e2 => rfl); (case e3 => rfl)))
      refine HM.out.mono ?_
      rintro e w1 ⟨rfl, hb⟩
      have S01 := Lib.hid (S0.out.below hb S0.out.lt)
      have I11 := Lib.hid (I1.out.below hb I1.out.lt)
      have S21 := Lib.hid (S2.out.below hb S2.out.lt)
      have B1 := Lib.hid (HB.out.trans (hb.mono HB.out.size))
      clear hb
      go_wp2_with (first | ((with_reducible refine wpList_store_oldb (o := ⟨none, .store 24 (.tmp 6) (.tmp 27), _, _, _, _⟩) ?e1 (.tmp 6) (.tmp 27) ?e2 (w.heap.size + 1 + 1) _ S21.out ?e3 (.slice none 0 0) ?e4 ?e5 ?_); (case e1 => rfl); (case e2 => rfl); (case e3 => rfl); (case e4 => rfl); (case e5 => rfl); intro w2 hg2 hx2; have G9 := Lib.hid hg2; have X9 := Lib.hid hx2; clear hg2 hx2))
      refine bodyPost_ret (v := .tuple #[.agg #[.slice none 0 0], .int .i64 1]) ?_ rfl ?_
      · exact res_bk2 Tryz.results29 rfl X9.out
      · rw [HE.out]
        exact ⟨bk0, rfl, rfl, BkAt.zero _, B1.out.grown G9.out B1.out.size (fun k e => by have := Option.some.inj e; omega)⟩
    · by_cases t6 : 8 ≤ q
      · have HE := Lib.hid (show bkill b.rs z q = (1, []) by unfold bkill; rw [show mayR q = false by (unfold mayR; exact decide_eq_false (by omega)), Bool.and_false]; rfl)
        clear hm
        go_enter Tryz.func29, Tryz.ntmps29
        go_wp2_with (first | ((with_reducible refine wpList_load_by (o := ⟨some 15, .load 24 (.tmp 3), _, _, _, _⟩) ?e1 24 (.tmp 3) ?e2 ⟨w.heap.size, 0, none⟩ ?e3 _ LA.out ?_); (case e1 => rfl); (case e2 => rfl); (case e3 => rfl)))
        refine HM.out.mono ?_
        rintro e w1 ⟨rfl, hb⟩
        have S01 := Lib.hid (S0.out.below hb S0.out.lt)
        have I11 := Lib.hid (I1.out.below hb I1.out.lt)
        have S21 := Lib.hid (S2.out.below hb S2.out.lt)
        have B1 := Lib.hid (HB.out.trans (hb.mono HB.out.size))
        clear hb
        go_wp2_with (first | ((with_reducible refine wpList_store_oldb (o := ⟨none, .store 24 (.tmp 6) (.tmp 27), _, _, _, _⟩) ?e1 (.tmp 6) (.tmp 27) ?e2 (w.heap.size + 1 + 1) _ S21.out ?e3 (.slice none 0 0) ?e4 ?e5 ?_); (case e1 => rfl); (case e2 => rfl); (case e3 => rfl); (case e4 => rfl); (case e5 => rfl); intro w2 hg2 hx2; have G9 := Lib.hid hg2; have X9 := Lib.hid hx2; clear hg2 hx2))
        refine bodyPost_ret (v := .tuple #[.agg #[.slice none 0 0], .int .i64 1]) ?_ rfl ?_
        · exact res_bk2 Tryz.results29 rfl X9.out
        · rw [HE.out]
          exact ⟨bk0, rfl, rfl, BkAt.zero _, B1.out.grown G9.out B1.out.size (fun k e => by have := Option.some.inj e; omega)⟩
      · have hq : mayR q = true := by unfold mayR; exact decide_eq_true (by omega)
        cases his : (bat b.rs z).isSome
        · have HIS := Lib.hid his
          have HE := Lib.hid (show bkill b.rs z q = (6, []) by unfold bkill; rw [hm, hq, if_pos (by rfl), his]; rfl)
          clear hm hq his
          go_enter Tryz.func29, Tryz.ntmps29
          go_wp2_with (first | ((with_reducible refine wpList_load_by (o := ⟨some 15, .load 24 (.tmp 3), _, _, _, _⟩) ?e1 24 (.tmp 3) ?e2 ⟨w.heap.size, 0, none⟩ ?e3 _ LA.out ?_); (case e1 => rfl); (case e2 => rfl); (case e3 => rfl)))
          refine HM.out.mono ?_
          rintro e w1 ⟨rfl, hb⟩
          have S01 := Lib.hid (S0.out.below hb S0.out.lt)
          have I11 := Lib.hid (I1.out.below hb I1.out.lt)
          have S21 := Lib.hid (S2.out.below hb S2.out.lt)
          have B1 := Lib.hid (HB.out.trans (hb.mono HB.out.size))
          clear hb
          have LB := Lib.hid S01.out.load
          have LI := Lib.hid (load_arr16 I11.out)
          have HF := Lib.hid (rbfind_any b z w1 (H1.out.below B1.out (Nat.le_refl _)) HZ.out.1 HZ.out.2)
          unfold BFindPost at HF
          rw [HIS.out] at HF
          go_wp2_with (first | ((with_reducible refine wpList_load_by (o := ⟨some 29, .load 24 (.tmp 3), _, _, _, _⟩) ?e1 24 (.tmp 3) ?e2 ⟨w.heap.size, 0, none⟩ ?e3 _ LB.out ?_); (case e1 => rfl); (case e2 => rfl); (case e3 => rfl)) | ((with_reducible refine wpList_load_by (o := ⟨some 30, .load 26 (.tmp 4), _, _, _, _⟩) ?e1 26 (.tmp 4) ?e2 ⟨(w.heap.size + 1), 0, none⟩ ?e3 _ LI.out ?_); (case e1 => rfl); (case e2 => rfl); (case e3 => rfl)))
          refine HF.out.mono ?_
          rintro e w2 ⟨y, rfl, hyR, hy, hb⟩
          have S02 := Lib.hid (S01.out.below hb S01.out.lt)
          have I12 := Lib.hid (I11.out.below hb I11.out.lt)
          have S22 := Lib.hid (S21.out.below hb S21.out.lt)
          have B2 := Lib.hid (B1.out.trans (hb.mono B1.out.size))
          clear hb
          have ZY := Lib.hid hy.len
          clear hyR hy
          go_wp2_with (first | ((with_reducible refine wpList_store_newx (o := ⟨none, .store 33 (.tmp 9) (.tmp 32), _, _, _, _⟩) (w := w2) ?e1 (.tmp 9) (.tmp 32) ?e2 w2.heap.size ?e0 ?e3 y ?e4 ZY.out ?_); (case e1 => rfl); (case e2 => rfl); (case e0 => rfl); (case e3 => rfl); (case e4 => rfl); intro w3 hb4 hx4 hs4; have S03 := Lib.hid (S02.out.below hb4 S02.out.lt); have I13 := Lib.hid (I12.out.below hb4 I12.out.lt); have S23 := Lib.hid (S22.out.below hb4 S22.out.lt); have B3 := Lib.hid (B2.out.trans (hb4.mono B2.out.size)); clear hb4; clear hx4 hs4) | ((with_reducible refine wpList_store_oldb (o := ⟨none, .store 24 (.tmp 6) (.tmp 36), _, _, _, _⟩) ?e1 (.tmp 6) (.tmp 36) ?e2 (w.heap.size + 1 + 1) _ S23.out ?e3 (.slice none 0 0) ?e4 ?e5 ?_); (case e1 => rfl); (case e2 => rfl); (case e3 => rfl); (case e4 => rfl); (case e5 => rfl); intro w2 hg2 hx2; have G9 := Lib.hid hg2; have X9 := Lib.hid hx2; clear hg2 hx2))
          refine bodyPost_ret (v := .tuple #[.agg #[.slice none 0 0], .int .i64 6]) ?_ rfl ?_
          · exact res_bk2 Tryz.results29 rfl X9.out
          · rw [HE.out]
            exact ⟨bk0, rfl, rfl, BkAt.zero _, B3.out.grown G9.out B3.out.size (fun k e => by have := Option.some.inj e; omega)⟩
        · have HIS := Lib.hid his
          have HEE : bkill b.rs z q = if (bnext b.rs q).2.2 = 0 then bjE b.rs [krec z (bnext b.rs q)] else ((bnext b.rs q).2.2, []) := by unfold bkill; rw [hm, hq, if_pos (by rfl), his, if_pos rfl]
          clear hm hq his HTT
          generalize bnext b.rs q = t at *
          by_cases t4 : t.2.2 = 0
          · rw [if_pos t4] at HEE
            have HE := Lib.hid HEE
            obtain ⟨r, hr⟩ : ∃ r, bjE b.rs [krec z t] = r := ⟨_, rfl⟩
            have HRR : Hid ((krec z t).fs.length ≤ 1000 ∧ bjE b.rs [krec z t] = r) := Lib.hid ⟨Nat.zero_le _, hr⟩
            rw [hr] at HE
            clear HEE hr
            go_enter Tryz.func29, Tryz.ntmps29
            go_wp2_with (first | ((with_reducible refine wpList_load_by (o := ⟨some 15, .load 24 (.tmp 3), _, _, _, _⟩) ?e1 24 (.tmp 3) ?e2 ⟨w.heap.size, 0, none⟩ ?e3 _ LA.out ?_); (case e1 => rfl); (case e2 => rfl); (case e3 => rfl)))
            refine HM.out.mono ?_
            rintro e w1 ⟨rfl, hb⟩
            have S01 := Lib.hid (S0.out.below hb S0.out.lt)
            have I11 := Lib.hid (I1.out.below hb I1.out.lt)
            have S21 := Lib.hid (S2.out.below hb S2.out.lt)
            have B1 := Lib.hid (HB.out.trans (hb.mono HB.out.size))
            clear hb
            have LB := Lib.hid S01.out.load
            have LI := Lib.hid (load_arr16 I11.out)
            have HF := Lib.hid (rbfind_any b z w1 (H1.out.below B1.out (Nat.le_refl _)) HZ.out.1 HZ.out.2)
            unfold BFindPost at HF
            rw [HIS.out] at HF
            go_wp2_with (first | ((with_reducible refine wpList_load_by (o := ⟨some 29, .load 24 (.tmp 3), _, _, _, _⟩) ?e1 24 (.tmp 3) ?e2 ⟨w.heap.size, 0, none⟩ ?e3 _ LB.out ?_); (case e1 => rfl); (case e2 => rfl); (case e3 => rfl)) | ((with_reducible refine wpList_load_by (o := ⟨some 30, .load 26 (.tmp 4), _, _, _, _⟩) ?e1 26 (.tmp 4) ?e2 ⟨(w.heap.size + 1), 0, none⟩ ?e3 _ LI.out ?_); (case e1 => rfl); (case e2 => rfl); (case e3 => rfl)))
            refine HF.out.mono ?_
            rintro e w2 ⟨y, rfl, hyR, hy, hb⟩
            have S02 := Lib.hid (S01.out.below hb S01.out.lt)
            have I12 := Lib.hid (I11.out.below hb I11.out.lt)
            have S22 := Lib.hid (S21.out.below hb S21.out.lt)
            have B2 := Lib.hid (B1.out.trans (hb.mono B1.out.size))
            clear hb
            have ZY := Lib.hid hy.len
            clear hyR hy
            go_wp2_with (first | ((with_reducible refine wpList_store_newx (o := ⟨none, .store 33 (.tmp 9) (.tmp 32), _, _, _, _⟩) (w := w2) ?e1 (.tmp 9) (.tmp 32) ?e2 w2.heap.size ?e0 ?e3 y ?e4 ZY.out ?_); (case e1 => rfl); (case e2 => rfl); (case e0 => rfl); (case e3 => rfl); (case e4 => rfl); intro w3 hb4 hx4 hs4; have S03 := Lib.hid (S02.out.below hb4 S02.out.lt); have I13 := Lib.hid (I12.out.below hb4 I12.out.lt); have S23 := Lib.hid (S22.out.below hb4 S22.out.lt); have B3 := Lib.hid (B2.out.trans (hb4.mono B2.out.size)); clear hb4; have LC := Lib.hid S03.out.load; have HL := Lib.hid (rblast_any b w3 (H1.out.below B3.out (Nat.le_refl _)) HFS.out); unfold st at HL; clear hx4 hs4) | ((with_reducible refine wpList_load_by (o := ⟨some 38, .load 24 (.tmp 3), _, _, _, _⟩) ?e1 24 (.tmp 3) ?e2 ⟨w.heap.size, 0, none⟩ ?e3 _ LC.out ?_); (case e1 => rfl); (case e2 => rfl); (case e3 => rfl)))
            refine HL.out.mono ?_
            rintro e w4 ⟨rfl, hb⟩
            have S04 := Lib.hid (S03.out.below hb S03.out.lt)
            have I14 := Lib.hid (I13.out.below hb I13.out.lt)
            have S24 := Lib.hid (S23.out.below hb S23.out.lt)
            have B4 := Lib.hid (B3.out.trans (hb.mono B3.out.size))
            clear hb
            go_wp2_with fail
            refine (HN.out _).mono ?_
            rintro e w5 ⟨rfl, hb⟩
            have S05 := Lib.hid (S04.out.below hb S04.out.lt)
            have I15 := Lib.hid (I14.out.below hb I14.out.lt)
            have S25 := Lib.hid (S24.out.below hb S24.out.lt)
            have B5 := Lib.hid (B4.out.trans (hb.mono B4.out.size))
            clear hb
            have BS := (Below.refl w5.heap.size w5).alloc (Nat.le_refl _) (.cells #[.int .i64 t.1, .int .i64 t.2.1] 30)
            have L49 := Lib.hid (S05.out.below BS S05.out.lt).load
            have L50 := Lib.hid (load_arr16 (I15.out.below BS I15.out.lt))
            have a0 := (StAt.new w5 t.1 t.2.1).c0
            have a1 := (StAt.new w5 t.1 t.2.1).c1
            have hbz := build_zd HZ.out.1
            have HX6 : Hid (RvAt (w5.alloc (.cells #[.int .i64 t.1, .int .i64 t.2.1] 30)) (⟨krec z t, none, 0⟩ : RcA)) := Lib.hid ⟨⟨HZ.out.1, HZ.out.2⟩, FsAt.nil _ _ _ (show 0 ≤ maxLen by decide) (fun _ => rfl)⟩
            have ZX : Hid ((RcA.R (⟨krec z t, none, 0⟩ : RcA)).z.length = 16) := Lib.hid HZ.out.1
            have S06 := Lib.hid (S05.out.below BS S05.out.lt)
            have I16 := Lib.hid (I15.out.below BS I15.out.lt)
            have S26 := Lib.hid (S25.out.below BS S25.out.lt)
            have B6 := Lib.hid (B5.out.trans (BS.mono B5.out.size))
            clear BS
            have HJ := joinOne b (⟨krec z t, none, 0⟩ : RcA) (w5.alloc (.cells #[.int .i64 t.1, .int .i64 t.2.1] 30)) _ H1 HFS HBL B6 HX6 HRR
            have hb7 := (Below.refl (w5.alloc (.cells #[.int .i64 t.1, .int .i64 t.2.1] 30)).heap.size (w5.alloc (.cells #[.int .i64 t.1, .int .i64 t.2.1] 30))).alloc (Nat.le_refl _) (.cells (RcA.cells (⟨krec z t, none, 0⟩ : RcA)) 33)
            simp only [World.size_alloc] at HJ
            have S07 := Lib.hid (S06.out.below hb7 S06.out.lt)
            have I17 := Lib.hid (I16.out.below hb7 I16.out.lt)
            have S27 := Lib.hid (S26.out.below hb7 S26.out.lt)
            have B7 := Lib.hid (B6.out.trans (hb7.mono B6.out.size))
            clear hb7
            go_wp2_with (first | ((with_reducible refine wpList_load_by (o := ⟨some 49, .load 24 (.tmp 3), _, _, _, _⟩) ?e1 24 (.tmp 3) ?e2 ⟨w.heap.size, 0, none⟩ ?e3 _ L49.out ?_); (case e1 => rfl); (case e2 => rfl); (case e3 => rfl)) | ((with_reducible refine wpList_load_by (o := ⟨some 50, .load 26 (.tmp 4), _, _, _, _⟩) ?e1 26 (.tmp 4) ?e2 ⟨(w.heap.size + 1), 0, none⟩ ?e3 _ L50.out ?_); (case e1 => rfl); (case e2 => rfl); (case e3 => rfl)) | ((with_reducible refine wpList_build_by (o := ⟨some 52, .build 33 #[(0, .tmp 50), (1, .tmp 51)], _, _, _, _⟩) ?e1 33 #[(0, .tmp 50), (1, .tmp 51)] ?e2 #[(0, .agg (bvals z)), (1, .agg #[.int .i64 t.1, .int .i64 t.2.1])] ?e3 _ (hbz _ _ _) ?_); (case e1 => rfl); (case e2 => rfl); (case e3 => (simp only [List.map_toArray, List.map_cons, List.map_nil]; rfl))) | ((with_reducible refine wpList_bslice (o := ⟨some 53, .buildSlice 22 1 #[(0, .tmp 52)], _, _, _, _⟩) ?e1 (.tmp 52) ?e2 (⟨krec z t, none, 0⟩ : RcA) ?e3 ZX.out ?_); (case e1 => rfl); (case e2 => rfl); (case e3 => rfl)) | ((with_reducible refine wpList_build_by (o := ⟨some 54, .build 24 #[(0, .tmp 53)], _, _, _, _⟩) ?e1 24 #[(0, .tmp 53)] ?e2 #[(0, .slice (some ⟨w5.heap.size + 1, 0, none⟩) 1 1)] ?e3 _ (build_book _ _ _ _) ?_); (case e1 => rfl); (case e2 => rfl); (case e3 => (simp only [List.map_toArray, List.map_cons, List.map_nil]; rfl))))
            refine HJ.out.mono ?_
            rintro e w8 ⟨d, rfl, hd, hk, hb⟩
            have hb := (show Below ((w5.alloc (.cells #[.int .i64 t.1, .int .i64 t.2.1] 30)).alloc (.cells (RcA.cells (⟨krec z t, none, 0⟩ : RcA)) 33)).heap.size ((w5.alloc (.cells #[.int .i64 t.1, .int .i64 t.2.1] 30)).alloc (.cells (RcA.cells (⟨krec z t, none, 0⟩ : RcA)) 33)) w8 by rw [World.size_alloc, World.size_alloc]; exact hb)
            have S08 := Lib.hid (S07.out.below hb S07.out.lt)
            have I18 := Lib.hid (I17.out.below hb I17.out.lt)
            have S28 := Lib.hid (S27.out.below hb S27.out.lt)
            have B8 := Lib.hid (B7.out.trans (hb.mono B7.out.size))
            clear hb
            have HD := Lib.hid hd
            have hb9 := (Below.refl w8.heap.size w8).alloc (Nat.le_refl _) (.cells #[.slice d.A d.xs.length d.c] 24)
            have HK := Lib.hid (hk.below hb9 (Nat.le_refl _))
            have LD := Lib.hid (BoAt.new w8 (.slice d.A d.xs.length d.c)).load
            clear hd hk
            have S09 := Lib.hid (S08.out.below hb9 S08.out.lt)
            have I19 := Lib.hid (I18.out.below hb9 I18.out.lt)
            have S29 := Lib.hid (S28.out.below hb9 S28.out.lt)
            have B9 := Lib.hid (B8.out.trans (hb9.mono B8.out.size))
            clear hb9
            go_wp2_with (first | ((with_reducible refine wpList_load_by (o := ⟨some 58, .load 24 (.tmp 13), _, _, _, _⟩) ?e1 24 (.tmp 13) ?e2 ⟨w8.heap.size, 0, none⟩ ?e3 _ LD.out ?_); (case e1 => rfl); (case e2 => rfl); (case e3 => rfl)) | ((with_reducible refine wpList_store_oldb (o := ⟨none, .store 24 (.tmp 6) (.tmp 58), _, _, _, _⟩) ?e1 (.tmp 6) (.tmp 58) ?e2 (w.heap.size + 1 + 1) _ S29.out ?e3 (.slice d.A d.xs.length d.c) ?e4 ?e5 ?_); (case e1 => rfl); (case e2 => rfl); (case e3 => rfl); (case e4 => rfl); (case e5 => rfl); intro w2 hg2 hx2; have G9 := Lib.hid hg2; have X9 := Lib.hid hx2; clear hg2 hx2))
            refine bodyPost_ret (v := .tuple #[.agg #[.slice d.A d.xs.length d.c], .int .i64 r.1]) ?_ rfl ?_
            · exact res_bk2 Tryz.results29 rfl X9.out
            · rw [HE.out]
              exact ⟨d, rfl, HD.out, HK.out.kept_bo G9.out S29.out, B9.out.grown G9.out B9.out.size (fun k e => by have := Option.some.inj e; omega)⟩
          · rw [if_neg t4] at HEE
            have HE := Lib.hid HEE
            clear HEE
            go_enter Tryz.func29, Tryz.ntmps29
            go_wp2_with (first | ((with_reducible refine wpList_load_by (o := ⟨some 15, .load 24 (.tmp 3), _, _, _, _⟩) ?e1 24 (.tmp 3) ?e2 ⟨w.heap.size, 0, none⟩ ?e3 _ LA.out ?_); (case e1 => rfl); (case e2 => rfl); (case e3 => rfl)))
            refine HM.out.mono ?_
            rintro e w1 ⟨rfl, hb⟩
            have S01 := Lib.hid (S0.out.below hb S0.out.lt)
            have I11 := Lib.hid (I1.out.below hb I1.out.lt)
            have S21 := Lib.hid (S2.out.below hb S2.out.lt)
            have B1 := Lib.hid (HB.out.trans (hb.mono HB.out.size))
            clear hb
            have LB := Lib.hid S01.out.load
            have LI := Lib.hid (load_arr16 I11.out)
            have HF := Lib.hid (rbfind_any b z w1 (H1.out.below B1.out (Nat.le_refl _)) HZ.out.1 HZ.out.2)
            unfold BFindPost at HF
            rw [HIS.out] at HF
            go_wp2_with (first | ((with_reducible refine wpList_load_by (o := ⟨some 29, .load 24 (.tmp 3), _, _, _, _⟩) ?e1 24 (.tmp 3) ?e2 ⟨w.heap.size, 0, none⟩ ?e3 _ LB.out ?_); (case e1 => rfl); (case e2 => rfl); (case e3 => rfl)) | ((with_reducible refine wpList_load_by (o := ⟨some 30, .load 26 (.tmp 4), _, _, _, _⟩) ?e1 26 (.tmp 4) ?e2 ⟨(w.heap.size + 1), 0, none⟩ ?e3 _ LI.out ?_); (case e1 => rfl); (case e2 => rfl); (case e3 => rfl)))
            refine HF.out.mono ?_
            rintro e w2 ⟨y, rfl, hyR, hy, hb⟩
            have S02 := Lib.hid (S01.out.below hb S01.out.lt)
            have I12 := Lib.hid (I11.out.below hb I11.out.lt)
            have S22 := Lib.hid (S21.out.below hb S21.out.lt)
            have B2 := Lib.hid (B1.out.trans (hb.mono B1.out.size))
            clear hb
            have ZY := Lib.hid hy.len
            clear hyR hy
            go_wp2_with (first | ((with_reducible refine wpList_store_newx (o := ⟨none, .store 33 (.tmp 9) (.tmp 32), _, _, _, _⟩) (w := w2) ?e1 (.tmp 9) (.tmp 32) ?e2 w2.heap.size ?e0 ?e3 y ?e4 ZY.out ?_); (case e1 => rfl); (case e2 => rfl); (case e0 => rfl); (case e3 => rfl); (case e4 => rfl); intro w3 hb4 hx4 hs4; have S03 := Lib.hid (S02.out.below hb4 S02.out.lt); have I13 := Lib.hid (I12.out.below hb4 I12.out.lt); have S23 := Lib.hid (S22.out.below hb4 S22.out.lt); have B3 := Lib.hid (B2.out.trans (hb4.mono B2.out.size)); clear hb4; have LC := Lib.hid S03.out.load; have HL := Lib.hid (rblast_any b w3 (H1.out.below B3.out (Nat.le_refl _)) HFS.out); unfold st at HL; clear hx4 hs4) | ((with_reducible refine wpList_load_by (o := ⟨some 38, .load 24 (.tmp 3), _, _, _, _⟩) ?e1 24 (.tmp 3) ?e2 ⟨w.heap.size, 0, none⟩ ?e3 _ LC.out ?_); (case e1 => rfl); (case e2 => rfl); (case e3 => rfl)))
            refine HL.out.mono ?_
            rintro e w4 ⟨rfl, hb⟩
            have S04 := Lib.hid (S03.out.below hb S03.out.lt)
            have I14 := Lib.hid (I13.out.below hb I13.out.lt)
            have S24 := Lib.hid (S23.out.below hb S23.out.lt)
            have B4 := Lib.hid (B3.out.trans (hb.mono B3.out.size))
            clear hb
            go_wp2_with fail
            refine (HN.out _).mono ?_
            rintro e w5 ⟨rfl, hb⟩
            have S05 := Lib.hid (S04.out.below hb S04.out.lt)
            have I15 := Lib.hid (I14.out.below hb I14.out.lt)
            have S25 := Lib.hid (S24.out.below hb S24.out.lt)
            have B5 := Lib.hid (B4.out.trans (hb.mono B4.out.size))
            clear hb
            have BS := (Below.refl w5.heap.size w5).alloc (Nat.le_refl _) (.cells #[.int .i64 t.1, .int .i64 t.2.1] 30)
            have S06 := Lib.hid (S05.out.below BS S05.out.lt)
            have I16 := Lib.hid (I15.out.below BS I15.out.lt)
            have S26 := Lib.hid (S25.out.below BS S25.out.lt)
            have B6 := Lib.hid (B5.out.trans (BS.mono B5.out.size))
            clear BS
            go_wp2_with (first | ((with_reducible refine wpList_store_oldb (o := ⟨none, .store 24 (.tmp 6) (.tmp 46), _, _, _, _⟩) ?e1 (.tmp 6) (.tmp 46) ?e2 (w.heap.size + 1 + 1) _ S26.out ?e3 (.slice none 0 0) ?e4 ?e5 ?_); (case e1 => rfl); (case e2 => rfl); (case e3 => rfl); (case e4 => rfl); (case e5 => rfl); intro w2 hg2 hx2; have G9 := Lib.hid hg2; have X9 := Lib.hid hx2; clear hg2 hx2))
            refine bodyPost_ret (v := .tuple #[.agg #[.slice none 0 0], .int .i64 t.2.2]) ?_ rfl ?_
            · exact res_bk2 Tryz.results29 rfl X9.out
            · rw [HE.out]
              exact ⟨bk0, rfl, rfl, BkAt.zero _, B6.out.grown G9.out B6.out.size (fun k e => by have := Option.some.inj e; omega)⟩
end Go.Proofs.YtcmknbdeafcknaaGreatDoor

end
