/-
  What section.Open answers where there are bytes enough for the section that is told; with what it answers elsewhere: for every slice that reads as bytes.
-/
import Derived.Test.YtomlckefkamdgaaSecOpen
namespace Go.Proofs.Ytomlckefkamdgaa
open Go.RowKit WM
set_option linter.unusedVariables false
theorem own_le {w : World} {base base' n : Nat} {e : TypeId} {v : Value} {xs : List Value} (h : w.ownsRow base e 1 v n xs) (hb : base' ≤ base) : w.ownsRow base' e 1 v n xs := by
  refine ⟨h.1, ?_⟩
  rcases h.2 with h1 | ⟨g, cap, cur, h1, h2, h3⟩
  · exact .inl h1
  · exact .inr ⟨g, cap, cur, h1, by omega, h3⟩
set_option maxHeartbeats 2000000 in
theorem open_last {B : Nat} (b off len cap : Nat) (zs : List Int) (w : World) (u n : Nat) (h : Byt w B (some ⟨b, off, none⟩) zs) (hB : B ≤ w.heap.size) (hl : zs.length = len) (hb : AllBytes zs) (hlc : len ≤ cap) (hm : cap ≤ maxLen) (hd : beg zs = some (u, n)) (hs : u + n + 4 ≤ len) (hbw : b < w.heap.size) (hcell : w.cell? ⟨b, off, none⟩ = some (.int .u8 (zs.getD 0 0))) :
    Calls Try.prog 13 #[.slice (some ⟨b, off, none⟩) len cap] w (OpenPost w (opn zs)) := by
  have hg := begin_any _ len cap zs w h hl hb hlc hm
  rw [hd] at hg
  simp only [begV] at hg
  obtain ⟨b1, b2, b3, b4, _⟩ := beg_some hb hd
  have hk := all_get hb 0
  have c1 : ∀ w' : World, Byt w' B (some ⟨b, off, none⟩) (zs.take (u + n)) → w.heap.size ≤ w'.heap.size → Calls Try.prog 27 #[.slice (some ⟨b, off, none⟩) (u + n) cap] w' (SumPost (zs.take (u + n)) w') := fun w' hw h' => sum_any _ _ cap _ w' hw (by rw [List.length_take]; omega) (all_take hb _) (by omega) (by omega)
  have c2 : ∀ w' : World, Calls Try.prog 29 #[.int .u32 (SM.sum (zs.take (u + n)))] w' (Gives w' (word (SM.sum (zs.take (u + n))))) := fun w' => word_gives _ _ (SM.sum_range (all_take hb _)).1 (SM.sum_range (all_take hb _)).2
  have c3 : ∀ (bb : Bool), decide ((zs.drop (u + n)).take 4 = word (SM.sum (zs.take (u + n)))) = bb → ∀ (w' : World) (A1 : Option Addr) (n1 c1 : Nat), Byt w' w'.heap.size A1 (word (SM.sum (zs.take (u + n)))) → (word (SM.sum (zs.take (u + n)))).length = n1 → Byt w' B (some ⟨b, off + (u + n), none⟩) ((zs.drop (u + n)).take 4) →
      Calls Try.prog 31 #[.slice (some ⟨b, off + (u + n), none⟩) 4 (cap - (u + n)), .slice A1 n1 c1] w' fun e w'' => e = .returned (.bool bb) ∧ w' = w'' := fun bb hbb w' A1 n1 c1 hy hn hx => equal_any _ _ _ _ _ _ _ _ w' bb hbb hx (by rw [List.length_take, List.length_drop]; omega) hy hn (all_take (all_drop hb _) _) (word_bytes (SM.sum_range (all_take hb _)).1 (SM.sum_range (all_take hb _)).2)
  have c4 : ∀ w' : World, Byt w' B (some ⟨b, off + u, none⟩) ((zs.drop u).take n) → w.heap.size ≤ w'.heap.size → Calls Try.prog 32 #[.slice (some ⟨b, off + u, none⟩) n (cap - u)] w' (Gives w' ((zs.drop u).take n)) := fun w' hw h' => clone_any _ n _ _ w' hw (by rw [List.length_take, List.length_drop]; omega) (by omega) (by omega)
  have y0 : Byt w B (some ⟨b, off + (u + n), none⟩) ((zs.drop (u + n)).take 4) := by
    have := (h.drop (k := u + n) (cap := cap) (by omega)).take 4
    rw [if_neg (by omega)] at this
    simpa only [Option.map_some, Addr.add_lit] using this
  have y2 : Byt w B (some ⟨b, off + u, none⟩) ((zs.drop u).take n) := by
    have := (h.drop (k := u) (cap := cap) (by omega)).take n
    rw [if_neg (by omega)] at this
    simpa only [Option.map_some, Addr.add_lit] using this
  have hopn : opn zs = if (zs.drop (u + n)).take 4 = word (SM.sum (zs.take (u + n))) then .ok (zs.getD 0 0) ((zs.drop u).take n) (u + n + 4) else .check := by
    rw [opn, hd]
    exact if_neg (by omega)
  have ht : ¬ ((len : Int) - u < n + 4) := by omega
  simp only [maxLen] at hm
  have Y0 := Lib.hid y0
  have Y1 := Lib.hid (h.take (u + n))
  have Y2 := Lib.hid y2
  have C1 := Lib.hid c1
  have C2 := Lib.hid c2
  have C4 := Lib.hid c4
  have HG := Lib.hid hg
  have HBw := hB
  have W2 := Lib.hid (show IntKind.i64.wrap (zs.getD 0 0) = zs.getD 0 0 from IntWalk.i64_in _ (by omega))
  have W1 := Lib.hid (show IntKind.i64.wrap ((u : Int) + n + 4) = (u : Int) + n + 4 from IntWalk.i64_in _ (by omega))
  have S1 := Lib.hid (show ∀ w9 : World, (Instr.slice 25 (.slice (some ⟨b, off, none⟩) len cap) (some (.int .i64 ((u : Int) + n))) (some (.int .i64 ((u : Int) + n + 4))) none).run Try.prog w9 = .ok (.slice (some ⟨b, off + (u + n), none⟩) 4 (cap - (u + n))) w9 from fun w9 => by
    rw [sl_lh b off len cap (u + n) (u + n + 4) (by omega) (by omega) (by omega) _ _ (by omega) (by omega) w9, show u + n + 4 - (u + n) = 4 by omega])
  have S2 := Lib.hid (show ∀ w9 : World, (Instr.slice 25 (.slice (some ⟨b, off, none⟩) len cap) none (some (.int .i64 ((u : Int) + n))) none).run Try.prog w9 = .ok (.slice (some ⟨b, off, none⟩) (u + n) cap) w9 from fun w9 => sl_h _ len cap (u + n) (by omega) _ (by omega) w9)
  have S3 := Lib.hid (show ∀ w9 : World, (Instr.slice 25 (.slice (some ⟨b, off, none⟩) len cap) (some (.int .i64 (u : Int))) (some (.int .i64 ((u : Int) + n))) none).run Try.prog w9 = .ok (.slice (some ⟨b, off + u, none⟩) n (cap - u)) w9 from fun w9 => by
    rw [sl_lh b off len cap u (u + n) (by omega) (by omega) (by omega) _ _ (by omega) (by omega) w9, show u + n - u = n by omega])
  have S4 := Lib.hid (show ∀ w9 : World, (Instr.indexAt 25 (.slice (some ⟨b, off, none⟩) len cap) (.int .i64 0)).run Try.prog w9 = .ok (.pointer (some ⟨b, off, none⟩)) w9 from fun w9 => ix_at b off len cap 0 (by omega) 0 rfl w9)
  rw [hopn]
  by_cases hq : (zs.drop (u + n)).take 4 = word (SM.sum (zs.take (u + n)))
  · rw [if_pos hq]
    have C3 := Lib.hid (c3 true (by simp [hq]))
    have HbB := hbw
    have HP : Hid (∀ A l c w', ((zs.drop u).take n).length = l → l ≤ c → c ≤ maxLen → w'.ownsRow w.heap.size 5 1 (.slice A l c) l (((zs.drop u).take n).map (Value.int .u8)) → Below w.heap.size w w' → OpenPost w (.ok (zs.getD 0 0) ((zs.drop u).take n) (u + n + 4)) (.returned (.tuple #[.int .i64 (zs.getD 0 0), .slice A l c, .int .i64 ((u : Int) + n + 4), .int .i64 0])) w') := Lib.hid (fun A l c w' h1 h2 h3 h4 h5 => ⟨A, l, c, by rw [show ((u + n + 4 : Nat) : Int) = (u : Int) + n + 4 by omega], h1, h2, h3, h4, h5⟩)
    generalize OpenPost w (.ok (zs.getD 0 0) ((zs.drop u).take n) (u + n + 4)) = Post at HP ⊢
    generalize zs.getD 0 0 = k0 at *
    have hc0 := hcell
    clear hcell hq c1 c2 c3 c4 y0 y2 hopn hd hg h hl hb hB hbw b2
    go_enter Try.func13, Try.ntmps13
    go_wp2_with (go_at_call 30; refine HG.out.mono ?_; rintro e w1 ⟨rfl, rfl⟩)
    refine wp_region_held_drew (S := fun w' => Below w.drew.heap.size w.drew w') (by kernel_rfl) (Below.refl _ _) (fun hS => ?_)
    refine wpAnyH_take (i := 0) (oi := ⟨some 30, _, _, _, _, _⟩) (v := ?_) rfl (by kernel_rfl) (by kernel_rfl) (by kernel_rfl) (fun _ _ _ h => h) (Or.inl ⟨by rfl, ?_⟩) hS ?_; rotate_left; (focus (intro w9 hSw; (try dsimp only at hSw); go_simp; try with_reducible rfl)); simp only [Act.put, List.setIfInBounds_toArray, List.set_cons_zero, List.set_cons_succ]
    refine wpAnyH_take (i := 1) (oi := ⟨some 31, _, _, _, _, _⟩) (v := ?_) rfl (by kernel_rfl) (by kernel_rfl) (by kernel_rfl) (fun _ _ _ h => h) (Or.inl ⟨by rfl, ?_⟩) hS ?_; rotate_left; (focus (intro w9 hSw; (try dsimp only at hSw); go_simp; try with_reducible rfl)); simp only [Act.put, List.setIfInBounds_toArray, List.set_cons_zero, List.set_cons_succ]
    refine wpAnyH_take (i := 2) (oi := ⟨some 32, _, _, _, _, _⟩) (v := ?_) rfl (by kernel_rfl) (by kernel_rfl) (by kernel_rfl) (fun _ _ _ h => h) (Or.inl ⟨by rfl, ?_⟩) hS ?_; rotate_left; (focus (intro w9 hSw; (try dsimp only at hSw); go_simp; try with_reducible rfl)); simp only [Act.put, List.setIfInBounds_toArray, List.set_cons_zero, List.set_cons_succ]
    refine wpAnyH_take (i := 3) (oi := ⟨some 33, _, _, _, _, _⟩) (v := ?_) rfl (by kernel_rfl) (by kernel_rfl) (by kernel_rfl) (fun _ _ _ h => h) (Or.inl ⟨by rfl, ?_⟩) hS ?_; rotate_left; (focus (intro w9 hSw; (try dsimp only at hSw); have s9 := W1.out; go_simp; try with_reducible rfl)); simp only [Act.put, List.setIfInBounds_toArray, List.set_cons_zero, List.set_cons_succ]
    refine wpAnyH_take (i := 4) (oi := ⟨some 34, _, _, _, _, _⟩) (v := ?_) rfl (by kernel_rfl) (by kernel_rfl) (by kernel_rfl) (fun _ _ _ h => h) (Or.inl ⟨by rfl, ?_⟩) hS ?_; rotate_left; (focus (intro w9 hSw; (try dsimp only at hSw); have s9 := S1.out w9; go_simp; try with_reducible rfl)); simp only [Act.put, List.setIfInBounds_toArray, List.set_cons_zero, List.set_cons_succ]
    refine wpAnyH_take (i := 5) (oi := ⟨some 35, _, _, _, _, _⟩) (v := ?_) rfl (by kernel_rfl) (by kernel_rfl) (by kernel_rfl) (fun _ _ _ h => h) (Or.inl ⟨by rfl, ?_⟩) hS ?_; rotate_left; (focus (intro w9 hSw; (try dsimp only at hSw); go_simp; try with_reducible rfl)); simp only [Act.put, List.setIfInBounds_toArray, List.set_cons_zero, List.set_cons_succ]
    refine wpAnyH_take (i := 6) (oi := ⟨some 36, _, _, _, _, _⟩) (v := ?_) rfl (by kernel_rfl) (by kernel_rfl) (by kernel_rfl) (fun _ _ _ h => h) (Or.inl ⟨by rfl, ?_⟩) hS ?_; rotate_left; (focus (intro w9 hSw; (try dsimp only at hSw); go_simp; try with_reducible rfl)); simp only [Act.put, List.setIfInBounds_toArray, List.set_cons_zero, List.set_cons_succ]
    refine wpAnyH_take (i := 7) (oi := ⟨some 37, _, _, _, _, _⟩) (v := ?_) rfl (by kernel_rfl) (by kernel_rfl) (by kernel_rfl) (fun _ _ _ h => h) (Or.inl ⟨by rfl, ?_⟩) hS ?_; rotate_left; (focus (intro w9 hSw; (try dsimp only at hSw); have s9 := S2.out w9; go_simp; try with_reducible rfl)); simp only [Act.put, List.setIfInBounds_toArray, List.set_cons_zero, List.set_cons_succ]
    refine wpAnyH_ready (rs := [8]) (by kernel_rfl) (by simp) (AllReadyH.cons (o := ⟨some 38, _, _, _, _, _⟩) rfl (fun K hK => ?_) AllReadyH.nil)
    go_simp
    refine (C1.out _ (Y1.out.below ((Below.refl w.heap.size w).drew.mono HBw)) (Nat.le_refl _)).mono ?_
    rintro e x0 ⟨rfl, hb0⟩
    have bk0 := ((Below.refl w.heap.size w).drew).trans (hb0.mono (Nat.le_refl _))
    clear hS
    refine hK.out _ _ hb0 (fun _ => ?_)
    clear hK K
    refine wpAnyH_sub (S' := fun w' => Below x0.heap.size x0 w') (fun _ h => hb0.trans (h.mono hb0.size)) ?_
    have hS := Below.refl x0.heap.size x0
    refine wpAnyH_ready (rs := [9]) (by kernel_rfl) (by simp) (AllReadyH.cons (o := ⟨some 39, _, _, _, _, _⟩) rfl (fun K hK => ?_) AllReadyH.nil)
    go_simp
    refine (C2.out _).mono ?_
    rintro e x1 ⟨A1, n1, c1, rfl, hn1, _, _, hown1, hb1⟩
    have bk1 := bk0.trans (hb1.mono bk0.size)
    have by1 := Byt.own (zs := word (SM.sum (zs.take (u + n)))) hown1
    clear hS hown1
    refine hK.out _ _ hb1 (fun _ => ?_)
    clear hK K
    refine wpAnyH_sub (S' := fun w' => Below x1.heap.size x1 w') (fun _ h => hb1.trans (h.mono hb1.size)) ?_
    have hS := Below.refl x1.heap.size x1
    refine wpAnyH_ready (rs := [10]) (by kernel_rfl) (by simp) (AllReadyH.cons (o := ⟨some 40, _, _, _, _, _⟩) rfl (fun K hK => ?_) AllReadyH.nil)
    go_simp
    refine (C3.out _ A1 n1 c1 by1 hn1 (Y0.out.below (bk1.mono HBw))).mono ?_
    rintro e x2 ⟨rfl, rfl⟩
    refine hK.out _ _ (Below.refl _ _) (fun _ => ?_)
    clear hK K
    refine wpAnyH_take (i := 11) (oi := ⟨some 41, _, _, _, _, _⟩) (v := ?_) rfl (by kernel_rfl) (by kernel_rfl) (by kernel_rfl) (fun _ _ _ h => h) (Or.inl ⟨by rfl, ?_⟩) hS ?_; rotate_left; (focus (intro w9 hSw; (try dsimp only at hSw); go_simp; try with_reducible rfl)); simp only [Act.put, List.setIfInBounds_toArray, List.set_cons_zero, List.set_cons_succ]
    refine wpAnyH_done (by kernel_rfl) ?_ _
    clear hS
    go_wp2_with fail
    have bk1d := bk1.trans ((Below.refl x1.heap.size x1).drew.mono bk1.size)
    refine wp_region_held_drew (S := fun w' => Below x1.drew.heap.size x1.drew w') (by kernel_rfl) (Below.refl _ _) (fun hS => ?_)
    refine wpAnyH_take (i := 0) (oi := ⟨some 42, _, _, _, _, _⟩) (v := ?_) rfl (by kernel_rfl) (by kernel_rfl) (by kernel_rfl) (fun _ _ _ h => h) (Or.inl ⟨by rfl, ?_⟩) hS ?_; rotate_left; (focus (intro w9 hSw; (try dsimp only at hSw); go_simp; try with_reducible rfl)); simp only [Act.put, List.setIfInBounds_toArray, List.set_cons_zero, List.set_cons_succ]
    refine wpAnyH_take (i := 1) (oi := ⟨some 43, _, _, _, _, _⟩) (v := ?_) rfl (by kernel_rfl) (by kernel_rfl) (by kernel_rfl) (fun _ _ _ h => h) (Or.inl ⟨by rfl, ?_⟩) hS ?_; rotate_left; (focus (intro w9 hSw; (try dsimp only at hSw); have s9 := S4.out w9; go_simp; try with_reducible rfl)); simp only [Act.put, List.setIfInBounds_toArray, List.set_cons_zero, List.set_cons_succ]
    refine wpAnyH_take (i := 2) (oi := ⟨some 44, _, _, _, _, _⟩) (v := ?_) rfl (by kernel_rfl) (by kernel_rfl) (by kernel_rfl) (fun _ _ _ h => h) (Or.inl ⟨by rfl, ?_⟩) hS ?_; rotate_left; (focus (intro w9 hSw; (try dsimp only at hSw); have c9 := (((bk1d.trans (hSw.mono bk1d.size)).cell (p := ⟨b, off, none⟩) HbB).trans hc0); go_simp; try with_reducible rfl)); simp only [Act.put, List.setIfInBounds_toArray, List.set_cons_zero, List.set_cons_succ]
    refine wpAnyH_take (i := 3) (oi := ⟨some 45, _, _, _, _, _⟩) (v := ?_) rfl (by kernel_rfl) (by kernel_rfl) (by kernel_rfl) (fun _ _ _ h => h) (Or.inl ⟨by rfl, ?_⟩) hS ?_; rotate_left; (focus (intro w9 hSw; (try dsimp only at hSw); have s9 := W2.out; go_simp; try with_reducible rfl)); simp only [Act.put, List.setIfInBounds_toArray, List.set_cons_zero, List.set_cons_succ]
    refine wpAnyH_take (i := 4) (oi := ⟨some 46, _, _, _, _, _⟩) (v := ?_) rfl (by kernel_rfl) (by kernel_rfl) (by kernel_rfl) (fun _ _ _ h => h) (Or.inl ⟨by rfl, ?_⟩) hS ?_; rotate_left; (focus (intro w9 hSw; (try dsimp only at hSw); go_simp; try with_reducible rfl)); simp only [Act.put, List.setIfInBounds_toArray, List.set_cons_zero, List.set_cons_succ]
    refine wpAnyH_take (i := 5) (oi := ⟨some 47, _, _, _, _, _⟩) (v := ?_) rfl (by kernel_rfl) (by kernel_rfl) (by kernel_rfl) (fun _ _ _ h => h) (Or.inl ⟨by rfl, ?_⟩) hS ?_; rotate_left; (focus (intro w9 hSw; (try dsimp only at hSw); go_simp; try with_reducible rfl)); simp only [Act.put, List.setIfInBounds_toArray, List.set_cons_zero, List.set_cons_succ]
    refine wpAnyH_take (i := 6) (oi := ⟨some 48, _, _, _, _, _⟩) (v := ?_) rfl (by kernel_rfl) (by kernel_rfl) (by kernel_rfl) (fun _ _ _ h => h) (Or.inl ⟨by rfl, ?_⟩) hS ?_; rotate_left; (focus (intro w9 hSw; (try dsimp only at hSw); go_simp; try with_reducible rfl)); simp only [Act.put, List.setIfInBounds_toArray, List.set_cons_zero, List.set_cons_succ]
    refine wpAnyH_take (i := 7) (oi := ⟨some 49, _, _, _, _, _⟩) (v := ?_) rfl (by kernel_rfl) (by kernel_rfl) (by kernel_rfl) (fun _ _ _ h => h) (Or.inl ⟨by rfl, ?_⟩) hS ?_; rotate_left; (focus (intro w9 hSw; (try dsimp only at hSw); have s9 := S3.out w9; go_simp; try with_reducible rfl)); simp only [Act.put, List.setIfInBounds_toArray, List.set_cons_zero, List.set_cons_succ]
    refine wpAnyH_take (i := 9) (oi := ⟨some 51, _, _, _, _, _⟩) (v := ?_) rfl (by kernel_rfl) (by kernel_rfl) (by kernel_rfl) (fun _ _ _ h => h) (Or.inl ⟨by rfl, ?_⟩) hS ?_; rotate_left; (focus (intro w9 hSw; (try dsimp only at hSw); go_simp; try with_reducible rfl)); simp only [Act.put, List.setIfInBounds_toArray, List.set_cons_zero, List.set_cons_succ]
    refine wpAnyH_take (i := 10) (oi := ⟨some 52, _, _, _, _, _⟩) (v := ?_) rfl (by kernel_rfl) (by kernel_rfl) (by kernel_rfl) (fun _ _ _ h => h) (Or.inl ⟨by rfl, ?_⟩) hS ?_; rotate_left; (focus (intro w9 hSw; (try dsimp only at hSw); have s9 := W1.out; go_simp; try with_reducible rfl)); simp only [Act.put, List.setIfInBounds_toArray, List.set_cons_zero, List.set_cons_succ]
    refine wpAnyH_ready (rs := [8]) (by kernel_rfl) (by simp) (AllReadyH.cons (o := ⟨some 50, _, _, _, _, _⟩) rfl (fun K hK => ?_) AllReadyH.nil)
    go_simp
    refine (C4.out _ (Y2.out.below (bk1d.mono HBw)) bk1d.size).mono ?_
    rintro e x3 ⟨A3, n3, c3, rfl, hn3, hnc3, hcm3, hown3, hb3⟩
    have bk3 := bk1d.trans (hb3.mono bk1d.size)
    clear hS
    refine hK.out _ _ hb3 (fun _ => ?_)
    clear hK K
    refine wpAnyH_sub (S' := fun w' => Below x3.heap.size x3 w') (fun _ h => hb3.trans (h.mono hb3.size)) ?_
    have hS := Below.refl x3.heap.size x3
    refine wpAnyH_take (i := 11) (oi := ⟨some 2, _, _, _, _, _⟩) (v := ?_) rfl (by kernel_rfl) (by kernel_rfl) (by kernel_rfl) (fun _ _ _ h => h) (Or.inl ⟨by rfl, ?_⟩) hS ?_; rotate_left; (focus (intro w9 hSw; (try dsimp only at hSw); go_simp; try with_reducible rfl)); simp only [Act.put, List.setIfInBounds_toArray, List.set_cons_zero, List.set_cons_succ]
    refine wpAnyH_take (i := 12) (oi := ⟨some 3, _, _, _, _, _⟩) (v := ?_) rfl (by kernel_rfl) (by kernel_rfl) (by kernel_rfl) (fun _ _ _ h => h) (Or.inl ⟨by rfl, ?_⟩) hS ?_; rotate_left; (focus (intro w9 hSw; (try dsimp only at hSw); go_simp; try with_reducible rfl)); simp only [Act.put, List.setIfInBounds_toArray, List.set_cons_zero, List.set_cons_succ]
    refine wpAnyH_take (i := 13) (oi := ⟨some 4, _, _, _, _, _⟩) (v := ?_) rfl (by kernel_rfl) (by kernel_rfl) (by kernel_rfl) (fun _ _ _ h => h) (Or.inl ⟨by rfl, ?_⟩) hS ?_; rotate_left; (focus (intro w9 hSw; (try dsimp only at hSw); go_simp; try with_reducible rfl)); simp only [Act.put, List.setIfInBounds_toArray, List.set_cons_zero, List.set_cons_succ]
    refine wpAnyH_take (i := 14) (oi := ⟨some 5, _, _, _, _, _⟩) (v := ?_) rfl (by kernel_rfl) (by kernel_rfl) (by kernel_rfl) (fun _ _ _ h => h) (Or.inl ⟨by rfl, ?_⟩) hS ?_; rotate_left; (focus (intro w9 hSw; (try dsimp only at hSw); go_simp; try with_reducible rfl)); simp only [Act.put, List.setIfInBounds_toArray, List.set_cons_zero, List.set_cons_succ]
    refine wpAnyH_done (by kernel_rfl) ?_ _
    clear hS
    go_wp2
    exact bodyPost_ret (v := .tuple #[.int .i64 k0, .slice A3 n3 c3, .int .i64 ((u : Int) + n + 4), .int .i64 0]) (by simp [results, Try.results13, go_sem]) rfl (HP.out A3 n3 c3 _ hn3 hnc3 hcm3 (own_le hown3 bk1d.size) bk3)
  · rw [if_neg hq]
    have C3 := Lib.hid (c3 false (by simp [hq]))
    clear hcell hq c1 c2 c3 c4 y0 y2 hopn hd hg h hl hb hB hbw b2
    go_enter Try.func13, Try.ntmps13
    go_wp2_with (go_at_call 30; refine HG.out.mono ?_; rintro e w1 ⟨rfl, rfl⟩)
    refine wp_region_held_drew (S := fun w' => Below w.drew.heap.size w.drew w') (by kernel_rfl) (Below.refl _ _) (fun hS => ?_)
    refine wpAnyH_take (i := 0) (oi := ⟨some 30, _, _, _, _, _⟩) (v := ?_) rfl (by kernel_rfl) (by kernel_rfl) (by kernel_rfl) (fun _ _ _ h => h) (Or.inl ⟨by rfl, ?_⟩) hS ?_; rotate_left; (focus (intro w9 hSw; (try dsimp only at hSw); go_simp; try with_reducible rfl)); simp only [Act.put, List.setIfInBounds_toArray, List.set_cons_zero, List.set_cons_succ]
    refine wpAnyH_take (i := 1) (oi := ⟨some 31, _, _, _, _, _⟩) (v := ?_) rfl (by kernel_rfl) (by kernel_rfl) (by kernel_rfl) (fun _ _ _ h => h) (Or.inl ⟨by rfl, ?_⟩) hS ?_; rotate_left; (focus (intro w9 hSw; (try dsimp only at hSw); go_simp; try with_reducible rfl)); simp only [Act.put, List.setIfInBounds_toArray, List.set_cons_zero, List.set_cons_succ]
    refine wpAnyH_take (i := 2) (oi := ⟨some 32, _, _, _, _, _⟩) (v := ?_) rfl (by kernel_rfl) (by kernel_rfl) (by kernel_rfl) (fun _ _ _ h => h) (Or.inl ⟨by rfl, ?_⟩) hS ?_; rotate_left; (focus (intro w9 hSw; (try dsimp only at hSw); go_simp; try with_reducible rfl)); simp only [Act.put, List.setIfInBounds_toArray, List.set_cons_zero, List.set_cons_succ]
    refine wpAnyH_take (i := 3) (oi := ⟨some 33, _, _, _, _, _⟩) (v := ?_) rfl (by kernel_rfl) (by kernel_rfl) (by kernel_rfl) (fun _ _ _ h => h) (Or.inl ⟨by rfl, ?_⟩) hS ?_; rotate_left; (focus (intro w9 hSw; (try dsimp only at hSw); have s9 := W1.out; go_simp; try with_reducible rfl)); simp only [Act.put, List.setIfInBounds_toArray, List.set_cons_zero, List.set_cons_succ]
    refine wpAnyH_take (i := 4) (oi := ⟨some 34, _, _, _, _, _⟩) (v := ?_) rfl (by kernel_rfl) (by kernel_rfl) (by kernel_rfl) (fun _ _ _ h => h) (Or.inl ⟨by rfl, ?_⟩) hS ?_; rotate_left; (focus (intro w9 hSw; (try dsimp only at hSw); have s9 := S1.out w9; go_simp; try with_reducible rfl)); simp only [Act.put, List.setIfInBounds_toArray, List.set_cons_zero, List.set_cons_succ]
    refine wpAnyH_take (i := 5) (oi := ⟨some 35, _, _, _, _, _⟩) (v := ?_) rfl (by kernel_rfl) (by kernel_rfl) (by kernel_rfl) (fun _ _ _ h => h) (Or.inl ⟨by rfl, ?_⟩) hS ?_; rotate_left; (focus (intro w9 hSw; (try dsimp only at hSw); go_simp; try with_reducible rfl)); simp only [Act.put, List.setIfInBounds_toArray, List.set_cons_zero, List.set_cons_succ]
    refine wpAnyH_take (i := 6) (oi := ⟨some 36, _, _, _, _, _⟩) (v := ?_) rfl (by kernel_rfl) (by kernel_rfl) (by kernel_rfl) (fun _ _ _ h => h) (Or.inl ⟨by rfl, ?_⟩) hS ?_; rotate_left; (focus (intro w9 hSw; (try dsimp only at hSw); go_simp; try with_reducible rfl)); simp only [Act.put, List.setIfInBounds_toArray, List.set_cons_zero, List.set_cons_succ]
    refine wpAnyH_take (i := 7) (oi := ⟨some 37, _, _, _, _, _⟩) (v := ?_) rfl (by kernel_rfl) (by kernel_rfl) (by kernel_rfl) (fun _ _ _ h => h) (Or.inl ⟨by rfl, ?_⟩) hS ?_; rotate_left; (focus (intro w9 hSw; (try dsimp only at hSw); have s9 := S2.out w9; go_simp; try with_reducible rfl)); simp only [Act.put, List.setIfInBounds_toArray, List.set_cons_zero, List.set_cons_succ]
    refine wpAnyH_ready (rs := [8]) (by kernel_rfl) (by simp) (AllReadyH.cons (o := ⟨some 38, _, _, _, _, _⟩) rfl (fun K hK => ?_) AllReadyH.nil)
    go_simp
    refine (C1.out _ (Y1.out.below ((Below.refl w.heap.size w).drew.mono HBw)) (Nat.le_refl _)).mono ?_
    rintro e x0 ⟨rfl, hb0⟩
    have bk0 := ((Below.refl w.heap.size w).drew).trans (hb0.mono (Nat.le_refl _))
    clear hS
    refine hK.out _ _ hb0 (fun _ => ?_)
    clear hK K
    refine wpAnyH_sub (S' := fun w' => Below x0.heap.size x0 w') (fun _ h => hb0.trans (h.mono hb0.size)) ?_
    have hS := Below.refl x0.heap.size x0
    refine wpAnyH_ready (rs := [9]) (by kernel_rfl) (by simp) (AllReadyH.cons (o := ⟨some 39, _, _, _, _, _⟩) rfl (fun K hK => ?_) AllReadyH.nil)
    go_simp
    refine (C2.out _).mono ?_
    rintro e x1 ⟨A1, n1, c1, rfl, hn1, _, _, hown1, hb1⟩
    have bk1 := bk0.trans (hb1.mono bk0.size)
    have by1 := Byt.own (zs := word (SM.sum (zs.take (u + n)))) hown1
    clear hS hown1
    refine hK.out _ _ hb1 (fun _ => ?_)
    clear hK K
    refine wpAnyH_sub (S' := fun w' => Below x1.heap.size x1 w') (fun _ h => hb1.trans (h.mono hb1.size)) ?_
    have hS := Below.refl x1.heap.size x1
    refine wpAnyH_ready (rs := [10]) (by kernel_rfl) (by simp) (AllReadyH.cons (o := ⟨some 40, _, _, _, _, _⟩) rfl (fun K hK => ?_) AllReadyH.nil)
    go_simp
    refine (C3.out _ A1 n1 c1 by1 hn1 (Y0.out.below (bk1.mono HBw))).mono ?_
    rintro e x2 ⟨rfl, rfl⟩
    refine hK.out _ _ (Below.refl _ _) (fun _ => ?_)
    clear hK K
    refine wpAnyH_take (i := 11) (oi := ⟨some 41, _, _, _, _, _⟩) (v := ?_) rfl (by kernel_rfl) (by kernel_rfl) (by kernel_rfl) (fun _ _ _ h => h) (Or.inl ⟨by rfl, ?_⟩) hS ?_; rotate_left; (focus (intro w9 hSw; (try dsimp only at hSw); go_simp; try with_reducible rfl)); simp only [Act.put, List.setIfInBounds_toArray, List.set_cons_zero, List.set_cons_succ]
    refine wpAnyH_done (by kernel_rfl) ?_ _
    clear hS
    go_wp2
    exact bodyPost_ret (v := .tuple #[.int .i64 0, .slice none 0 0, .int .i64 0, .int .i64 3]) (by simp [results, Try.results13, go_sem]) rfl ⟨rfl, bk1⟩
theorem open_any {B : Nat} (A : Option Addr) (len cap : Nat) (zs : List Int) (w : World) (h : Byt w B A zs) (hB : B ≤ w.heap.size) (hl : zs.length = len) (hb : AllBytes zs) (hlc : len ≤ cap) (hm : cap ≤ maxLen) :
    Calls Try.prog 13 #[.slice A len cap] w (OpenPost w (opn zs)) := by
  match hd : beg zs with
  | none =>
    have := open_none A len cap zs w h hl hb hlc hm hd
    rw [opn, hd]
    exact this
  | some (u, n) =>
    by_cases hs : len < u + n + 4
    · have := open_short A len cap zs w u n h hl hb hlc hm hd hs
      rw [opn, hd]
      simp only [if_pos (show zs.length < u + n + 4 by omega)]
      exact this
    · obtain ⟨b, off, rfl, hbB, hc⟩ := h (fun e => by rw [e] at hd; cases hd)
      exact open_last b off len cap zs w u n h hB hl hb hlc hm hd (by omega) (by omega) (hc 0 (by omega))
end Go.Proofs.Ytomlckefkamdgaa
