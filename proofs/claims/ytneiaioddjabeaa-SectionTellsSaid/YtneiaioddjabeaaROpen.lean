/-
  What the document's own Open answers, for every slice that reads as bytes; nothing that was there is written.
-/
import Derived.Test.YtneiaioddjabeaaSecOpen2
import Derived.Test.YtneiaioddjabeaaRPack
import Derived.Test.YtneiaioddjabeaaRGet
namespace Go.Proofs.Ytneiaioddjabeaa
open Go.RowKit WM
set_option linter.unusedVariables false
/-- append(v, x...) inside a region that draws its order. -/
theorem step_append_byt {P : Program} {w : World} {ops : Array Oper} {o : Oper} {a : Act} {K : Act → World → Prop} {Q : Exit → Act → World → Prop} {E : Prop} (hgd : o.guard = none) (s x : Operand) (t : TypeId)
    (ho : o.op = .call { callee := .builtin .append, args := #[s, x], argTypes := #[t, t] })
    (base : Nat) (e : TypeId) (i : TypeInfo) (ht : P.underlying t = some (.slice e)) (hi : P.info? e = some i) (hz : i.zero = some (.int .u8 0)) (hsize : i.size = 1) (hby : i.bytes = 1)
    (v : Value) (n : Nat) (ys : List Int) (hs : a.eval s = v) (hown : w.ownsRow base e 1 v n (ys.map (Value.int .u8)))
    (B : Nat) (ad : Addr) (m c : Nat) (zs : List Int) (hx : a.eval x = .slice (some ad) m c) (hr : Byt w B (some ad) zs) (hl : zs.length = m) (hlen : n + m ≤ 140737488355328) (hbase : base ≤ w.heap.size)
    (h : ∀ v' w', w'.ownsRow base e 1 v' (n + m) ((ys ++ zs).map (Value.int .u8)) → w.grownBy w' v.ownBlock → K (a.put o.dst v') w') :
    if Region.wanted o (yielded ops a.tmps) = true then Oper.wp P o a w K Q else E := by
  have hw : Region.wanted o (yielded ops a.tmps) = true := by simp [Region.wanted, hgd]
  rw [if_pos hw]
  have hc : ∀ j u, (zs.map (Value.int .u8))[j]? = some u → w.cell? (ad.add j) = some u := by
    intro j u hj
    rw [List.getElem?_map, Option.map_eq_some_iff] at hj
    obtain ⟨z, hz1, rfl⟩ := hj
    have hjl := (List.getElem?_eq_some_iff.1 hz1).1
    obtain ⟨b, off, hA, _, hc⟩ := hr (fun e => by rw [e] at hjl; simp at hjl)
    injection hA with hA
    subst hA
    rw [Addr.add_lit, hc j hjl]
    simp [List.getD, hz1]
  refine wp_append_own w s x t ho base e i (.int .u8 0) 1 1 ht hi hz hsize hby rfl (by omega) v n _ hs hown ad m c (zs.map (Value.int .u8)) hx (by simp [hl]) hc (by
    intro u hu
    obtain ⟨_, _, rfl⟩ := List.mem_map.1 hu
    rfl) (by simp only [maxLen]; omega) (by omega) hbase ?_
  intro v' w' h1 h2 _
  exact h v' w' (by rw [List.map_append]; exact h1) h2
set_option maxHeartbeats 2000000 in
theorem ropen_last {B : Nat} (b off len cap : Nat) (zs : List Int) (w : World) (u n : Nat) (A' : Option Addr) (h : Byt w B (some ⟨b, off, none⟩) zs) (hB : B ≤ w.heap.size) (hl : zs.length = len) (hb : AllBytes zs) (hlc : len ≤ cap) (hm : cap ≤ maxLen) (hd : beg zs = some (1 + u, n)) (hs : 1 + u + n + 4 ≤ len) (hn : n ≤ 100000) (hu : u ≤ 10) (hbw : b < w.heap.size) (hcell : w.cell? ⟨b, off, none⟩ = some (.int .u8 (zs.getD 0 0))) (hk9 : zs.getD 0 0 ≤ 9)
    (hsl : ∀ w9 : World, (Instr.slice 22 (.slice (some ⟨b, off, none⟩) len cap) (some (.int .i64 1)) none none).run Try.prog w9 = .ok (.slice A' (len - 1) (cap - 1)) w9)
    (hg : Calls Try.prog 24 #[.slice A' (len - 1) (cap - 1)] w fun e w' => e = .returned (.tuple #[.int .u64 n, .int .i64 u, .bool true]) ∧ Below w.heap.size w w') :
    Calls Try.prog 14 #[.slice (some ⟨b, off, none⟩) len cap] w (OpenPost w (opn zs)) := by
  have hk := all_get hb 0
  have hwr := SM.sum_range (all_take hb (1 + u + n))
  have c1 : ∀ w' : World, Byt w' B (some ⟨b, off, none⟩) (zs.take (1 + u + n)) → Calls Try.prog 16 #[.slice (some ⟨b, off, none⟩) (1 + u + n) cap] w' fun e w'' => e = .returned (.int .u32 (SM.sum (zs.take (1 + u + n)))) ∧ w' = w'' := fun w' hw => rsum_any _ _ cap _ w' hw (by rw [List.length_take]; omega) (all_take hb _) (by omega)
  have c2 : ∀ w' : World, Calls Try.prog 20 #[.int .u32 (SM.sum (zs.take (1 + u + n)))] w' (Gives w' (word (SM.sum (zs.take (1 + u + n))))) := fun w' => rword_gives _ _ hwr.1 hwr.2
  have y0 : Byt w B (some ⟨b, off + (1 + u + n), none⟩) ((zs.drop (1 + u + n)).take 4) := by
    have := (h.drop (k := 1 + u + n) (cap := cap) (by omega)).take 4
    rw [if_neg (by omega)] at this
    simpa only [Option.map_some, Addr.add_lit] using this
  have y2 : Byt w B (some ⟨b, off + (1 + u), none⟩) ((zs.drop (1 + u)).take n) := by
    have := (h.drop (k := 1 + u) (cap := cap) (by omega)).take n
    rw [if_neg (by omega)] at this
    simpa only [Option.map_some, Addr.add_lit] using this
  have hopn : opn zs = if (zs.drop (1 + u + n)).take 4 = word (SM.sum (zs.take (1 + u + n))) then .ok (zs.getD 0 0) ((zs.drop (1 + u)).take n) (1 + u + n + 4) else .check := by
    rw [opn, hd]
    exact if_neg (by omega)
  have hqs := str_eq (all_take (all_drop hb (1 + u + n)) 4) (word_bytes hwr.1 hwr.2)
  obtain ⟨F, cv, hF⟩ := cvt_ex
  obtain ⟨i0, hi, hz0, hz1, hz2⟩ := info_parts infoByte
  have h0 : ((len : Int) == 0) = false := by simp; omega
  have ht : ¬ ((len : Int) - 1 - u < n + 4) := by omega
  simp only [maxLen] at hm
  have HF := Lib.hid hF
  have CV := Lib.hid cv
  have Y0 := Lib.hid y0
  have Y1 := Lib.hid (h.take (1 + u + n))
  have Y2 := Lib.hid y2
  have C1 := Lib.hid c1
  have C2 := Lib.hid c2
  have HG := Lib.hid hg
  have HBw := hB
  have HN4 := Lib.hid (show ((zs.drop (1 + u + n)).take 4).length = 4 by rw [List.length_take, List.length_drop]; omega)
  have HN5 := Lib.hid (show ((zs.drop (1 + u)).take n).length = n by rw [List.length_take, List.length_drop]; omega)
  have W2 := Lib.hid (show IntKind.i64.wrap (zs.getD 0 0) = zs.getD 0 0 from IntWalk.i64_in _ (by omega))
  have W1 := Lib.hid (show IntKind.i64.wrap (1 + (u : Int) + n + 4) = 1 + (u : Int) + n + 4 from IntWalk.i64_in _ (by omega))
  have W3 := Lib.hid (show IntKind.i64.wrap (1 + (u : Int)) = 1 + (u : Int) from IntWalk.i64_in _ (by omega))
  have S1 := Lib.hid (show ∀ w9 : World, (Instr.slice 22 (.slice (some ⟨b, off, none⟩) len cap) (some (.int .i64 (1 + (u : Int) + n))) (some (.int .i64 (1 + (u : Int) + n + 4))) none).run Try.prog w9 = .ok (.slice (some ⟨b, off + (1 + u + n), none⟩) 4 (cap - (1 + u + n))) w9 from fun w9 => by
    rw [sl_lh b off len cap (1 + u + n) (1 + u + n + 4) (by omega) (by omega) (by omega) _ _ (by omega) (by omega) w9, show 1 + u + n + 4 - (1 + u + n) = 4 by omega])
  have S2 := Lib.hid (show ∀ w9 : World, (Instr.slice 22 (.slice (some ⟨b, off, none⟩) len cap) none (some (.int .i64 (1 + (u : Int) + n))) none).run Try.prog w9 = .ok (.slice (some ⟨b, off, none⟩) (1 + u + n) cap) w9 from fun w9 => sl_h _ len cap (1 + u + n) (by omega) _ (by omega) w9)
  have S3 := Lib.hid (show ∀ w9 : World, (Instr.slice 22 (.slice (some ⟨b, off, none⟩) len cap) (some (.int .i64 (1 + (u : Int)))) (some (.int .i64 (1 + (u : Int) + n))) none).run Try.prog w9 = .ok (.slice (some ⟨b, off + (1 + u), none⟩) n (cap - (1 + u))) w9 from fun w9 => by
    rw [sl_lh b off len cap (1 + u) (1 + u + n) (by omega) (by omega) (by omega) _ _ (by omega) (by omega) w9, show 1 + u + n - (1 + u) = n by omega])
  have S4 := Lib.hid (show ∀ w9 : World, (Instr.indexAt 22 (.slice (some ⟨b, off, none⟩) len cap) (.int .i64 0)).run Try.prog w9 = .ok (.pointer (some ⟨b, off, none⟩)) w9 from fun w9 => ix_at b off len cap 0 (by omega) 0 rfl w9)
  have hc0 := hcell
  have HbB := hbw
  rw [hopn]
  by_cases hq : (zs.drop (1 + u + n)).take 4 = word (SM.sum (zs.take (1 + u + n)))
  · rw [if_pos hq]
    rw [decide_eq_true hq] at hqs
    have HQ := Lib.hid hqs
    have HP : Hid (∀ A l c w', ((zs.drop (1 + u)).take n).length = l → l ≤ c → c ≤ maxLen → w'.ownsRow w.heap.size 5 1 (.slice A l c) l (((zs.drop (1 + u)).take n).map (Value.int .u8)) → Below w.heap.size w w' → OpenPost w (.ok (zs.getD 0 0) ((zs.drop (1 + u)).take n) (1 + u + n + 4)) (.returned (.tuple #[.int .i64 (zs.getD 0 0), .slice A l c, .int .i64 (1 + (u : Int) + n + 4), .int .i64 0])) w') := Lib.hid (fun A l c w' h1 h2 h3 h4 h5 => ⟨A, l, c, by rw [show ((1 + u + n + 4 : Nat) : Int) = 1 + (u : Int) + n + 4 by omega], h1, h2, h3, h4, h5⟩)
    generalize OpenPost w (.ok (zs.getD 0 0) ((zs.drop (1 + u)).take n) (1 + u + n + 4)) = Post at HP ⊢
    generalize zs.getD 0 0 = k0 at *
    clear hcell hq c1 c2 y0 y2 hopn hd hg h hl hb hB hbw cv hF hqs hwr
    go_enter Try.func14, Try.ntmps14
    go_wp2_with fail
    refine HG.out.mono ?_
    rintro e w1 ⟨rfl, bw1⟩
    go_wp2_with fail
    have cv := CV.out
    refine wp_region_held_drew (S := fun w' => Below w1.drew.heap.size w1.drew w') (by kernel_rfl) (Below.refl _ _) (fun hS => ?_)
    refine wpAnyH_take (i := 0) (oi := ⟨some 48, _, _, _, _, _⟩) (v := ?_) rfl (by kernel_rfl) (by kernel_rfl) (by kernel_rfl) (fun _ _ _ h => h) (Or.inl ⟨by rfl, ?_⟩) hS ?_; rotate_left; (focus (intro w9 hSw; (try dsimp only at hSw); go_simp; try with_reducible rfl)); simp only [Act.put, List.setIfInBounds_toArray, List.set_cons_zero, List.set_cons_succ]
    refine wpAnyH_take (i := 1) (oi := ⟨some 49, _, _, _, _, _⟩) (v := ?_) rfl (by kernel_rfl) (by kernel_rfl) (by kernel_rfl) (fun _ _ _ h => h) (Or.inl ⟨by rfl, ?_⟩) hS ?_; rotate_left; (focus (intro w9 hSw; (try dsimp only at hSw); go_simp; try with_reducible rfl)); simp only [Act.put, List.setIfInBounds_toArray, List.set_cons_zero, List.set_cons_succ]
    refine wpAnyH_take (i := 2) (oi := ⟨some 50, _, _, _, _, _⟩) (v := ?_) rfl (by kernel_rfl) (by kernel_rfl) (by kernel_rfl) (fun _ _ _ h => h) (Or.inl ⟨by rfl, ?_⟩) hS ?_; rotate_left; (focus (intro w9 hSw; (try dsimp only at hSw); go_simp; try with_reducible rfl)); simp only [Act.put, List.setIfInBounds_toArray, List.set_cons_zero, List.set_cons_succ]
    refine wpAnyH_take (i := 3) (oi := ⟨some 51, _, _, _, _, _⟩) (v := ?_) rfl (by kernel_rfl) (by kernel_rfl) (by kernel_rfl) (fun _ _ _ h => h) (Or.inl ⟨by rfl, ?_⟩) hS ?_; rotate_left; (focus (intro w9 hSw; (try dsimp only at hSw); have s9 := W1.out; go_simp; try with_reducible rfl)); simp only [Act.put, List.setIfInBounds_toArray, List.set_cons_zero, List.set_cons_succ]
    refine wpAnyH_take (i := 4) (oi := ⟨some 52, _, _, _, _, _⟩) (v := ?_) rfl (by kernel_rfl) (by kernel_rfl) (by kernel_rfl) (fun _ _ _ h => h) (Or.inl ⟨by rfl, ?_⟩) hS ?_; rotate_left; (focus (intro w9 hSw; (try dsimp only at hSw); have s9 := S1.out w9; go_simp; try with_reducible rfl)); simp only [Act.put, List.setIfInBounds_toArray, List.set_cons_zero, List.set_cons_succ]
    refine wpAnyH_take (i := 5) (oi := ⟨some 53, _, _, _, _, _⟩) (v := ?_) rfl (by kernel_rfl) (by kernel_rfl) (by kernel_rfl) (fun _ _ _ h => h) (Or.inl ⟨by rfl, ?_⟩) hS ?_; rotate_left; (focus (intro w9 hSw; (try dsimp only at hSw); have t9 := HF.out w9 _ _ _ (Y0.out.below ((bw1.drew.trans (hSw.mono bw1.drew.size)).mono HBw)) 4 (cap - (1 + u + n)) HN4.out; go_simp; try with_reducible rfl)); simp only [Act.put, List.setIfInBounds_toArray, List.set_cons_zero, List.set_cons_succ]
    refine wpAnyH_take (i := 6) (oi := ⟨some 54, _, _, _, _, _⟩) (v := ?_) rfl (by kernel_rfl) (by kernel_rfl) (by kernel_rfl) (fun _ _ _ h => h) (Or.inl ⟨by rfl, ?_⟩) hS ?_; rotate_left; (focus (intro w9 hSw; (try dsimp only at hSw); go_simp; try with_reducible rfl)); simp only [Act.put, List.setIfInBounds_toArray, List.set_cons_zero, List.set_cons_succ]
    refine wpAnyH_take (i := 7) (oi := ⟨some 55, _, _, _, _, _⟩) (v := ?_) rfl (by kernel_rfl) (by kernel_rfl) (by kernel_rfl) (fun _ _ _ h => h) (Or.inl ⟨by rfl, ?_⟩) hS ?_; rotate_left; (focus (intro w9 hSw; (try dsimp only at hSw); go_simp; try with_reducible rfl)); simp only [Act.put, List.setIfInBounds_toArray, List.set_cons_zero, List.set_cons_succ]
    refine wpAnyH_take (i := 8) (oi := ⟨some 56, _, _, _, _, _⟩) (v := ?_) rfl (by kernel_rfl) (by kernel_rfl) (by kernel_rfl) (fun _ _ _ h => h) (Or.inl ⟨by rfl, ?_⟩) hS ?_; rotate_left; (focus (intro w9 hSw; (try dsimp only at hSw); have s9 := S2.out w9; go_simp; try with_reducible rfl)); simp only [Act.put, List.setIfInBounds_toArray, List.set_cons_zero, List.set_cons_succ]
    refine wpAnyH_ready (rs := [9]) (by kernel_rfl) (by simp) (AllReadyH.cons (o := ⟨some 57, _, _, _, _, _⟩) rfl (fun K hK => ?_) AllReadyH.nil)
    go_simp
    refine (C1.out _ (Y1.out.below (bw1.drew.mono HBw))).mono ?_
    rintro e x0 ⟨rfl, rfl⟩
    refine hK.out _ _ hS (fun _ => ?_)
    clear hK K
    refine wpAnyH_ready (rs := [10]) (by kernel_rfl) (by simp) (AllReadyH.cons (o := ⟨some 58, _, _, _, _, _⟩) rfl (fun K hK => ?_) AllReadyH.nil)
    go_simp
    refine (C2.out _).mono ?_
    rintro e x1 ⟨A1, n1, c1, rfl, hn1, _, _, hown1, hb1⟩
    have bk1 := bw1.drew.trans (hb1.mono bw1.drew.size)
    have by1 := Lib.hid (Byt.own (zs := word (SM.sum (zs.take (1 + u + n)))) hown1)
    have HN1 := Lib.hid hn1
    clear hS hown1 hn1
    refine hK.out _ _ hb1 (fun _ => ?_)
    clear hK K
    refine wpAnyH_sub (S' := fun w' => Below x1.heap.size x1 w') (fun _ h => hb1.trans (h.mono hb1.size)) ?_
    have hS := Below.refl x1.heap.size x1
    refine wpAnyH_take (i := 11) (oi := ⟨some 59, _, _, _, _, _⟩) (v := ?_) rfl (by kernel_rfl) (by kernel_rfl) (by kernel_rfl) (fun _ _ _ h => h) (Or.inl ⟨by rfl, ?_⟩) hS ?_; rotate_left; (focus (intro w9 hSw; (try dsimp only at hSw); have t9 := HF.out w9 _ _ _ (by1.out.below hSw) n1 c1 HN1.out; go_simp; try with_reducible rfl)); simp only [Act.put, List.setIfInBounds_toArray, List.set_cons_zero, List.set_cons_succ]
    refine wpAnyH_take (i := 12) (oi := ⟨some 60, _, _, _, _, _⟩) (v := ?_) rfl (by kernel_rfl) (by kernel_rfl) (by kernel_rfl) (fun _ _ _ h => h) (Or.inl ⟨by rfl, ?_⟩) hS ?_; rotate_left; (focus (intro w9 hSw; (try dsimp only at hSw); have q9 := HQ.out; go_simp; try with_reducible rfl)); simp only [Act.put, List.setIfInBounds_toArray, List.set_cons_zero, List.set_cons_succ]
    refine wpAnyH_done (by kernel_rfl) ?_ _
    clear hS cv
    go_wp2_with fail
    have bk1d := bk1.trans ((Below.refl x1.heap.size x1).drew.mono bk1.size)
    refine wp_region_held_drew (S := fun w' => Below x1.drew.heap.size x1.drew w') (by kernel_rfl) (Below.refl _ _) (fun hS => ?_)
    refine wpAnyH_take (i := 0) (oi := ⟨some 61, _, _, _, _, _⟩) (v := ?_) rfl (by kernel_rfl) (by kernel_rfl) (by kernel_rfl) (fun _ _ _ h => h) (Or.inl ⟨by rfl, ?_⟩) hS ?_; rotate_left; (focus (intro w9 hSw; (try dsimp only at hSw); go_simp; try with_reducible rfl)); simp only [Act.put, List.setIfInBounds_toArray, List.set_cons_zero, List.set_cons_succ]
    refine wpAnyH_take (i := 1) (oi := ⟨some 62, _, _, _, _, _⟩) (v := ?_) rfl (by kernel_rfl) (by kernel_rfl) (by kernel_rfl) (fun _ _ _ h => h) (Or.inl ⟨by rfl, ?_⟩) hS ?_; rotate_left; (focus (intro w9 hSw; (try dsimp only at hSw); have s9 := S4.out w9; go_simp; try with_reducible rfl)); simp only [Act.put, List.setIfInBounds_toArray, List.set_cons_zero, List.set_cons_succ]
    refine wpAnyH_take (i := 2) (oi := ⟨some 63, _, _, _, _, _⟩) (v := ?_) rfl (by kernel_rfl) (by kernel_rfl) (by kernel_rfl) (fun _ _ _ h => h) (Or.inl ⟨by rfl, ?_⟩) hS ?_; rotate_left; (focus (intro w9 hSw; (try dsimp only at hSw); have c9 := (((bk1d.trans (hSw.mono bk1d.size)).cell (p := ⟨b, off, none⟩) HbB).trans hc0); go_simp; try with_reducible rfl)); simp only [Act.put, List.setIfInBounds_toArray, List.set_cons_zero, List.set_cons_succ]
    refine wpAnyH_take (i := 3) (oi := ⟨some 64, _, _, _, _, _⟩) (v := ?_) rfl (by kernel_rfl) (by kernel_rfl) (by kernel_rfl) (fun _ _ _ h => h) (Or.inl ⟨by rfl, ?_⟩) hS ?_; rotate_left; (focus (intro w9 hSw; (try dsimp only at hSw); have s9 := W2.out; go_simp; try with_reducible rfl)); simp only [Act.put, List.setIfInBounds_toArray, List.set_cons_zero, List.set_cons_succ]
    refine wpAnyH_take (i := 4) (oi := ⟨some 65, _, _, _, _, _⟩) (v := ?_) rfl (by kernel_rfl) (by kernel_rfl) (by kernel_rfl) (fun _ _ _ h => h) (Or.inl ⟨by rfl, ?_⟩) hS ?_; rotate_left; (focus (intro w9 hSw; (try dsimp only at hSw); go_simp; try with_reducible rfl)); simp only [Act.put, List.setIfInBounds_toArray, List.set_cons_zero, List.set_cons_succ]
    refine wpAnyH_take (i := 5) (oi := ⟨some 66, _, _, _, _, _⟩) (v := ?_) rfl (by kernel_rfl) (by kernel_rfl) (by kernel_rfl) (fun _ _ _ h => h) (Or.inl ⟨by rfl, ?_⟩) hS ?_; rotate_left; (focus (intro w9 hSw; (try dsimp only at hSw); go_simp; try with_reducible rfl)); simp only [Act.put, List.setIfInBounds_toArray, List.set_cons_zero, List.set_cons_succ]
    refine wpAnyH_take (i := 6) (oi := ⟨some 67, _, _, _, _, _⟩) (v := ?_) rfl (by kernel_rfl) (by kernel_rfl) (by kernel_rfl) (fun _ _ _ h => h) (Or.inl ⟨by rfl, ?_⟩) hS ?_; rotate_left; (focus (intro w9 hSw; (try dsimp only at hSw); have s9 := W3.out; go_simp; try with_reducible rfl)); simp only [Act.put, List.setIfInBounds_toArray, List.set_cons_zero, List.set_cons_succ]
    refine wpAnyH_take (i := 7) (oi := ⟨some 68, _, _, _, _, _⟩) (v := ?_) rfl (by kernel_rfl) (by kernel_rfl) (by kernel_rfl) (fun _ _ _ h => h) (Or.inl ⟨by rfl, ?_⟩) hS ?_; rotate_left; (focus (intro w9 hSw; (try dsimp only at hSw); go_simp; try with_reducible rfl)); simp only [Act.put, List.setIfInBounds_toArray, List.set_cons_zero, List.set_cons_succ]
    refine wpAnyH_take (i := 8) (oi := ⟨some 69, _, _, _, _, _⟩) (v := ?_) rfl (by kernel_rfl) (by kernel_rfl) (by kernel_rfl) (fun _ _ _ h => h) (Or.inl ⟨by rfl, ?_⟩) hS ?_; rotate_left; (focus (intro w9 hSw; (try dsimp only at hSw); have s9 := S3.out w9; go_simp; try with_reducible rfl)); simp only [Act.put, List.setIfInBounds_toArray, List.set_cons_zero, List.set_cons_succ]
    refine wpAnyH_take (i := 10) (oi := ⟨some 71, _, _, _, _, _⟩) (v := ?_) rfl (by kernel_rfl) (by kernel_rfl) (by kernel_rfl) (fun _ _ _ h => h) (Or.inl ⟨by rfl, ?_⟩) hS ?_; rotate_left; (focus (intro w9 hSw; (try dsimp only at hSw); go_simp; try with_reducible rfl)); simp only [Act.put, List.setIfInBounds_toArray, List.set_cons_zero, List.set_cons_succ]
    refine wpAnyH_take (i := 11) (oi := ⟨some 72, _, _, _, _, _⟩) (v := ?_) rfl (by kernel_rfl) (by kernel_rfl) (by kernel_rfl) (fun _ _ _ h => h) (Or.inl ⟨by rfl, ?_⟩) hS ?_; rotate_left; (focus (intro w9 hSw; (try dsimp only at hSw); have s9 := W1.out; go_simp; try with_reducible rfl)); simp only [Act.put, List.setIfInBounds_toArray, List.set_cons_zero, List.set_cons_succ]
    refine wpAnyH_ready (rs := [9]) (by kernel_rfl) (by simp) (AllReadyH.cons (o := ⟨some 70, _, _, _, _, _⟩) rfl (fun K hK => ?_) AllReadyH.nil)
    refine step_append_byt (o := ⟨some 70, _, _, _, _, _⟩) rfl _ _ 22 rfl x1.heap.size 5 i0 Try.underlying22 hi hz0 hz1 hz2 _ 0 [] rfl (World.ownsRow_nil _ _ _ _) B ⟨b, off + (1 + u), none⟩ n (cap - (1 + u)) ((zs.drop (1 + u)).take n) rfl (Y2.out.below (bk1d.mono HBw)) HN5.out (by omega) (Nat.le_refl _) ?_
    intro v3 x3 hown3 hg3
    rw [Nat.zero_add, List.nil_append] at hown3
    have hb3 := (Below.refl x1.drew.heap.size x1.drew).grown hg3 (Nat.le_refl _) (fun g hg => by cases hg)
    have bk3 := bk1d.trans (hb3.mono bk1d.size)
    clear hS
    refine hK.out _ _ hb3 (fun _ => ?_)
    clear hK K
    refine wpAnyH_sub (S' := fun w' => Below x3.heap.size x3 w') (fun _ h => hb3.trans (h.mono hb3.size)) ?_
    have hS := Below.refl x3.heap.size x3
    refine wpAnyH_take (i := 12) (oi := ⟨some 2, _, _, _, _, _⟩) (v := ?_) rfl (by kernel_rfl) (by kernel_rfl) (by kernel_rfl) (fun _ _ _ h => h) (Or.inl ⟨by rfl, ?_⟩) hS ?_; rotate_left; (focus (intro w9 hSw; (try dsimp only at hSw); go_simp; try with_reducible rfl)); simp only [Act.put, List.setIfInBounds_toArray, List.set_cons_zero, List.set_cons_succ]
    refine wpAnyH_take (i := 13) (oi := ⟨some 3, _, _, _, _, _⟩) (v := ?_) rfl (by kernel_rfl) (by kernel_rfl) (by kernel_rfl) (fun _ _ _ h => h) (Or.inl ⟨by rfl, ?_⟩) hS ?_; rotate_left; (focus (intro w9 hSw; (try dsimp only at hSw); go_simp; try with_reducible rfl)); simp only [Act.put, List.setIfInBounds_toArray, List.set_cons_zero, List.set_cons_succ]
    refine wpAnyH_take (i := 14) (oi := ⟨some 4, _, _, _, _, _⟩) (v := ?_) rfl (by kernel_rfl) (by kernel_rfl) (by kernel_rfl) (fun _ _ _ h => h) (Or.inl ⟨by rfl, ?_⟩) hS ?_; rotate_left; (focus (intro w9 hSw; (try dsimp only at hSw); go_simp; try with_reducible rfl)); simp only [Act.put, List.setIfInBounds_toArray, List.set_cons_zero, List.set_cons_succ]
    refine wpAnyH_take (i := 15) (oi := ⟨some 5, _, _, _, _, _⟩) (v := ?_) rfl (by kernel_rfl) (by kernel_rfl) (by kernel_rfl) (fun _ _ _ h => h) (Or.inl ⟨by rfl, ?_⟩) hS ?_; rotate_left; (focus (intro w9 hSw; (try dsimp only at hSw); go_simp; try with_reducible rfl)); simp only [Act.put, List.setIfInBounds_toArray, List.set_cons_zero, List.set_cons_succ]
    refine wpAnyH_done (by kernel_rfl) ?_ _
    clear hS
    obtain ⟨A3, n3, c3, hv3, hn3, hnc3, hcm3, hown3', _⟩ := gives_own (w := x1.drew) hown3 hb3
    injection hv3 with hv3
    subst hv3
    go_wp2
    exact bodyPost_ret (v := .tuple #[.int .i64 k0, .slice A3 n3 c3, .int .i64 (1 + (u : Int) + n + 4), .int .i64 0]) (by simp [results, Try.results14, go_sem]) rfl (HP.out A3 n3 c3 _ hn3 hnc3 hcm3 (own_le hown3' bk1.size) bk3)
  · rw [if_neg hq]
    rw [decide_eq_false hq] at hqs
    have HQ := Lib.hid hqs
    generalize zs.getD 0 0 = k0 at *
    clear hcell hq c1 c2 y0 y2 hopn hd hg h hl hb hB hbw cv hF hqs hwr
    go_enter Try.func14, Try.ntmps14
    go_wp2_with fail
    refine HG.out.mono ?_
    rintro e w1 ⟨rfl, bw1⟩
    go_wp2_with fail
    have cv := CV.out
    refine wp_region_held_drew (S := fun w' => Below w1.drew.heap.size w1.drew w') (by kernel_rfl) (Below.refl _ _) (fun hS => ?_)
    refine wpAnyH_take (i := 0) (oi := ⟨some 48, _, _, _, _, _⟩) (v := ?_) rfl (by kernel_rfl) (by kernel_rfl) (by kernel_rfl) (fun _ _ _ h => h) (Or.inl ⟨by rfl, ?_⟩) hS ?_; rotate_left; (focus (intro w9 hSw; (try dsimp only at hSw); go_simp; try with_reducible rfl)); simp only [Act.put, List.setIfInBounds_toArray, List.set_cons_zero, List.set_cons_succ]
    refine wpAnyH_take (i := 1) (oi := ⟨some 49, _, _, _, _, _⟩) (v := ?_) rfl (by kernel_rfl) (by kernel_rfl) (by kernel_rfl) (fun _ _ _ h => h) (Or.inl ⟨by rfl, ?_⟩) hS ?_; rotate_left; (focus (intro w9 hSw; (try dsimp only at hSw); go_simp; try with_reducible rfl)); simp only [Act.put, List.setIfInBounds_toArray, List.set_cons_zero, List.set_cons_succ]
    refine wpAnyH_take (i := 2) (oi := ⟨some 50, _, _, _, _, _⟩) (v := ?_) rfl (by kernel_rfl) (by kernel_rfl) (by kernel_rfl) (fun _ _ _ h => h) (Or.inl ⟨by rfl, ?_⟩) hS ?_; rotate_left; (focus (intro w9 hSw; (try dsimp only at hSw); go_simp; try with_reducible rfl)); simp only [Act.put, List.setIfInBounds_toArray, List.set_cons_zero, List.set_cons_succ]
    refine wpAnyH_take (i := 3) (oi := ⟨some 51, _, _, _, _, _⟩) (v := ?_) rfl (by kernel_rfl) (by kernel_rfl) (by kernel_rfl) (fun _ _ _ h => h) (Or.inl ⟨by rfl, ?_⟩) hS ?_; rotate_left; (focus (intro w9 hSw; (try dsimp only at hSw); have s9 := W1.out; go_simp; try with_reducible rfl)); simp only [Act.put, List.setIfInBounds_toArray, List.set_cons_zero, List.set_cons_succ]
    refine wpAnyH_take (i := 4) (oi := ⟨some 52, _, _, _, _, _⟩) (v := ?_) rfl (by kernel_rfl) (by kernel_rfl) (by kernel_rfl) (fun _ _ _ h => h) (Or.inl ⟨by rfl, ?_⟩) hS ?_; rotate_left; (focus (intro w9 hSw; (try dsimp only at hSw); have s9 := S1.out w9; go_simp; try with_reducible rfl)); simp only [Act.put, List.setIfInBounds_toArray, List.set_cons_zero, List.set_cons_succ]
    refine wpAnyH_take (i := 5) (oi := ⟨some 53, _, _, _, _, _⟩) (v := ?_) rfl (by kernel_rfl) (by kernel_rfl) (by kernel_rfl) (fun _ _ _ h => h) (Or.inl ⟨by rfl, ?_⟩) hS ?_; rotate_left; (focus (intro w9 hSw; (try dsimp only at hSw); have t9 := HF.out w9 _ _ _ (Y0.out.below ((bw1.drew.trans (hSw.mono bw1.drew.size)).mono HBw)) 4 (cap - (1 + u + n)) HN4.out; go_simp; try with_reducible rfl)); simp only [Act.put, List.setIfInBounds_toArray, List.set_cons_zero, List.set_cons_succ]
    refine wpAnyH_take (i := 6) (oi := ⟨some 54, _, _, _, _, _⟩) (v := ?_) rfl (by kernel_rfl) (by kernel_rfl) (by kernel_rfl) (fun _ _ _ h => h) (Or.inl ⟨by rfl, ?_⟩) hS ?_; rotate_left; (focus (intro w9 hSw; (try dsimp only at hSw); go_simp; try with_reducible rfl)); simp only [Act.put, List.setIfInBounds_toArray, List.set_cons_zero, List.set_cons_succ]
    refine wpAnyH_take (i := 7) (oi := ⟨some 55, _, _, _, _, _⟩) (v := ?_) rfl (by kernel_rfl) (by kernel_rfl) (by kernel_rfl) (fun _ _ _ h => h) (Or.inl ⟨by rfl, ?_⟩) hS ?_; rotate_left; (focus (intro w9 hSw; (try dsimp only at hSw); go_simp; try with_reducible rfl)); simp only [Act.put, List.setIfInBounds_toArray, List.set_cons_zero, List.set_cons_succ]
    refine wpAnyH_take (i := 8) (oi := ⟨some 56, _, _, _, _, _⟩) (v := ?_) rfl (by kernel_rfl) (by kernel_rfl) (by kernel_rfl) (fun _ _ _ h => h) (Or.inl ⟨by rfl, ?_⟩) hS ?_; rotate_left; (focus (intro w9 hSw; (try dsimp only at hSw); have s9 := S2.out w9; go_simp; try with_reducible rfl)); simp only [Act.put, List.setIfInBounds_toArray, List.set_cons_zero, List.set_cons_succ]
    refine wpAnyH_ready (rs := [9]) (by kernel_rfl) (by simp) (AllReadyH.cons (o := ⟨some 57, _, _, _, _, _⟩) rfl (fun K hK => ?_) AllReadyH.nil)
    go_simp
    refine (C1.out _ (Y1.out.below (bw1.drew.mono HBw))).mono ?_
    rintro e x0 ⟨rfl, rfl⟩
    refine hK.out _ _ hS (fun _ => ?_)
    clear hK K
    refine wpAnyH_ready (rs := [10]) (by kernel_rfl) (by simp) (AllReadyH.cons (o := ⟨some 58, _, _, _, _, _⟩) rfl (fun K hK => ?_) AllReadyH.nil)
    go_simp
    refine (C2.out _).mono ?_
    rintro e x1 ⟨A1, n1, c1, rfl, hn1, _, _, hown1, hb1⟩
    have bk1 := bw1.drew.trans (hb1.mono bw1.drew.size)
    have by1 := Lib.hid (Byt.own (zs := word (SM.sum (zs.take (1 + u + n)))) hown1)
    have HN1 := Lib.hid hn1
    clear hS hown1 hn1
    refine hK.out _ _ hb1 (fun _ => ?_)
    clear hK K
    refine wpAnyH_sub (S' := fun w' => Below x1.heap.size x1 w') (fun _ h => hb1.trans (h.mono hb1.size)) ?_
    have hS := Below.refl x1.heap.size x1
    refine wpAnyH_take (i := 11) (oi := ⟨some 59, _, _, _, _, _⟩) (v := ?_) rfl (by kernel_rfl) (by kernel_rfl) (by kernel_rfl) (fun _ _ _ h => h) (Or.inl ⟨by rfl, ?_⟩) hS ?_; rotate_left; (focus (intro w9 hSw; (try dsimp only at hSw); have t9 := HF.out w9 _ _ _ (by1.out.below hSw) n1 c1 HN1.out; go_simp; try with_reducible rfl)); simp only [Act.put, List.setIfInBounds_toArray, List.set_cons_zero, List.set_cons_succ]
    refine wpAnyH_take (i := 12) (oi := ⟨some 60, _, _, _, _, _⟩) (v := ?_) rfl (by kernel_rfl) (by kernel_rfl) (by kernel_rfl) (fun _ _ _ h => h) (Or.inl ⟨by rfl, ?_⟩) hS ?_; rotate_left; (focus (intro w9 hSw; (try dsimp only at hSw); have q9 := HQ.out; go_simp; try with_reducible rfl)); simp only [Act.put, List.setIfInBounds_toArray, List.set_cons_zero, List.set_cons_succ]
    refine wpAnyH_done (by kernel_rfl) ?_ _
    clear hS cv
    go_wp2
    exact bodyPost_ret (v := .tuple #[.int .i64 0, .slice none 0 0, .int .i64 0, .int .i64 3]) (by simp [results, Try.results14, go_sem]) rfl ⟨rfl, bk1⟩
theorem ropen_empty (A : Option Addr) (cap : Nat) (w : World) : Calls Try.prog 14 #[.slice A 0 cap] w (OpenPost w .form) := by
  go_enter Try.func14, Try.ntmps14
  go_wp2
  exact bodyPost_ret (v := .tuple #[.int .i64 0, .slice none 0 0, .int .i64 0, .int .i64 2]) (by simp [results, Try.results14, go_sem]) rfl ⟨rfl, Below.refl _ _⟩
theorem ropen_kind (b off len cap : Nat) (k : Int) (w : World) (hc : w.cell? ⟨b, off, none⟩ = some (.int .u8 k)) (hk : 9 < k) (hk' : k ≤ 255) (hl : 0 < len) (hm : len ≤ maxLen) : Calls Try.prog 14 #[.slice (some ⟨b, off, none⟩) len cap] w (OpenPost w .form) := by
  unfold maxLen at hm
  have h0 : ((len : Int) == 0) = false := by simp; omega
  go_enter Try.func14, Try.ntmps14
  go_wp2
  exact bodyPost_ret (v := .tuple #[.int .i64 0, .slice none 0 0, .int .i64 0, .int .i64 2]) (by simp [results, Try.results14, go_sem]) rfl ⟨rfl, Below.refl _ _⟩
theorem ropen_form (b off len cap : Nat) (k : Int) (w : World) (A' : Option Addr) (r : Option (Int × Nat)) (hc : w.cell? ⟨b, off, none⟩ = some (.int .u8 k)) (hk0 : 0 ≤ k) (hk : k ≤ 9) (hl : 0 < len) (hlc : len ≤ cap) (hm : cap ≤ maxLen)
    (hr : ∀ n u, r = some (n, u) → 0 ≤ n ∧ n ≤ 18446744073709551615 ∧ u + 1 ≤ len ∧ (n ≤ 100000 → (len : Int) < 1 + u + n + 4))
    (hsl : ∀ w9 : World, (Instr.slice 22 (.slice (some ⟨b, off, none⟩) len cap) (some (.int .i64 1)) none none).run Try.prog w9 = .ok (.slice A' (len - 1) (cap - 1)) w9)
    (hg : Calls Try.prog 24 #[.slice A' (len - 1) (cap - 1)] w fun e w' => e = .returned (getV r) ∧ Below w.heap.size w w') :
    Calls Try.prog 14 #[.slice (some ⟨b, off, none⟩) len cap] w (OpenPost w .form) := by
  unfold maxLen at hm
  have h0 : ((len : Int) == 0) = false := by simp; omega
  have HR := Lib.hid hr
  clear hr
  cases r with
  | none =>
    simp only [getV] at hg
    have HG := Lib.hid hg
    clear hg
    go_enter Try.func14, Try.ntmps14
    go_wp2_with fail
    refine HG.out.mono ?_
    rintro e w1 ⟨rfl, bw1⟩
    go_wp2
    exact bodyPost_ret (v := .tuple #[.int .i64 0, .slice none 0 0, .int .i64 0, .int .i64 2]) (by simp [results, Try.results14, go_sem]) rfl ⟨rfl, bw1⟩
  | some p =>
    obtain ⟨n, u⟩ := p
    obtain ⟨r0, r1, r2, r3⟩ := HR.out n u rfl
    simp only [getV] at hg
    have HG := Lib.hid hg
    clear hg HR
    by_cases hn : 100000 < n
    · clear r3
      go_enter Try.func14, Try.ntmps14
      go_wp2_with fail
      refine HG.out.mono ?_
      rintro e w1 ⟨rfl, bw1⟩
      go_wp2
      exact bodyPost_ret (v := .tuple #[.int .i64 0, .slice none 0 0, .int .i64 0, .int .i64 2]) (by simp [results, Try.results14, go_sem]) rfl ⟨rfl, bw1⟩
    · obtain ⟨N, rfl⟩ : ∃ N : Nat, n = N := ⟨n.toNat, by omega⟩
      have ht : (len : Int) - 1 - u < N + 4 := by have := r3 (by omega); omega
      clear r3
      go_enter Try.func14, Try.ntmps14
      go_wp2_with fail
      refine HG.out.mono ?_
      rintro e w1 ⟨rfl, bw1⟩
      go_wp2
      exact bodyPost_ret (v := .tuple #[.int .i64 0, .slice none 0 0, .int .i64 0, .int .i64 2]) (by simp [results, Try.results14, go_sem]) rfl ⟨rfl, bw1⟩
theorem ropen_any {B : Nat} (A : Option Addr) (len cap : Nat) (zs : List Int) (w : World) (h : Byt w B A zs) (hB : B ≤ w.heap.size) (hl : zs.length = len) (hb : AllBytes zs) (hlc : len ≤ cap) (hm : cap ≤ maxLen) :
    Calls Try.prog 14 #[.slice A len cap] w (OpenPost w (opn zs)) := by
  match zs, hl, hb, h with
  | [], hl, _, _ => obtain rfl : 0 = len := hl; exact ropen_empty A cap w
  | k :: t, hl, hb, h =>
    have hk := hb k (by simp)
    obtain ⟨b, off, rfl, hbB, hc⟩ := h (by simp)
    have hc0 : w.cell? ⟨b, off, none⟩ = some (.int .u8 k) := hc 0 (by simp)
    have hl' := hl
    simp only [List.length_cons] at hl'
    by_cases h9 : 9 < k
    · rw [opn, beg, if_pos h9]
      exact ropen_kind b off len cap k w hc0 h9 hk.2 (by omega) (by omega)
    · have hbt : AllBytes t := fun z hz => hb z (by simp [hz])
      have hsl := sl_l (some ⟨b, off, none⟩) len cap 1 (by omega) 1 rfl
      have hg := rget_any (if cap = 1 then some ⟨b, off, none⟩ else (some (⟨b, off, none⟩ : Addr)).map (·.add 1)) (len - 1) (cap - 1) t w (by have := h.drop (k := 1) (cap := cap) (by simp; omega); simpa using this) (by omega) hbt (by omega) (by omega) hB
      generalize (if cap = 1 then some ⟨b, off, none⟩ else (some (⟨b, off, none⟩ : Addr)).map (·.add 1)) = A' at hsl hg
      match hd : dec t with
      | none =>
        rw [hd] at hg
        rw [opn, beg, if_neg h9, hd]
        exact ropen_form b off len cap k w A' none hc0 hk.1 (by omega) (by omega) hlc hm (fun _ _ e => by cases e) hsl hg
      | some (n, u) =>
        rw [hd] at hg
        obtain ⟨d1, d2, d3, d4, d5⟩ := dec_some hbt hd
        have hu := (enc_len n).2
        rw [d3, List.length_take] at hu
        by_cases hs : n ≤ 100000 ∧ 1 + u + n.toNat + 4 ≤ len
        · obtain ⟨hn, hs⟩ := hs
          obtain ⟨N, rfl⟩ : ∃ N : Nat, n = N := ⟨n.toNat, by omega⟩
          exact ropen_last b off len cap (k :: t) w u N A' h hB hl hb hlc hm (by rw [beg, if_neg h9, hd]; simp only [if_neg (show ¬ (100000 : Int) < N by omega)]; simp) (by omega) (by omega) (by omega) (by omega) hc0 (by simp; omega) hsl hg
        · have hform : opn (k :: t) = .form := by
            rw [opn, beg, if_neg h9, hd]
            by_cases hn : 100000 < n
            · simp only [if_pos hn]
            · simp only [if_neg hn]
              rw [if_pos (by rw [hl]; omega)]
          rw [hform]
          exact ropen_form b off len cap k w A' (some (n, u)) hc0 hk.1 (by omega) (by omega) hlc hm (fun n' u' e => by
            simp only [Option.some.injEq, Prod.mk.injEq] at e
            obtain ⟨rfl, rfl⟩ := e
            exact ⟨d4, d5, by omega, by omega⟩) hsl hg
end Go.Proofs.Ytneiaioddjabeaa
