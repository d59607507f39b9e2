/-
  The law ShaSame: for all bytes it answers true, and nothing that was there is written.
-/
import Derived.Test.YtojmmjecfpdmoaaDoorShaAwake
import Derived.Deep.RegionHeld3
import Derived.Deep.MidRow
namespace Go.Proofs.YtojmmjecfpdmoaaDoor
open Go.RowKit WM
set_option linter.unusedVariables false
/-- append(v, x...) inside a region that draws its order, where a guard lets it. -/
theorem step_append_if {P : Program} {w : World} {ops : Array Oper} {o : Oper} {a : Act} {K : Act → World → Prop} {Q : Exit → Act → World → Prop} {E : Prop} (hw : Region.wanted o (yielded ops a.tmps) = true) (s x : Operand) (t : TypeId)
    (ho : o.op = .call { callee := .builtin .append, args := #[s, x], argTypes := #[t, t] })
    (base : Nat) (e : TypeId) (i : TypeInfo) (ht : P.underlying t = some (.slice e)) (hi : P.info? e = some i) (hz : i.zero = some (.int .u8 0)) (hsize : i.size = 1) (hby : i.bytes = 1)
    (v : Value) (n : Nat) (ys : List Int) (hs : a.eval s = v) (hown : w.ownsRow base e 1 v n (ys.map (Value.int .u8)))
    (B : Nat) (ad : Addr) (m c : Nat) (zs : List Int) (hx : a.eval x = .slice (some ad) m c) (hr : Byt w B (some ad) zs) (hl : zs.length = m) (hlen : n + m ≤ 140737488355328) (hbase : base ≤ w.heap.size)
    (h : ∀ v' w', w'.ownsRow base e 1 v' (n + m) ((ys ++ zs).map (Value.int .u8)) → w.grownBy w' v.ownBlock → K (a.put o.dst v') w') :
    if Region.wanted o (yielded ops a.tmps) = true then Oper.wp P o a w K Q else E := by
  rw [if_pos hw]
  have hc : ∀ j u, (zs.map (Value.int .u8))[j]? = some u → w.cell? (ad.add j) = some u := by
    intro j u hj
    rw [List.getElem?_map, Option.map_eq_some_iff] at hj
    obtain ⟨z, hz1, rfl⟩ := hj
    have hjl := (List.getElem?_eq_some_iff.1 hz1).1
    obtain ⟨b, off, hA, _, hc⟩ := hr (fun e => by rw [e] at hjl; simp at hjl)
    injection hA with hA
    subst hA
    rw [Addr.add_lit, hc j hjl]
    simp [List.getD, hz1]
  refine wp_append_own w s x t ho base e i (.int .u8 0) 1 1 ht hi hz hsize hby rfl (by omega) v n _ hs hown ad m c (zs.map (Value.int .u8)) hx (by simp [hl]) hc (by
    intro u hu
    obtain ⟨_, _, rfl⟩ := List.mem_map.1 hu
    rfl) (by simp only [maxLen]; omega) (by omega) hbase ?_
  intro v' w' h1 h2 _
  exact h v' w' (by rw [List.map_append]; exact h1) h2
theorem step_append_nil {P : Program} {w : World} {ops : Array Oper} {o : Oper} {a : Act} {K : Act → World → Prop} {Q : Exit → Act → World → Prop} {E : Prop} (hw : Region.wanted o (yielded ops a.tmps) = true) (s x : Operand) (t : TypeId)
    (ho : o.op = .call { callee := .builtin .append, args := #[s, x], argTypes := #[t, t] }) (e : TypeId) (i : TypeInfo) (ht : P.underlying t = some (.slice e)) (hi : P.info? e = some i)
    (hs : a.eval s = .slice none 0 0) (hx : a.eval x = .slice none 0 0) (h : K (a.put o.dst (.slice none 0 0)) w) :
    if Region.wanted o (yielded ops a.tmps) = true then Oper.wp P o a w K Q else E := by
  rw [if_pos hw]
  have hrun := run_append_owned_none (P := P) (w := w) 0 t o.type e i 1 ht hi (.slice none 0 0) 0 [] (World.ownsRow_nil _ _ _ _)
  unfold Oper.wp
  simp [execOp, ho, resolve, invoke, builtin, hs, hx, hrun, Result.andThen]
  exact h
set_option maxHeartbeats 4000000 in
set_option maxRecDepth 100000 in
theorem same_yes {B : Nat} (ad : Addr) (lenb capb : Nat) (a1 : Option Addr) (lenc capc : Nat) (zb zc : List Int) (w : World) (hlaid : Laid w)
    (yb : Byt w B (some ad) zb) (lb : zb.length = lenb) (bb : AllBytes zb) (hbc : lenb ≤ capb) (hbm : capb ≤ maxLen) (nb : (some ad) = none → capb = 0) (hB : B ≤ w.heap.size)
    (yc : Byt w B a1 zc) (lc : zc.length = lenc) (bc : AllBytes zc) (hcc : lenc ≤ capc) (hcm : capc ≤ maxLen) (nc : a1 = none → capc = 0) (h3 : lenb ≤ 300) (h4 : lenc ≤ 300) (he : zb = zc) :
    Calls Tryd.prog 4 #[.slice (some ad) lenb capb, .slice a1 lenc capc] w fun e w' => e = .returned (.bool true) ∧ Below w.heap.size w w' := by
  obtain ⟨i0, hi, hz0, hz1, hz2⟩ := info_parts infoByte
  have hz := zeroD
  have AW := Lib.hid (awake_any w hlaid)
  have SB := Lib.hid (fun (X : World) (hX : Below w.heap.size w X) => dsum_any (some ad) lenb capb zb X (hlaid.below hX (Nat.le_refl _)) (yb.below (hX.mono hB)) lb hbc hbm (by omega) nb bb (Nat.le_trans hB hX.size))
  have SC := Lib.hid (fun (X : World) (hX : Below w.heap.size w X) => dsum_any a1 lenc capc zc X (hlaid.below hX (Nat.le_refl _)) (yc.below (hX.mono hB)) lc hcc hcm (by omega) nc bc (Nat.le_trans hB hX.size))
  have SO := Lib.hid (fun (X : World) (hX : Below w.heap.size w X) => of_any (strOfNums zb) X (hlaid.below hX (Nat.le_refl _)) (by have := nums_len (strOfNums zb); rw [nums_str bb] at this; omega))
  have S8 := Lib.hid (fun (X : World) (hX : Below w.heap.size w X) (A3 : Option Addr) (n3 c3 : Nat) (hy : Byt X X.heap.size A3 zb) (h1 : zb.length = n3) (h2 : n3 ≤ c3) (h3 : c3 ≤ maxLen) (h4 : A3 = none → c3 = 0) => dsum_any A3 n3 c3 zb X (hlaid.below hX (Nat.le_refl _)) hy h1 h2 h3 (by omega) h4 bb (Nat.le_refl _))
  unfold DSumPost at SB SC SO S8
  rw [nums_str bb] at SO
  have eqx := eq_dig (SH.sum_bytes zb) (SH.sum_bytes zb) (SH.sum_len zb) (SH.sum_len zb)
  have eqxy := eq_dig (SH.sum_bytes zb) (SH.sum_bytes zc) (SH.sum_len zb) (SH.sum_len zc)
  rw [show (SH.sum zb == SH.sum zb) = true by simp] at eqx
  rw [show (SH.sum zb == SH.sum zc) = true by rw [he]; simp] at eqxy
  have HT := Lib.hid (show ((strOfNums zb).toList == (strOfNums zc).toList) = true by rw [str_eq bb bc]; simp [he])
  have CVB := Lib.hid (fun (X : World) (hX : Below w.heap.size w X) => (yb.below (hX.mono hB)).text (P := Tryd.prog) (len := lenb) (cap := capb) lb 22 5 9 Tryd.underlying22 Tryd.underlying5 Tryd.underlying9)
  have CVC := Lib.hid (fun (X : World) (hX : Below w.heap.size w X) => (yc.below (hX.mono hB)).text (P := Tryd.prog) (len := lenc) (cap := capc) lc 22 5 9 Tryd.underlying22 Tryd.underlying5 Tryd.underlying9)
  have YBW := Lib.hid (fun (X : World) (hX : Below w.heap.size w X) => yb.below (hX.mono hB))
  have HLb := Lib.hid lb
  obtain ⟨lX, hlX⟩ : ∃ lX, lX = (SH.sum zb).map (Value.int .u8) := ⟨_, rfl⟩
  obtain ⟨lY, hlY⟩ : ∃ lY, lY = (SH.sum zc).map (Value.int .u8) := ⟨_, rfl⟩
  have I6 := Lib.hid (show (Tryd.prog.info? 24).map (·.size) = some (bvals (SH.sum zb)).size by rw [sizeD, bvals_size, SH.sum_len])
  have Z6 := Lib.hid (show (bvals (List.replicate 32 0)).size = (bvals (SH.sum zb)).size by rw [bvals_size, bvals_size, SH.sum_len, List.length_replicate])
  have O6 := Lib.hid (bvals_one (SH.sum zb))
  have I7 := Lib.hid (show (Tryd.prog.info? 24).map (·.size) = some (bvals (SH.sum zc)).size by rw [sizeD, bvals_size, SH.sum_len])
  have Z7 := Lib.hid (show (bvals (List.replicate 32 0)).size = (bvals (SH.sum zc)).size by rw [bvals_size, bvals_size, SH.sum_len, List.length_replicate])
  have O7 := Lib.hid (bvals_one (SH.sum zc))
  have ILlX := Lib.hid (show (Tryd.prog.info? 24).map (·.size) = some lX.length by rw [sizeD, hlX, List.length_map, SH.sum_len])
  have ILlY := Lib.hid (show (Tryd.prog.info? 24).map (·.size) = some lY.length by rw [sizeD, hlY, List.length_map, SH.sum_len])
  have RNG := Lib.hid (fun (X : World) (g : Nat) (V : Array Value) (h : X.heap[g]? = some (.cells V 24 (0, 0))) => (fun j v hj => by rw [Nat.zero_add, cell_of_row X g j _ _ _ h]; simpa using hj : X.rangeAt g 0 V.toList))
  have eX : bvals (SH.sum zb) = lX.toArray := by rw [hlX]; rfl
  have eY : bvals (SH.sum zc) = lY.toArray := by rw [hlY]; rfl
  rw [eX] at SB SO S8 eqx eqxy I6 Z6 O6
  rw [eY] at SC eqxy I7 Z7 O7
  have EX := Lib.hid eqx
  have EXY := Lib.hid eqxy
  clear eqx eqxy eX eY hlX hlY hlaid yb yc bb bc lb lc he nb nc
  generalize strOfNums zb = TB at *
  generalize strOfNums zc = TC at *
  generalize bvals (List.replicate 32 0) = Z32 at *
  go_enter Tryd.func4, Tryd.ntmps4
  go_wp2_with fail
  refine AW.out.mono ?_
  rintro e w1 ⟨rfl, hb1⟩
  go_wp2_with fail
  refine (SB.out _ hb1).mono ?_
  rintro e w2 ⟨rfl, hb2⟩
  have b2 := hb1.trans (hb2.mono hb1.size)
  have hp6 := Lib.hid (putD w2 Z32 lX.toArray)
  have hn6 := Lib.hid (heap_alloc_new w2 (.cells Z32 24))
  have b2' := b2.alloc b2.size (.cells lX.toArray 24)
  go_wp2_with (first | ((with_reducible refine wpList_store_row (o := ⟨none, .store 24 (.tmp 6) (.tmp 23), _, _, _, _⟩) ?e1 24 (.tmp 6) (.tmp 23) ?e2 w2.heap.size lX.toArray ?e3 ?e4 24 Z32 hn6.out I6.out Z6.out O6.out ?_); (case e1 => rfl); (case e2 => rfl); (case e3 => rfl); (case e4 => rfl); rw [hp6.out]))
  refine (SC.out _ b2').mono ?_
  rintro e w3 ⟨rfl, hb3⟩
  have b3 := b2'.trans (hb3.mono b2'.size)
  have hp7 := Lib.hid (putD w3 Z32 lY.toArray)
  have hn7 := Lib.hid (heap_alloc_new w3 (.cells Z32 24))
  have b3' := b3.alloc b3.size (.cells lY.toArray 24)
  go_wp2_with (first | ((with_reducible refine wpList_store_row (o := ⟨none, .store 24 (.tmp 7) (.tmp 25), _, _, _, _⟩) ?e1 24 (.tmp 7) (.tmp 25) ?e2 w3.heap.size lY.toArray ?e3 ?e4 24 Z32 hn7.out I7.out Z7.out O7.out ?_); (case e1 => rfl); (case e2 => rfl); (case e3 => rfl); (case e4 => rfl); rw [hp7.out]))
  have s3 : w2.heap.size + 1 ≤ w3.heap.size := by have := hb3.size; rw [World.size_alloc] at this; exact this
  have k6 : (w3.alloc (.cells lY.toArray 24)).heap[w2.heap.size]? = some (.cells lX.toArray 24 (0, 0)) := by
    rw [Below.heap_alloc _ _ _ (by omega), hb3.block _ (by rw [World.size_alloc]; omega)]
    exact heap_alloc_new w2 _
  have k7 : (w3.alloc (.cells lY.toArray 24)).heap[w3.heap.size]? = some (.cells lY.toArray 24 (0, 0)) := heap_alloc_new w3 _
  have l6 : w2.heap.size < (w3.alloc (.cells lY.toArray 24)).heap.size := by rw [World.size_alloc]; omega
  have l7 : w3.heap.size < (w3.alloc (.cells lY.toArray 24)).heap.size := by rw [World.size_alloc]; omega
  generalize w3.alloc (.cells lY.toArray 24) = W at *
  generalize w2.heap.size = g6 at *
  generalize w3.heap.size = g7 at *
  have hXd : Below w.heap.size w W.drew := b3'.drew
  have hX0 : Below W.drew.heap.size W.drew W.drew := Below.refl _ _
  have l6 : g6 < W.drew.heap.size := l6
  have l7 : g7 < W.drew.heap.size := l7
  have k6 : W.drew.heap[g6]? = some (.cells lX.toArray 24 (0, 0)) := k6
  have k7 : W.drew.heap[g7]? = some (.cells lY.toArray 24 (0, 0)) := k7
  refine wp_region_held_drew (S := fun w' => Below W.drew.heap.size W.drew w') (by kernel_rfl) (Below.refl _ _) (fun hS => ?_)
  generalize W.drew = X at *
  have BX := Lib.hid hXd
  have up : ∀ w9, Below X.heap.size X w9 → Below w.heap.size w w9 := fun w9 h9 => hXd.trans (h9.mono hXd.size)
  have CX := Lib.hid (fun (w9 : World) (h9 : Below X.heap.size X w9) => RNG.out w9 g6 _ (by rw [h9.block g6 l6]; exact k6))
  have CY := Lib.hid (fun (w9 : World) (h9 : Below X.heap.size X w9) => RNG.out w9 g7 _ (by rw [h9.block g7 l7]; exact k7))
  have CB := Lib.hid (fun (w9 : World) (h9 : Below X.heap.size X w9) => CVB.out w9 (up w9 h9))
  have CC := Lib.hid (fun (w9 : World) (h9 : Below X.heap.size X w9) => CVC.out w9 (up w9 h9))
  have YB := Lib.hid (fun (w9 : World) (h9 : Below X.heap.size X w9) => YBW.out w9 (up w9 h9))
  have C2 := Lib.hid (fun (w9 : World) (h9 : Below X.heap.size X w9) => SO.out w9 (up w9 h9))
  have C8 := Lib.hid (fun (w9 : World) (h9 : Below X.heap.size X w9) => S8.out w9 (up w9 h9))

  clear hXd up CVB CVC YBW SO S8 SB SC AW RNG k6 k7 l6 l7 hb1 hb2 hb3 b2 b2' b3 b3' s3 hp6 hp7 hn6 hn7
  refine wpAnyH_take (i := 0) (oi := ⟨some 26, _, _, _, _, _⟩) (v := ?_) rfl (by kernel_rfl) (by kernel_rfl) (by kernel_rfl) (fun _ _ _ h => h) (Or.inl ⟨by rfl, ?_⟩) hS ?_; rotate_left; (focus (intro w9 hSw; (try dsimp only at hSw); go_simp; try with_reducible rfl)); simp only [Act.put, List.setIfInBounds_toArray, List.set_cons_zero, List.set_cons_succ]
  refine wpAnyH_take (i := 1) (oi := ⟨some 27, _, _, _, _, _⟩) (v := ?_) rfl (by kernel_rfl) (by kernel_rfl) (by kernel_rfl) (fun _ _ _ h => h) (Or.inl ⟨by rfl, ?_⟩) hS ?_; rotate_left; (focus (intro w9 hSw; (try dsimp only at hSw); have s9 := CB.out w9 hSw; go_simp; try with_reducible rfl)); simp only [Act.put, List.setIfInBounds_toArray, List.set_cons_zero, List.set_cons_succ]
  refine wpAnyH_take (i := 3) (oi := ⟨some 29, _, _, _, _, _⟩) rfl (by kernel_rfl) (by kernel_rfl) (by kernel_rfl) (fun _ _ _ h => h) (yieldsIf_load_mid (by rfl) _ _ rfl g6 0 rfl lX _ (fun w9 hSw => CX.out w9 hSw) Tryd.underlying24 rfl ILlX.out) hS ?_; simp only [Act.put, List.setIfInBounds_toArray, List.set_cons_zero, List.set_cons_succ]
  refine wpAnyH_ready (rs := [2]) (by kernel_rfl) (by simp) (AllReadyH.cons (o := ⟨some 28, _, _, _, _, _⟩) rfl (fun K hK => ?_) AllReadyH.nil)
  go_simp
  refine (C2.out _ hS).mono ?_
  rintro e x2 ⟨rfl, hb2⟩
  have hS2 : Below X.heap.size X x2 := hS.trans (hb2.mono hS.size)
  refine hK.out _ _ hS2 (fun _ => ?_)
  clear hK K hb2 hS
  have hS := hS2
  refine wpAnyH_take (i := 4) (oi := ⟨some 30, _, _, _, _, _⟩) (v := ?_) rfl (by kernel_rfl) (by kernel_rfl) (by kernel_rfl) (fun _ _ _ h => h) (Or.inl ⟨by rfl, ?_⟩) hS ?_; rotate_left; (focus (intro w9 hSw; (try dsimp only at hSw); have s9 := EX.out w9; go_simp; try with_reducible rfl)); simp only [Act.put, List.setIfInBounds_toArray, List.set_cons_zero, List.set_cons_succ]
  refine wpAnyH_take (i := 5) (oi := ⟨some 31, _, _, _, _, _⟩) (v := ?_) rfl (by kernel_rfl) (by kernel_rfl) (by kernel_rfl) (fun _ _ _ h => h) (Or.inl ⟨by rfl, ?_⟩) hS ?_; rotate_left; (focus (intro w9 hSw; (try dsimp only at hSw); go_simp; try with_reducible rfl)); simp only [Act.put, List.setIfInBounds_toArray, List.set_cons_zero, List.set_cons_succ]
  refine wpAnyH_take (i := 6) (oi := ⟨some 32, _, _, _, _, _⟩) (v := ?_) rfl (by kernel_rfl) (by kernel_rfl) (by kernel_rfl) (fun _ _ _ h => h) (Or.inl ⟨by rfl, ?_⟩) hS ?_; rotate_left; (focus (intro w9 hSw; (try dsimp only at hSw); go_simp; try with_reducible rfl)); simp only [Act.put, List.setIfInBounds_toArray, List.set_cons_zero, List.set_cons_succ]
  refine wpAnyH_take (i := 9) (oi := ⟨some 35, _, _, _, _, _⟩) rfl (by kernel_rfl) (by kernel_rfl) (by kernel_rfl) (fun _ _ _ h => h) (yieldsIf_load_mid (by rfl) _ _ rfl g6 0 rfl lX _ (fun w9 hSw => CX.out w9 hSw) Tryd.underlying24 rfl ILlX.out) hS ?_; simp only [Act.put, List.setIfInBounds_toArray, List.set_cons_zero, List.set_cons_succ]
  refine wpAnyH_ready (rs := [7]) (by kernel_rfl) (by simp) (AllReadyH.cons (o := ⟨some 33, _, _, _, _, _⟩) rfl (fun K hK => ?_) AllReadyH.nil)
  refine step_append_if (o := ⟨some 33, _, _, _, _, _⟩) (by rfl) _ _ 22 rfl X.heap.size 5 i0 Tryd.underlying22 hi hz0 hz1 hz2 _ 0 [] rfl (World.ownsRow_nil _ _ _ _) B ad lenb capb zb rfl (YB.out _ hS) HLb.out (by omega) hS.size ?_
  intro v3 x3 hown3 hg3
  rw [Nat.zero_add, List.nil_append] at hown3
  have hb3 := (Below.refl x2.heap.size x2).grown hg3 (Nat.le_refl _) (fun g hg => by cases hg)
  have hS3 : Below X.heap.size X x3 := hS.trans (hb3.mono hS.size)
  obtain ⟨A3, n3, c3, hv3, hn3, hnc3, hcm3, ho3, _⟩ := gives_own hown3 hS3
  injection hv3 with hv3
  subst hv3
  refine hK.out _ _ hS3 (fun _ => ?_)
  clear hK K hS
  have hS := hS3
  refine wpAnyH_ready (rs := [8]) (by kernel_rfl) (by simp) (AllReadyH.cons (o := ⟨some 34, _, _, _, _, _⟩) rfl (fun K hK => ?_) AllReadyH.nil)
  go_simp
  refine (C8.out _ hS A3 n3 c3 (Byt.own ho3) hn3 hnc3 hcm3 (own_nil ho3)).mono ?_
  rintro e x8 ⟨rfl, hb8⟩
  have hS8 : Below X.heap.size X x8 := hS.trans (hb8.mono hS.size)
  refine hK.out _ _ hS8 (fun _ => ?_)
  clear hK K hb8 hS
  have hS := hS8
  refine wpAnyH_take (i := 10) (oi := ⟨some 36, _, _, _, _, _⟩) (v := ?_) rfl (by kernel_rfl) (by kernel_rfl) (by kernel_rfl) (fun _ _ _ h => h) (Or.inl ⟨by rfl, ?_⟩) hS ?_; rotate_left; (focus (intro w9 hSw; (try dsimp only at hSw); have s9 := EX.out w9; go_simp; try with_reducible rfl)); simp only [Act.put, List.setIfInBounds_toArray, List.set_cons_zero, List.set_cons_succ]
  refine wpAnyH_take (i := 11) (oi := ⟨some 37, _, _, _, _, _⟩) (v := ?_) rfl (by kernel_rfl) (by kernel_rfl) (by kernel_rfl) (fun _ _ _ h => h) (Or.inl ⟨by rfl, ?_⟩) hS ?_; rotate_left; (focus (intro w9 hSw; (try dsimp only at hSw); go_simp; try with_reducible rfl)); simp only [Act.put, List.setIfInBounds_toArray, List.set_cons_zero, List.set_cons_succ]
  refine wpAnyH_take (i := 12) (oi := ⟨some 38, _, _, _, _, _⟩) (v := ?_) rfl (by kernel_rfl) (by kernel_rfl) (by kernel_rfl) (fun _ _ _ h => h) (Or.inl ⟨by rfl, ?_⟩) hS ?_; rotate_left; (focus (intro w9 hSw; (try dsimp only at hSw); go_simp; try with_reducible rfl)); simp only [Act.put, List.setIfInBounds_toArray, List.set_cons_zero, List.set_cons_succ]
  refine wpAnyH_take (i := 13) (oi := ⟨some 39, _, _, _, _, _⟩) (v := ?_) rfl (by kernel_rfl) (by kernel_rfl) (by kernel_rfl) (fun _ _ _ h => h) (Or.inl ⟨by rfl, ?_⟩) hS ?_; rotate_left; (focus (intro w9 hSw; (try dsimp only at hSw); go_simp; try with_reducible rfl)); simp only [Act.put, List.setIfInBounds_toArray, List.set_cons_zero, List.set_cons_succ]
  refine wpAnyH_take (i := 14) (oi := ⟨some 40, _, _, _, _, _⟩) (v := ?_) rfl (by kernel_rfl) (by kernel_rfl) (by kernel_rfl) (fun _ _ _ h => h) (Or.inl ⟨by rfl, ?_⟩) hS ?_; rotate_left; (focus (intro w9 hSw; (try dsimp only at hSw); have s9 := CB.out w9 hSw; go_simp; try with_reducible rfl)); simp only [Act.put, List.setIfInBounds_toArray, List.set_cons_zero, List.set_cons_succ]
  refine wpAnyH_take (i := 15) (oi := ⟨some 41, _, _, _, _, _⟩) (v := ?_) rfl (by kernel_rfl) (by kernel_rfl) (by kernel_rfl) (fun _ _ _ h => h) (Or.inl ⟨by rfl, ?_⟩) hS ?_; rotate_left; (focus (intro w9 hSw; (try dsimp only at hSw); go_simp; try with_reducible rfl)); simp only [Act.put, List.setIfInBounds_toArray, List.set_cons_zero, List.set_cons_succ]
  refine wpAnyH_take (i := 16) (oi := ⟨some 42, _, _, _, _, _⟩) (v := ?_) rfl (by kernel_rfl) (by kernel_rfl) (by kernel_rfl) (fun _ _ _ h => h) (Or.inl ⟨by rfl, ?_⟩) hS ?_; rotate_left; (focus (intro w9 hSw; (try dsimp only at hSw); have s9 := CC.out w9 hSw; go_simp; try with_reducible rfl)); simp only [Act.put, List.setIfInBounds_toArray, List.set_cons_zero, List.set_cons_succ]
  refine wpAnyH_take (i := 17) (oi := ⟨some 43, _, _, _, _, _⟩) (v := ?_) rfl (by kernel_rfl) (by kernel_rfl) (by kernel_rfl) (fun _ _ _ h => h) (Or.inl ⟨by rfl, ?_⟩) hS ?_; rotate_left; (focus (intro w9 hSw; (try dsimp only at hSw); have s9 := HT.out; go_simp; try with_reducible rfl)); simp only [Act.put, List.setIfInBounds_toArray, List.set_cons_zero, List.set_cons_succ]
  refine wpAnyH_take (i := 18) (oi := ⟨some 44, _, _, _, _, _⟩) (v := ?_) rfl (by kernel_rfl) (by kernel_rfl) (by kernel_rfl) (fun _ _ _ h => h) (Or.inl ⟨by rfl, ?_⟩) hS ?_; rotate_left; (focus (intro w9 hSw; (try dsimp only at hSw); go_simp; try with_reducible rfl)); simp only [Act.put, List.setIfInBounds_toArray, List.set_cons_zero, List.set_cons_succ]
  refine wpAnyH_take (i := 19) (oi := ⟨some 45, _, _, _, _, _⟩) rfl (by kernel_rfl) (by kernel_rfl) (by kernel_rfl) (fun _ _ _ h => h) (yieldsIf_load_mid (by rfl) _ _ rfl g6 0 rfl lX _ (fun w9 hSw => CX.out w9 hSw) Tryd.underlying24 rfl ILlX.out) hS ?_; simp only [Act.put, List.setIfInBounds_toArray, List.set_cons_zero, List.set_cons_succ]
  refine wpAnyH_take (i := 20) (oi := ⟨some 46, _, _, _, _, _⟩) rfl (by kernel_rfl) (by kernel_rfl) (by kernel_rfl) (fun _ _ _ h => h) (yieldsIf_load_mid (by rfl) _ _ rfl g7 0 rfl lY _ (fun w9 hSw => CY.out w9 hSw) Tryd.underlying24 rfl ILlY.out) hS ?_; simp only [Act.put, List.setIfInBounds_toArray, List.set_cons_zero, List.set_cons_succ]
  refine wpAnyH_take (i := 21) (oi := ⟨some 47, _, _, _, _, _⟩) (v := ?_) rfl (by kernel_rfl) (by kernel_rfl) (by kernel_rfl) (fun _ _ _ h => h) (Or.inl ⟨by rfl, ?_⟩) hS ?_; rotate_left; (focus (intro w9 hSw; (try dsimp only at hSw); have s9 := EXY.out w9; go_simp; try with_reducible rfl)); simp only [Act.put, List.setIfInBounds_toArray, List.set_cons_zero, List.set_cons_succ]
  refine wpAnyH_take (i := 22) (oi := ⟨some 48, _, _, _, _, _⟩) (v := ?_) rfl (by kernel_rfl) (by kernel_rfl) (by kernel_rfl) (fun _ _ _ h => h) (Or.inl ⟨by rfl, ?_⟩) hS ?_; rotate_left; (focus (intro w9 hSw; (try dsimp only at hSw); go_simp; try with_reducible rfl)); simp only [Act.put, List.setIfInBounds_toArray, List.set_cons_zero, List.set_cons_succ]
  refine wpAnyH_take (i := 23) (oi := ⟨some 49, _, _, _, _, _⟩) (v := ?_) rfl (by kernel_rfl) (by kernel_rfl) (by kernel_rfl) (fun _ _ _ h => h) (Or.inl ⟨by rfl, ?_⟩) hS ?_; rotate_left; (focus (intro w9 hSw; (try dsimp only at hSw); go_simp; try with_reducible rfl)); simp only [Act.put, List.setIfInBounds_toArray, List.set_cons_zero, List.set_cons_succ]
  refine wpAnyH_take (i := 24) (oi := ⟨some 4, _, _, _, _, _⟩) (v := ?_) rfl (by kernel_rfl) (by kernel_rfl) (by kernel_rfl) (fun _ _ _ h => h) (Or.inl ⟨by rfl, ?_⟩) hS ?_; rotate_left; (focus (intro w9 hSw; (try dsimp only at hSw); go_simp; try with_reducible rfl)); simp only [Act.put, List.setIfInBounds_toArray, List.set_cons_zero, List.set_cons_succ]
  refine wpAnyH_done (by kernel_rfl) ?_ _
  go_wp2
  go_ret
  exact ⟨rfl, BX.out.trans (hS.mono BX.out.size)⟩
set_option maxHeartbeats 4000000 in
set_option maxRecDepth 100000 in
theorem same_no {B : Nat} (ad : Addr) (lenb capb : Nat) (a1 : Option Addr) (lenc capc : Nat) (zb zc : List Int) (w : World) (hlaid : Laid w)
    (yb : Byt w B (some ad) zb) (lb : zb.length = lenb) (bb : AllBytes zb) (hbc : lenb ≤ capb) (hbm : capb ≤ maxLen) (nb : (some ad) = none → capb = 0) (hB : B ≤ w.heap.size)
    (yc : Byt w B a1 zc) (lc : zc.length = lenc) (bc : AllBytes zc) (hcc : lenc ≤ capc) (hcm : capc ≤ maxLen) (nc : a1 = none → capc = 0) (h3 : lenb ≤ 300) (h4 : lenc ≤ 300) (he : ¬ zb = zc) :
    Calls Tryd.prog 4 #[.slice (some ad) lenb capb, .slice a1 lenc capc] w fun e w' => e = .returned (.bool true) ∧ Below w.heap.size w w' := by
  obtain ⟨i0, hi, hz0, hz1, hz2⟩ := info_parts infoByte
  have hz := zeroD
  have AW := Lib.hid (awake_any w hlaid)
  have SB := Lib.hid (fun (X : World) (hX : Below w.heap.size w X) => dsum_any (some ad) lenb capb zb X (hlaid.below hX (Nat.le_refl _)) (yb.below (hX.mono hB)) lb hbc hbm (by omega) nb bb (Nat.le_trans hB hX.size))
  have SC := Lib.hid (fun (X : World) (hX : Below w.heap.size w X) => dsum_any a1 lenc capc zc X (hlaid.below hX (Nat.le_refl _)) (yc.below (hX.mono hB)) lc hcc hcm (by omega) nc bc (Nat.le_trans hB hX.size))
  have SO := Lib.hid (fun (X : World) (hX : Below w.heap.size w X) => of_any (strOfNums zb) X (hlaid.below hX (Nat.le_refl _)) (by have := nums_len (strOfNums zb); rw [nums_str bb] at this; omega))
  have S8 := Lib.hid (fun (X : World) (hX : Below w.heap.size w X) (A3 : Option Addr) (n3 c3 : Nat) (hy : Byt X X.heap.size A3 zb) (h1 : zb.length = n3) (h2 : n3 ≤ c3) (h3 : c3 ≤ maxLen) (h4 : A3 = none → c3 = 0) => dsum_any A3 n3 c3 zb X (hlaid.below hX (Nat.le_refl _)) hy h1 h2 h3 (by omega) h4 bb (Nat.le_refl _))
  unfold DSumPost at SB SC SO S8
  rw [nums_str bb] at SO
  have eqx := eq_dig (SH.sum_bytes zb) (SH.sum_bytes zb) (SH.sum_len zb) (SH.sum_len zb)
  have eqxy := eq_dig (SH.sum_bytes zb) (SH.sum_bytes zc) (SH.sum_len zb) (SH.sum_len zc)
  rw [show (SH.sum zb == SH.sum zb) = true by simp] at eqx

  have HT := Lib.hid (show ((strOfNums zb).toList == (strOfNums zc).toList) = false by rw [str_eq bb bc]; simp [he])
  have CVB := Lib.hid (fun (X : World) (hX : Below w.heap.size w X) => (yb.below (hX.mono hB)).text (P := Tryd.prog) (len := lenb) (cap := capb) lb 22 5 9 Tryd.underlying22 Tryd.underlying5 Tryd.underlying9)
  have CVC := Lib.hid (fun (X : World) (hX : Below w.heap.size w X) => (yc.below (hX.mono hB)).text (P := Tryd.prog) (len := lenc) (cap := capc) lc 22 5 9 Tryd.underlying22 Tryd.underlying5 Tryd.underlying9)
  have YBW := Lib.hid (fun (X : World) (hX : Below w.heap.size w X) => yb.below (hX.mono hB))
  have HLb := Lib.hid lb
  obtain ⟨lX, hlX⟩ : ∃ lX, lX = (SH.sum zb).map (Value.int .u8) := ⟨_, rfl⟩
  obtain ⟨lY, hlY⟩ : ∃ lY, lY = (SH.sum zc).map (Value.int .u8) := ⟨_, rfl⟩
  have I6 := Lib.hid (show (Tryd.prog.info? 24).map (·.size) = some (bvals (SH.sum zb)).size by rw [sizeD, bvals_size, SH.sum_len])
  have Z6 := Lib.hid (show (bvals (List.replicate 32 0)).size = (bvals (SH.sum zb)).size by rw [bvals_size, bvals_size, SH.sum_len, List.length_replicate])
  have O6 := Lib.hid (bvals_one (SH.sum zb))
  have I7 := Lib.hid (show (Tryd.prog.info? 24).map (·.size) = some (bvals (SH.sum zc)).size by rw [sizeD, bvals_size, SH.sum_len])
  have Z7 := Lib.hid (show (bvals (List.replicate 32 0)).size = (bvals (SH.sum zc)).size by rw [bvals_size, bvals_size, SH.sum_len, List.length_replicate])
  have O7 := Lib.hid (bvals_one (SH.sum zc))
  have ILlX := Lib.hid (show (Tryd.prog.info? 24).map (·.size) = some lX.length by rw [sizeD, hlX, List.length_map, SH.sum_len])
  have ILlY := Lib.hid (show (Tryd.prog.info? 24).map (·.size) = some lY.length by rw [sizeD, hlY, List.length_map, SH.sum_len])
  have RNG := Lib.hid (fun (X : World) (g : Nat) (V : Array Value) (h : X.heap[g]? = some (.cells V 24 (0, 0))) => (fun j v hj => by rw [Nat.zero_add, cell_of_row X g j _ _ _ h]; simpa using hj : X.rangeAt g 0 V.toList))
  have eX : bvals (SH.sum zb) = lX.toArray := by rw [hlX]; rfl
  have eY : bvals (SH.sum zc) = lY.toArray := by rw [hlY]; rfl
  rw [eX] at SB SO S8 eqx eqxy I6 Z6 O6
  rw [eY] at SC eqxy I7 Z7 O7
  have EX := Lib.hid eqx
  have EXY := Lib.hid eqxy
  clear eqx eqxy eX eY hlX hlY hlaid yb yc bb bc lb lc he nb nc
  generalize strOfNums zb = TB at *
  generalize strOfNums zc = TC at *
  generalize bvals (List.replicate 32 0) = Z32 at *
  go_enter Tryd.func4, Tryd.ntmps4
  go_wp2_with fail
  refine AW.out.mono ?_
  rintro e w1 ⟨rfl, hb1⟩
  go_wp2_with fail
  refine (SB.out _ hb1).mono ?_
  rintro e w2 ⟨rfl, hb2⟩
  have b2 := hb1.trans (hb2.mono hb1.size)
  have hp6 := Lib.hid (putD w2 Z32 lX.toArray)
  have hn6 := Lib.hid (heap_alloc_new w2 (.cells Z32 24))
  have b2' := b2.alloc b2.size (.cells lX.toArray 24)
  go_wp2_with (first | ((with_reducible refine wpList_store_row (o := ⟨none, .store 24 (.tmp 6) (.tmp 23), _, _, _, _⟩) ?e1 24 (.tmp 6) (.tmp 23) ?e2 w2.heap.size lX.toArray ?e3 ?e4 24 Z32 hn6.out I6.out Z6.out O6.out ?_); (case e1 => rfl); (case e2 => rfl); (case e3 => rfl); (case e4 => rfl); rw [hp6.out]))
  refine (SC.out _ b2').mono ?_
  rintro e w3 ⟨rfl, hb3⟩
  have b3 := b2'.trans (hb3.mono b2'.size)
  have hp7 := Lib.hid (putD w3 Z32 lY.toArray)
  have hn7 := Lib.hid (heap_alloc_new w3 (.cells Z32 24))
  have b3' := b3.alloc b3.size (.cells lY.toArray 24)
  go_wp2_with (first | ((with_reducible refine wpList_store_row (o := ⟨none, .store 24 (.tmp 7) (.tmp 25), _, _, _, _⟩) ?e1 24 (.tmp 7) (.tmp 25) ?e2 w3.heap.size lY.toArray ?e3 ?e4 24 Z32 hn7.out I7.out Z7.out O7.out ?_); (case e1 => rfl); (case e2 => rfl); (case e3 => rfl); (case e4 => rfl); rw [hp7.out]))
  have s3 : w2.heap.size + 1 ≤ w3.heap.size := by have := hb3.size; rw [World.size_alloc] at this; exact this
  have k6 : (w3.alloc (.cells lY.toArray 24)).heap[w2.heap.size]? = some (.cells lX.toArray 24 (0, 0)) := by
    rw [Below.heap_alloc _ _ _ (by omega), hb3.block _ (by rw [World.size_alloc]; omega)]
    exact heap_alloc_new w2 _
  have k7 : (w3.alloc (.cells lY.toArray 24)).heap[w3.heap.size]? = some (.cells lY.toArray 24 (0, 0)) := heap_alloc_new w3 _
  have l6 : w2.heap.size < (w3.alloc (.cells lY.toArray 24)).heap.size := by rw [World.size_alloc]; omega
  have l7 : w3.heap.size < (w3.alloc (.cells lY.toArray 24)).heap.size := by rw [World.size_alloc]; omega
  generalize w3.alloc (.cells lY.toArray 24) = W at *
  generalize w2.heap.size = g6 at *
  generalize w3.heap.size = g7 at *
  have hXd : Below w.heap.size w W.drew := b3'.drew
  have hX0 : Below W.drew.heap.size W.drew W.drew := Below.refl _ _
  have l6 : g6 < W.drew.heap.size := l6
  have l7 : g7 < W.drew.heap.size := l7
  have k6 : W.drew.heap[g6]? = some (.cells lX.toArray 24 (0, 0)) := k6
  have k7 : W.drew.heap[g7]? = some (.cells lY.toArray 24 (0, 0)) := k7
  refine wp_region_held_drew (S := fun w' => Below W.drew.heap.size W.drew w') (by kernel_rfl) (Below.refl _ _) (fun hS => ?_)
  generalize W.drew = X at *
  have BX := Lib.hid hXd
  have up : ∀ w9, Below X.heap.size X w9 → Below w.heap.size w w9 := fun w9 h9 => hXd.trans (h9.mono hXd.size)
  have CX := Lib.hid (fun (w9 : World) (h9 : Below X.heap.size X w9) => RNG.out w9 g6 _ (by rw [h9.block g6 l6]; exact k6))
  have CY := Lib.hid (fun (w9 : World) (h9 : Below X.heap.size X w9) => RNG.out w9 g7 _ (by rw [h9.block g7 l7]; exact k7))
  have CB := Lib.hid (fun (w9 : World) (h9 : Below X.heap.size X w9) => CVB.out w9 (up w9 h9))
  have CC := Lib.hid (fun (w9 : World) (h9 : Below X.heap.size X w9) => CVC.out w9 (up w9 h9))
  have YB := Lib.hid (fun (w9 : World) (h9 : Below X.heap.size X w9) => YBW.out w9 (up w9 h9))
  have C2 := Lib.hid (fun (w9 : World) (h9 : Below X.heap.size X w9) => SO.out w9 (up w9 h9))
  have C8 := Lib.hid (fun (w9 : World) (h9 : Below X.heap.size X w9) => S8.out w9 (up w9 h9))

  clear hXd up CVB CVC YBW SO S8 SB SC AW RNG k6 k7 l6 l7 hb1 hb2 hb3 b2 b2' b3 b3' s3 hp6 hp7 hn6 hn7
  refine wpAnyH_take (i := 0) (oi := ⟨some 26, _, _, _, _, _⟩) (v := ?_) rfl (by kernel_rfl) (by kernel_rfl) (by kernel_rfl) (fun _ _ _ h => h) (Or.inl ⟨by rfl, ?_⟩) hS ?_; rotate_left; (focus (intro w9 hSw; (try dsimp only at hSw); go_simp; try with_reducible rfl)); simp only [Act.put, List.setIfInBounds_toArray, List.set_cons_zero, List.set_cons_succ]
  refine wpAnyH_take (i := 1) (oi := ⟨some 27, _, _, _, _, _⟩) (v := ?_) rfl (by kernel_rfl) (by kernel_rfl) (by kernel_rfl) (fun _ _ _ h => h) (Or.inl ⟨by rfl, ?_⟩) hS ?_; rotate_left; (focus (intro w9 hSw; (try dsimp only at hSw); have s9 := CB.out w9 hSw; go_simp; try with_reducible rfl)); simp only [Act.put, List.setIfInBounds_toArray, List.set_cons_zero, List.set_cons_succ]
  refine wpAnyH_take (i := 3) (oi := ⟨some 29, _, _, _, _, _⟩) rfl (by kernel_rfl) (by kernel_rfl) (by kernel_rfl) (fun _ _ _ h => h) (yieldsIf_load_mid (by rfl) _ _ rfl g6 0 rfl lX _ (fun w9 hSw => CX.out w9 hSw) Tryd.underlying24 rfl ILlX.out) hS ?_; simp only [Act.put, List.setIfInBounds_toArray, List.set_cons_zero, List.set_cons_succ]
  refine wpAnyH_ready (rs := [2]) (by kernel_rfl) (by simp) (AllReadyH.cons (o := ⟨some 28, _, _, _, _, _⟩) rfl (fun K hK => ?_) AllReadyH.nil)
  go_simp
  refine (C2.out _ hS).mono ?_
  rintro e x2 ⟨rfl, hb2⟩
  have hS2 : Below X.heap.size X x2 := hS.trans (hb2.mono hS.size)
  refine hK.out _ _ hS2 (fun _ => ?_)
  clear hK K hb2 hS
  have hS := hS2
  refine wpAnyH_take (i := 4) (oi := ⟨some 30, _, _, _, _, _⟩) (v := ?_) rfl (by kernel_rfl) (by kernel_rfl) (by kernel_rfl) (fun _ _ _ h => h) (Or.inl ⟨by rfl, ?_⟩) hS ?_; rotate_left; (focus (intro w9 hSw; (try dsimp only at hSw); have s9 := EX.out w9; go_simp; try with_reducible rfl)); simp only [Act.put, List.setIfInBounds_toArray, List.set_cons_zero, List.set_cons_succ]
  refine wpAnyH_take (i := 5) (oi := ⟨some 31, _, _, _, _, _⟩) (v := ?_) rfl (by kernel_rfl) (by kernel_rfl) (by kernel_rfl) (fun _ _ _ h => h) (Or.inl ⟨by rfl, ?_⟩) hS ?_; rotate_left; (focus (intro w9 hSw; (try dsimp only at hSw); go_simp; try with_reducible rfl)); simp only [Act.put, List.setIfInBounds_toArray, List.set_cons_zero, List.set_cons_succ]
  refine wpAnyH_take (i := 6) (oi := ⟨some 32, _, _, _, _, _⟩) (v := ?_) rfl (by kernel_rfl) (by kernel_rfl) (by kernel_rfl) (fun _ _ _ h => h) (Or.inl ⟨by rfl, ?_⟩) hS ?_; rotate_left; (focus (intro w9 hSw; (try dsimp only at hSw); go_simp; try with_reducible rfl)); simp only [Act.put, List.setIfInBounds_toArray, List.set_cons_zero, List.set_cons_succ]
  refine wpAnyH_take (i := 9) (oi := ⟨some 35, _, _, _, _, _⟩) rfl (by kernel_rfl) (by kernel_rfl) (by kernel_rfl) (fun _ _ _ h => h) (yieldsIf_load_mid (by rfl) _ _ rfl g6 0 rfl lX _ (fun w9 hSw => CX.out w9 hSw) Tryd.underlying24 rfl ILlX.out) hS ?_; simp only [Act.put, List.setIfInBounds_toArray, List.set_cons_zero, List.set_cons_succ]
  refine wpAnyH_ready (rs := [7]) (by kernel_rfl) (by simp) (AllReadyH.cons (o := ⟨some 33, _, _, _, _, _⟩) rfl (fun K hK => ?_) AllReadyH.nil)
  refine step_append_if (o := ⟨some 33, _, _, _, _, _⟩) (by rfl) _ _ 22 rfl X.heap.size 5 i0 Tryd.underlying22 hi hz0 hz1 hz2 _ 0 [] rfl (World.ownsRow_nil _ _ _ _) B ad lenb capb zb rfl (YB.out _ hS) HLb.out (by omega) hS.size ?_
  intro v3 x3 hown3 hg3
  rw [Nat.zero_add, List.nil_append] at hown3
  have hb3 := (Below.refl x2.heap.size x2).grown hg3 (Nat.le_refl _) (fun g hg => by cases hg)
  have hS3 : Below X.heap.size X x3 := hS.trans (hb3.mono hS.size)
  obtain ⟨A3, n3, c3, hv3, hn3, hnc3, hcm3, ho3, _⟩ := gives_own hown3 hS3
  injection hv3 with hv3
  subst hv3
  refine hK.out _ _ hS3 (fun _ => ?_)
  clear hK K hS
  have hS := hS3
  refine wpAnyH_ready (rs := [8]) (by kernel_rfl) (by simp) (AllReadyH.cons (o := ⟨some 34, _, _, _, _, _⟩) rfl (fun K hK => ?_) AllReadyH.nil)
  go_simp
  refine (C8.out _ hS A3 n3 c3 (Byt.own ho3) hn3 hnc3 hcm3 (own_nil ho3)).mono ?_
  rintro e x8 ⟨rfl, hb8⟩
  have hS8 : Below X.heap.size X x8 := hS.trans (hb8.mono hS.size)
  refine hK.out _ _ hS8 (fun _ => ?_)
  clear hK K hb8 hS
  have hS := hS8
  refine wpAnyH_take (i := 10) (oi := ⟨some 36, _, _, _, _, _⟩) (v := ?_) rfl (by kernel_rfl) (by kernel_rfl) (by kernel_rfl) (fun _ _ _ h => h) (Or.inl ⟨by rfl, ?_⟩) hS ?_; rotate_left; (focus (intro w9 hSw; (try dsimp only at hSw); have s9 := EX.out w9; go_simp; try with_reducible rfl)); simp only [Act.put, List.setIfInBounds_toArray, List.set_cons_zero, List.set_cons_succ]
  refine wpAnyH_take (i := 11) (oi := ⟨some 37, _, _, _, _, _⟩) (v := ?_) rfl (by kernel_rfl) (by kernel_rfl) (by kernel_rfl) (fun _ _ _ h => h) (Or.inl ⟨by rfl, ?_⟩) hS ?_; rotate_left; (focus (intro w9 hSw; (try dsimp only at hSw); go_simp; try with_reducible rfl)); simp only [Act.put, List.setIfInBounds_toArray, List.set_cons_zero, List.set_cons_succ]
  refine wpAnyH_take (i := 12) (oi := ⟨some 38, _, _, _, _, _⟩) (v := ?_) rfl (by kernel_rfl) (by kernel_rfl) (by kernel_rfl) (fun _ _ _ h => h) (Or.inl ⟨by rfl, ?_⟩) hS ?_; rotate_left; (focus (intro w9 hSw; (try dsimp only at hSw); go_simp; try with_reducible rfl)); simp only [Act.put, List.setIfInBounds_toArray, List.set_cons_zero, List.set_cons_succ]
  refine wpAnyH_take (i := 13) (oi := ⟨some 39, _, _, _, _, _⟩) (v := ?_) rfl (by kernel_rfl) (by kernel_rfl) (by kernel_rfl) (fun _ _ _ h => h) (Or.inl ⟨by rfl, ?_⟩) hS ?_; rotate_left; (focus (intro w9 hSw; (try dsimp only at hSw); go_simp; try with_reducible rfl)); simp only [Act.put, List.setIfInBounds_toArray, List.set_cons_zero, List.set_cons_succ]
  refine wpAnyH_take (i := 14) (oi := ⟨some 40, _, _, _, _, _⟩) (v := ?_) rfl (by kernel_rfl) (by kernel_rfl) (by kernel_rfl) (fun _ _ _ h => h) (Or.inl ⟨by rfl, ?_⟩) hS ?_; rotate_left; (focus (intro w9 hSw; (try dsimp only at hSw); have s9 := CB.out w9 hSw; go_simp; try with_reducible rfl)); simp only [Act.put, List.setIfInBounds_toArray, List.set_cons_zero, List.set_cons_succ]
  refine wpAnyH_take (i := 15) (oi := ⟨some 41, _, _, _, _, _⟩) (v := ?_) rfl (by kernel_rfl) (by kernel_rfl) (by kernel_rfl) (fun _ _ _ h => h) (Or.inl ⟨by rfl, ?_⟩) hS ?_; rotate_left; (focus (intro w9 hSw; (try dsimp only at hSw); go_simp; try with_reducible rfl)); simp only [Act.put, List.setIfInBounds_toArray, List.set_cons_zero, List.set_cons_succ]
  refine wpAnyH_take (i := 16) (oi := ⟨some 42, _, _, _, _, _⟩) (v := ?_) rfl (by kernel_rfl) (by kernel_rfl) (by kernel_rfl) (fun _ _ _ h => h) (Or.inl ⟨by rfl, ?_⟩) hS ?_; rotate_left; (focus (intro w9 hSw; (try dsimp only at hSw); have s9 := CC.out w9 hSw; go_simp; try with_reducible rfl)); simp only [Act.put, List.setIfInBounds_toArray, List.set_cons_zero, List.set_cons_succ]
  refine wpAnyH_take (i := 17) (oi := ⟨some 43, _, _, _, _, _⟩) (v := ?_) rfl (by kernel_rfl) (by kernel_rfl) (by kernel_rfl) (fun _ _ _ h => h) (Or.inl ⟨by rfl, ?_⟩) hS ?_; rotate_left; (focus (intro w9 hSw; (try dsimp only at hSw); have s9 := HT.out; go_simp; try with_reducible rfl)); simp only [Act.put, List.setIfInBounds_toArray, List.set_cons_zero, List.set_cons_succ]
  refine wpAnyH_take (i := 18) (oi := ⟨some 44, _, _, _, _, _⟩) (v := ?_) rfl (by kernel_rfl) (by kernel_rfl) (by kernel_rfl) (fun _ _ _ h => h) (Or.inl ⟨by rfl, ?_⟩) hS ?_; rotate_left; (focus (intro w9 hSw; (try dsimp only at hSw); go_simp; try with_reducible rfl)); simp only [Act.put, List.setIfInBounds_toArray, List.set_cons_zero, List.set_cons_succ]
  refine wpAnyH_take (i := 19) (oi := ⟨some 45, _, _, _, _, _⟩) rfl (by kernel_rfl) (by kernel_rfl) (by kernel_rfl) (fun _ _ _ h => h) (Or.inr ⟨by rfl, rfl⟩) hS ?_; simp only [Act.put, List.setIfInBounds_toArray, List.set_cons_zero, List.set_cons_succ]
  refine wpAnyH_take (i := 20) (oi := ⟨some 46, _, _, _, _, _⟩) rfl (by kernel_rfl) (by kernel_rfl) (by kernel_rfl) (fun _ _ _ h => h) (Or.inr ⟨by rfl, rfl⟩) hS ?_; simp only [Act.put, List.setIfInBounds_toArray, List.set_cons_zero, List.set_cons_succ]
  refine wpAnyH_take (i := 21) (oi := ⟨some 47, _, _, _, _, _⟩) rfl (by kernel_rfl) (by kernel_rfl) (by kernel_rfl) (fun _ _ _ h => h) (Or.inr ⟨by rfl, rfl⟩) hS ?_; simp only [Act.put, List.setIfInBounds_toArray, List.set_cons_zero, List.set_cons_succ]
  refine wpAnyH_take (i := 22) (oi := ⟨some 48, _, _, _, _, _⟩) (v := ?_) rfl (by kernel_rfl) (by kernel_rfl) (by kernel_rfl) (fun _ _ _ h => h) (Or.inl ⟨by rfl, ?_⟩) hS ?_; rotate_left; (focus (intro w9 hSw; (try dsimp only at hSw); go_simp; try with_reducible rfl)); simp only [Act.put, List.setIfInBounds_toArray, List.set_cons_zero, List.set_cons_succ]
  refine wpAnyH_take (i := 23) (oi := ⟨some 49, _, _, _, _, _⟩) (v := ?_) rfl (by kernel_rfl) (by kernel_rfl) (by kernel_rfl) (fun _ _ _ h => h) (Or.inl ⟨by rfl, ?_⟩) hS ?_; rotate_left; (focus (intro w9 hSw; (try dsimp only at hSw); go_simp; try with_reducible rfl)); simp only [Act.put, List.setIfInBounds_toArray, List.set_cons_zero, List.set_cons_succ]
  refine wpAnyH_take (i := 24) (oi := ⟨some 4, _, _, _, _, _⟩) (v := ?_) rfl (by kernel_rfl) (by kernel_rfl) (by kernel_rfl) (fun _ _ _ h => h) (Or.inl ⟨by rfl, ?_⟩) hS ?_; rotate_left; (focus (intro w9 hSw; (try dsimp only at hSw); go_simp; try with_reducible rfl)); simp only [Act.put, List.setIfInBounds_toArray, List.set_cons_zero, List.set_cons_succ]
  refine wpAnyH_done (by kernel_rfl) ?_ _
  go_wp2
  go_ret
  exact ⟨rfl, BX.out.trans (hS.mono BX.out.size)⟩
set_option maxHeartbeats 4000000 in
set_option maxRecDepth 100000 in
theorem same_nil_yes {B : Nat} (a1 : Option Addr) (lenc capc : Nat) (zb zc : List Int) (w : World) (hlaid : Laid w)
    (yb : Byt w B (none : Option Addr) zb) (lb : zb.length = 0) (bb : AllBytes zb) (hbc : 0 ≤ 0) (hbm : 0 ≤ maxLen) (nb : (none : Option Addr) = none → 0 = 0) (hB : B ≤ w.heap.size)
    (yc : Byt w B a1 zc) (lc : zc.length = lenc) (bc : AllBytes zc) (hcc : lenc ≤ capc) (hcm : capc ≤ maxLen) (nc : a1 = none → capc = 0) (h3 : 0 ≤ 300) (h4 : lenc ≤ 300) (he : zb = zc) :
    Calls Tryd.prog 4 #[.slice (none : Option Addr) 0 0, .slice a1 lenc capc] w fun e w' => e = .returned (.bool true) ∧ Below w.heap.size w w' := by
  obtain ⟨i0, hi, hz0, hz1, hz2⟩ := info_parts infoByte
  have hz := zeroD
  have AW := Lib.hid (awake_any w hlaid)
  have SB := Lib.hid (fun (X : World) (hX : Below w.heap.size w X) => dsum_any (none : Option Addr) 0 0 zb X (hlaid.below hX (Nat.le_refl _)) (yb.below (hX.mono hB)) lb hbc hbm (by omega) nb bb (Nat.le_trans hB hX.size))
  have SC := Lib.hid (fun (X : World) (hX : Below w.heap.size w X) => dsum_any a1 lenc capc zc X (hlaid.below hX (Nat.le_refl _)) (yc.below (hX.mono hB)) lc hcc hcm (by omega) nc bc (Nat.le_trans hB hX.size))
  have SO := Lib.hid (fun (X : World) (hX : Below w.heap.size w X) => of_any (strOfNums zb) X (hlaid.below hX (Nat.le_refl _)) (by have := nums_len (strOfNums zb); rw [nums_str bb] at this; omega))
  have S8 := Lib.hid (fun (X : World) (hX : Below w.heap.size w X) (A3 : Option Addr) (n3 c3 : Nat) (hy : Byt X X.heap.size A3 zb) (h1 : zb.length = n3) (h2 : n3 ≤ c3) (h3 : c3 ≤ maxLen) (h4 : A3 = none → c3 = 0) => dsum_any A3 n3 c3 zb X (hlaid.below hX (Nat.le_refl _)) hy h1 h2 h3 (by omega) h4 bb (Nat.le_refl _))
  unfold DSumPost at SB SC SO S8
  rw [nums_str bb] at SO
  have eqx := eq_dig (SH.sum_bytes zb) (SH.sum_bytes zb) (SH.sum_len zb) (SH.sum_len zb)
  have eqxy := eq_dig (SH.sum_bytes zb) (SH.sum_bytes zc) (SH.sum_len zb) (SH.sum_len zc)
  rw [show (SH.sum zb == SH.sum zb) = true by simp] at eqx
  rw [show (SH.sum zb == SH.sum zc) = true by rw [he]; simp] at eqxy
  have HT := Lib.hid (show ((strOfNums zb).toList == (strOfNums zc).toList) = true by rw [str_eq bb bc]; simp [he])
  have CVB := Lib.hid (fun (X : World) (hX : Below w.heap.size w X) => (yb.below (hX.mono hB)).text (P := Tryd.prog) (len := 0) (cap := 0) lb 22 5 9 Tryd.underlying22 Tryd.underlying5 Tryd.underlying9)
  have CVC := Lib.hid (fun (X : World) (hX : Below w.heap.size w X) => (yc.below (hX.mono hB)).text (P := Tryd.prog) (len := lenc) (cap := capc) lc 22 5 9 Tryd.underlying22 Tryd.underlying5 Tryd.underlying9)
  have YBW := Lib.hid (fun (X : World) (hX : Below w.heap.size w X) => yb.below (hX.mono hB))
  have HLb := Lib.hid lb
  obtain ⟨lX, hlX⟩ : ∃ lX, lX = (SH.sum zb).map (Value.int .u8) := ⟨_, rfl⟩
  obtain ⟨lY, hlY⟩ : ∃ lY, lY = (SH.sum zc).map (Value.int .u8) := ⟨_, rfl⟩
  have I6 := Lib.hid (show (Tryd.prog.info? 24).map (·.size) = some (bvals (SH.sum zb)).size by rw [sizeD, bvals_size, SH.sum_len])
  have Z6 := Lib.hid (show (bvals (List.replicate 32 0)).size = (bvals (SH.sum zb)).size by rw [bvals_size, bvals_size, SH.sum_len, List.length_replicate])
  have O6 := Lib.hid (bvals_one (SH.sum zb))
  have I7 := Lib.hid (show (Tryd.prog.info? 24).map (·.size) = some (bvals (SH.sum zc)).size by rw [sizeD, bvals_size, SH.sum_len])
  have Z7 := Lib.hid (show (bvals (List.replicate 32 0)).size = (bvals (SH.sum zc)).size by rw [bvals_size, bvals_size, SH.sum_len, List.length_replicate])
  have O7 := Lib.hid (bvals_one (SH.sum zc))
  have ILlX := Lib.hid (show (Tryd.prog.info? 24).map (·.size) = some lX.length by rw [sizeD, hlX, List.length_map, SH.sum_len])
  have ILlY := Lib.hid (show (Tryd.prog.info? 24).map (·.size) = some lY.length by rw [sizeD, hlY, List.length_map, SH.sum_len])
  have RNG := Lib.hid (fun (X : World) (g : Nat) (V : Array Value) (h : X.heap[g]? = some (.cells V 24 (0, 0))) => (fun j v hj => by rw [Nat.zero_add, cell_of_row X g j _ _ _ h]; simpa using hj : X.rangeAt g 0 V.toList))
  have eX : bvals (SH.sum zb) = lX.toArray := by rw [hlX]; rfl
  have eY : bvals (SH.sum zc) = lY.toArray := by rw [hlY]; rfl
  rw [eX] at SB SO S8 eqx eqxy I6 Z6 O6
  rw [eY] at SC eqxy I7 Z7 O7
  have EX := Lib.hid eqx
  have EXY := Lib.hid eqxy
  clear eqx eqxy eX eY hlX hlY hlaid yb yc bb bc lb lc he nb nc
  generalize strOfNums zb = TB at *
  generalize strOfNums zc = TC at *
  generalize bvals (List.replicate 32 0) = Z32 at *
  go_enter Tryd.func4, Tryd.ntmps4
  go_wp2_with fail
  refine AW.out.mono ?_
  rintro e w1 ⟨rfl, hb1⟩
  go_wp2_with fail
  refine (SB.out _ hb1).mono ?_
  rintro e w2 ⟨rfl, hb2⟩
  have b2 := hb1.trans (hb2.mono hb1.size)
  have hp6 := Lib.hid (putD w2 Z32 lX.toArray)
  have hn6 := Lib.hid (heap_alloc_new w2 (.cells Z32 24))
  have b2' := b2.alloc b2.size (.cells lX.toArray 24)
  go_wp2_with (first | ((with_reducible refine wpList_store_row (o := ⟨none, .store 24 (.tmp 6) (.tmp 23), _, _, _, _⟩) ?e1 24 (.tmp 6) (.tmp 23) ?e2 w2.heap.size lX.toArray ?e3 ?e4 24 Z32 hn6.out I6.out Z6.out O6.out ?_); (case e1 => rfl); (case e2 => rfl); (case e3 => rfl); (case e4 => rfl); rw [hp6.out]))
  refine (SC.out _ b2').mono ?_
  rintro e w3 ⟨rfl, hb3⟩
  have b3 := b2'.trans (hb3.mono b2'.size)
  have hp7 := Lib.hid (putD w3 Z32 lY.toArray)
  have hn7 := Lib.hid (heap_alloc_new w3 (.cells Z32 24))
  have b3' := b3.alloc b3.size (.cells lY.toArray 24)
  go_wp2_with (first | ((with_reducible refine wpList_store_row (o := ⟨none, .store 24 (.tmp 7) (.tmp 25), _, _, _, _⟩) ?e1 24 (.tmp 7) (.tmp 25) ?e2 w3.heap.size lY.toArray ?e3 ?e4 24 Z32 hn7.out I7.out Z7.out O7.out ?_); (case e1 => rfl); (case e2 => rfl); (case e3 => rfl); (case e4 => rfl); rw [hp7.out]))
  have s3 : w2.heap.size + 1 ≤ w3.heap.size := by have := hb3.size; rw [World.size_alloc] at this; exact this
  have k6 : (w3.alloc (.cells lY.toArray 24)).heap[w2.heap.size]? = some (.cells lX.toArray 24 (0, 0)) := by
    rw [Below.heap_alloc _ _ _ (by omega), hb3.block _ (by rw [World.size_alloc]; omega)]
    exact heap_alloc_new w2 _
  have k7 : (w3.alloc (.cells lY.toArray 24)).heap[w3.heap.size]? = some (.cells lY.toArray 24 (0, 0)) := heap_alloc_new w3 _
  have l6 : w2.heap.size < (w3.alloc (.cells lY.toArray 24)).heap.size := by rw [World.size_alloc]; omega
  have l7 : w3.heap.size < (w3.alloc (.cells lY.toArray 24)).heap.size := by rw [World.size_alloc]; omega
  generalize w3.alloc (.cells lY.toArray 24) = W at *
  generalize w2.heap.size = g6 at *
  generalize w3.heap.size = g7 at *
  have hXd : Below w.heap.size w W.drew := b3'.drew
  have hX0 : Below W.drew.heap.size W.drew W.drew := Below.refl _ _
  have l6 : g6 < W.drew.heap.size := l6
  have l7 : g7 < W.drew.heap.size := l7
  have k6 : W.drew.heap[g6]? = some (.cells lX.toArray 24 (0, 0)) := k6
  have k7 : W.drew.heap[g7]? = some (.cells lY.toArray 24 (0, 0)) := k7
  refine wp_region_held_drew (S := fun w' => Below W.drew.heap.size W.drew w') (by kernel_rfl) (Below.refl _ _) (fun hS => ?_)
  generalize W.drew = X at *
  have BX := Lib.hid hXd
  have up : ∀ w9, Below X.heap.size X w9 → Below w.heap.size w w9 := fun w9 h9 => hXd.trans (h9.mono hXd.size)
  have CX := Lib.hid (fun (w9 : World) (h9 : Below X.heap.size X w9) => RNG.out w9 g6 _ (by rw [h9.block g6 l6]; exact k6))
  have CY := Lib.hid (fun (w9 : World) (h9 : Below X.heap.size X w9) => RNG.out w9 g7 _ (by rw [h9.block g7 l7]; exact k7))
  have CB := Lib.hid (fun (w9 : World) (h9 : Below X.heap.size X w9) => CVB.out w9 (up w9 h9))
  have CC := Lib.hid (fun (w9 : World) (h9 : Below X.heap.size X w9) => CVC.out w9 (up w9 h9))
  have YB := Lib.hid (fun (w9 : World) (h9 : Below X.heap.size X w9) => YBW.out w9 (up w9 h9))
  have C2 := Lib.hid (fun (w9 : World) (h9 : Below X.heap.size X w9) => SO.out w9 (up w9 h9))
  have C8 := Lib.hid (fun (w9 : World) (h9 : Below X.heap.size X w9) => S8.out w9 (up w9 h9))
  have C8n := Lib.hid (fun (w9 : World) (h9 : Below X.heap.size X w9) => S8.out w9 (up w9 h9) none 0 0 (fun hne => absurd (List.length_eq_zero_iff.1 HLb.out) hne) HLb.out (Nat.le_refl _) (by decide) (fun _ => rfl))
  clear hXd up CVB CVC YBW SO S8 SB SC AW RNG k6 k7 l6 l7 hb1 hb2 hb3 b2 b2' b3 b3' s3 hp6 hp7 hn6 hn7
  refine wpAnyH_take (i := 0) (oi := ⟨some 26, _, _, _, _, _⟩) (v := ?_) rfl (by kernel_rfl) (by kernel_rfl) (by kernel_rfl) (fun _ _ _ h => h) (Or.inl ⟨by rfl, ?_⟩) hS ?_; rotate_left; (focus (intro w9 hSw; (try dsimp only at hSw); go_simp; try with_reducible rfl)); simp only [Act.put, List.setIfInBounds_toArray, List.set_cons_zero, List.set_cons_succ]
  refine wpAnyH_take (i := 1) (oi := ⟨some 27, _, _, _, _, _⟩) (v := ?_) rfl (by kernel_rfl) (by kernel_rfl) (by kernel_rfl) (fun _ _ _ h => h) (Or.inl ⟨by rfl, ?_⟩) hS ?_; rotate_left; (focus (intro w9 hSw; (try dsimp only at hSw); have s9 := CB.out w9 hSw; go_simp; try with_reducible rfl)); simp only [Act.put, List.setIfInBounds_toArray, List.set_cons_zero, List.set_cons_succ]
  refine wpAnyH_take (i := 3) (oi := ⟨some 29, _, _, _, _, _⟩) rfl (by kernel_rfl) (by kernel_rfl) (by kernel_rfl) (fun _ _ _ h => h) (yieldsIf_load_mid (by rfl) _ _ rfl g6 0 rfl lX _ (fun w9 hSw => CX.out w9 hSw) Tryd.underlying24 rfl ILlX.out) hS ?_; simp only [Act.put, List.setIfInBounds_toArray, List.set_cons_zero, List.set_cons_succ]
  refine wpAnyH_ready (rs := [2]) (by kernel_rfl) (by simp) (AllReadyH.cons (o := ⟨some 28, _, _, _, _, _⟩) rfl (fun K hK => ?_) AllReadyH.nil)
  go_simp
  refine (C2.out _ hS).mono ?_
  rintro e x2 ⟨rfl, hb2⟩
  have hS2 : Below X.heap.size X x2 := hS.trans (hb2.mono hS.size)
  refine hK.out _ _ hS2 (fun _ => ?_)
  clear hK K hb2 hS
  have hS := hS2
  refine wpAnyH_take (i := 4) (oi := ⟨some 30, _, _, _, _, _⟩) (v := ?_) rfl (by kernel_rfl) (by kernel_rfl) (by kernel_rfl) (fun _ _ _ h => h) (Or.inl ⟨by rfl, ?_⟩) hS ?_; rotate_left; (focus (intro w9 hSw; (try dsimp only at hSw); have s9 := EX.out w9; go_simp; try with_reducible rfl)); simp only [Act.put, List.setIfInBounds_toArray, List.set_cons_zero, List.set_cons_succ]
  refine wpAnyH_take (i := 5) (oi := ⟨some 31, _, _, _, _, _⟩) (v := ?_) rfl (by kernel_rfl) (by kernel_rfl) (by kernel_rfl) (fun _ _ _ h => h) (Or.inl ⟨by rfl, ?_⟩) hS ?_; rotate_left; (focus (intro w9 hSw; (try dsimp only at hSw); go_simp; try with_reducible rfl)); simp only [Act.put, List.setIfInBounds_toArray, List.set_cons_zero, List.set_cons_succ]
  refine wpAnyH_take (i := 6) (oi := ⟨some 32, _, _, _, _, _⟩) (v := ?_) rfl (by kernel_rfl) (by kernel_rfl) (by kernel_rfl) (fun _ _ _ h => h) (Or.inl ⟨by rfl, ?_⟩) hS ?_; rotate_left; (focus (intro w9 hSw; (try dsimp only at hSw); go_simp; try with_reducible rfl)); simp only [Act.put, List.setIfInBounds_toArray, List.set_cons_zero, List.set_cons_succ]
  refine wpAnyH_take (i := 9) (oi := ⟨some 35, _, _, _, _, _⟩) rfl (by kernel_rfl) (by kernel_rfl) (by kernel_rfl) (fun _ _ _ h => h) (yieldsIf_load_mid (by rfl) _ _ rfl g6 0 rfl lX _ (fun w9 hSw => CX.out w9 hSw) Tryd.underlying24 rfl ILlX.out) hS ?_; simp only [Act.put, List.setIfInBounds_toArray, List.set_cons_zero, List.set_cons_succ]
  refine wpAnyH_ready (rs := [7]) (by kernel_rfl) (by simp) (AllReadyH.cons (o := ⟨some 33, _, _, _, _, _⟩) rfl (fun K hK => ?_) AllReadyH.nil)
  refine step_append_nil (o := ⟨some 33, _, _, _, _, _⟩) (by rfl) _ _ 22 rfl 5 i0 Tryd.underlying22 hi (by rfl) (by rfl) ?_
  refine hK.out _ _ hS (fun hS => ?_)
  clear hK K
  refine wpAnyH_ready (rs := [8]) (by kernel_rfl) (by simp) (AllReadyH.cons (o := ⟨some 34, _, _, _, _, _⟩) rfl (fun K hK => ?_) AllReadyH.nil)
  go_simp
  refine (C8n.out _ hS).mono ?_
  rintro e x8 ⟨rfl, hb8⟩
  have hS8 : Below X.heap.size X x8 := hS.trans (hb8.mono hS.size)
  refine hK.out _ _ hS8 (fun _ => ?_)
  clear hK K hb8 hS
  have hS := hS8
  refine wpAnyH_take (i := 10) (oi := ⟨some 36, _, _, _, _, _⟩) (v := ?_) rfl (by kernel_rfl) (by kernel_rfl) (by kernel_rfl) (fun _ _ _ h => h) (Or.inl ⟨by rfl, ?_⟩) hS ?_; rotate_left; (focus (intro w9 hSw; (try dsimp only at hSw); have s9 := EX.out w9; go_simp; try with_reducible rfl)); simp only [Act.put, List.setIfInBounds_toArray, List.set_cons_zero, List.set_cons_succ]
  refine wpAnyH_take (i := 11) (oi := ⟨some 37, _, _, _, _, _⟩) (v := ?_) rfl (by kernel_rfl) (by kernel_rfl) (by kernel_rfl) (fun _ _ _ h => h) (Or.inl ⟨by rfl, ?_⟩) hS ?_; rotate_left; (focus (intro w9 hSw; (try dsimp only at hSw); go_simp; try with_reducible rfl)); simp only [Act.put, List.setIfInBounds_toArray, List.set_cons_zero, List.set_cons_succ]
  refine wpAnyH_take (i := 12) (oi := ⟨some 38, _, _, _, _, _⟩) (v := ?_) rfl (by kernel_rfl) (by kernel_rfl) (by kernel_rfl) (fun _ _ _ h => h) (Or.inl ⟨by rfl, ?_⟩) hS ?_; rotate_left; (focus (intro w9 hSw; (try dsimp only at hSw); go_simp; try with_reducible rfl)); simp only [Act.put, List.setIfInBounds_toArray, List.set_cons_zero, List.set_cons_succ]
  refine wpAnyH_take (i := 13) (oi := ⟨some 39, _, _, _, _, _⟩) (v := ?_) rfl (by kernel_rfl) (by kernel_rfl) (by kernel_rfl) (fun _ _ _ h => h) (Or.inl ⟨by rfl, ?_⟩) hS ?_; rotate_left; (focus (intro w9 hSw; (try dsimp only at hSw); go_simp; try with_reducible rfl)); simp only [Act.put, List.setIfInBounds_toArray, List.set_cons_zero, List.set_cons_succ]
  refine wpAnyH_take (i := 14) (oi := ⟨some 40, _, _, _, _, _⟩) (v := ?_) rfl (by kernel_rfl) (by kernel_rfl) (by kernel_rfl) (fun _ _ _ h => h) (Or.inl ⟨by rfl, ?_⟩) hS ?_; rotate_left; (focus (intro w9 hSw; (try dsimp only at hSw); have s9 := CB.out w9 hSw; go_simp; try with_reducible rfl)); simp only [Act.put, List.setIfInBounds_toArray, List.set_cons_zero, List.set_cons_succ]
  refine wpAnyH_take (i := 15) (oi := ⟨some 41, _, _, _, _, _⟩) (v := ?_) rfl (by kernel_rfl) (by kernel_rfl) (by kernel_rfl) (fun _ _ _ h => h) (Or.inl ⟨by rfl, ?_⟩) hS ?_; rotate_left; (focus (intro w9 hSw; (try dsimp only at hSw); go_simp; try with_reducible rfl)); simp only [Act.put, List.setIfInBounds_toArray, List.set_cons_zero, List.set_cons_succ]
  refine wpAnyH_take (i := 16) (oi := ⟨some 42, _, _, _, _, _⟩) (v := ?_) rfl (by kernel_rfl) (by kernel_rfl) (by kernel_rfl) (fun _ _ _ h => h) (Or.inl ⟨by rfl, ?_⟩) hS ?_; rotate_left; (focus (intro w9 hSw; (try dsimp only at hSw); have s9 := CC.out w9 hSw; go_simp; try with_reducible rfl)); simp only [Act.put, List.setIfInBounds_toArray, List.set_cons_zero, List.set_cons_succ]
  refine wpAnyH_take (i := 17) (oi := ⟨some 43, _, _, _, _, _⟩) (v := ?_) rfl (by kernel_rfl) (by kernel_rfl) (by kernel_rfl) (fun _ _ _ h => h) (Or.inl ⟨by rfl, ?_⟩) hS ?_; rotate_left; (focus (intro w9 hSw; (try dsimp only at hSw); have s9 := HT.out; go_simp; try with_reducible rfl)); simp only [Act.put, List.setIfInBounds_toArray, List.set_cons_zero, List.set_cons_succ]
  refine wpAnyH_take (i := 18) (oi := ⟨some 44, _, _, _, _, _⟩) (v := ?_) rfl (by kernel_rfl) (by kernel_rfl) (by kernel_rfl) (fun _ _ _ h => h) (Or.inl ⟨by rfl, ?_⟩) hS ?_; rotate_left; (focus (intro w9 hSw; (try dsimp only at hSw); go_simp; try with_reducible rfl)); simp only [Act.put, List.setIfInBounds_toArray, List.set_cons_zero, List.set_cons_succ]
  refine wpAnyH_take (i := 19) (oi := ⟨some 45, _, _, _, _, _⟩) rfl (by kernel_rfl) (by kernel_rfl) (by kernel_rfl) (fun _ _ _ h => h) (yieldsIf_load_mid (by rfl) _ _ rfl g6 0 rfl lX _ (fun w9 hSw => CX.out w9 hSw) Tryd.underlying24 rfl ILlX.out) hS ?_; simp only [Act.put, List.setIfInBounds_toArray, List.set_cons_zero, List.set_cons_succ]
  refine wpAnyH_take (i := 20) (oi := ⟨some 46, _, _, _, _, _⟩) rfl (by kernel_rfl) (by kernel_rfl) (by kernel_rfl) (fun _ _ _ h => h) (yieldsIf_load_mid (by rfl) _ _ rfl g7 0 rfl lY _ (fun w9 hSw => CY.out w9 hSw) Tryd.underlying24 rfl ILlY.out) hS ?_; simp only [Act.put, List.setIfInBounds_toArray, List.set_cons_zero, List.set_cons_succ]
  refine wpAnyH_take (i := 21) (oi := ⟨some 47, _, _, _, _, _⟩) (v := ?_) rfl (by kernel_rfl) (by kernel_rfl) (by kernel_rfl) (fun _ _ _ h => h) (Or.inl ⟨by rfl, ?_⟩) hS ?_; rotate_left; (focus (intro w9 hSw; (try dsimp only at hSw); have s9 := EXY.out w9; go_simp; try with_reducible rfl)); simp only [Act.put, List.setIfInBounds_toArray, List.set_cons_zero, List.set_cons_succ]
  refine wpAnyH_take (i := 22) (oi := ⟨some 48, _, _, _, _, _⟩) (v := ?_) rfl (by kernel_rfl) (by kernel_rfl) (by kernel_rfl) (fun _ _ _ h => h) (Or.inl ⟨by rfl, ?_⟩) hS ?_; rotate_left; (focus (intro w9 hSw; (try dsimp only at hSw); go_simp; try with_reducible rfl)); simp only [Act.put, List.setIfInBounds_toArray, List.set_cons_zero, List.set_cons_succ]
  refine wpAnyH_take (i := 23) (oi := ⟨some 49, _, _, _, _, _⟩) (v := ?_) rfl (by kernel_rfl) (by kernel_rfl) (by kernel_rfl) (fun _ _ _ h => h) (Or.inl ⟨by rfl, ?_⟩) hS ?_; rotate_left; (focus (intro w9 hSw; (try dsimp only at hSw); go_simp; try with_reducible rfl)); simp only [Act.put, List.setIfInBounds_toArray, List.set_cons_zero, List.set_cons_succ]
  refine wpAnyH_take (i := 24) (oi := ⟨some 4, _, _, _, _, _⟩) (v := ?_) rfl (by kernel_rfl) (by kernel_rfl) (by kernel_rfl) (fun _ _ _ h => h) (Or.inl ⟨by rfl, ?_⟩) hS ?_; rotate_left; (focus (intro w9 hSw; (try dsimp only at hSw); go_simp; try with_reducible rfl)); simp only [Act.put, List.setIfInBounds_toArray, List.set_cons_zero, List.set_cons_succ]
  refine wpAnyH_done (by kernel_rfl) ?_ _
  go_wp2
  go_ret
  exact ⟨rfl, BX.out.trans (hS.mono BX.out.size)⟩
set_option maxHeartbeats 4000000 in
set_option maxRecDepth 100000 in
theorem same_nil_no {B : Nat} (a1 : Option Addr) (lenc capc : Nat) (zb zc : List Int) (w : World) (hlaid : Laid w)
    (yb : Byt w B (none : Option Addr) zb) (lb : zb.length = 0) (bb : AllBytes zb) (hbc : 0 ≤ 0) (hbm : 0 ≤ maxLen) (nb : (none : Option Addr) = none → 0 = 0) (hB : B ≤ w.heap.size)
    (yc : Byt w B a1 zc) (lc : zc.length = lenc) (bc : AllBytes zc) (hcc : lenc ≤ capc) (hcm : capc ≤ maxLen) (nc : a1 = none → capc = 0) (h3 : 0 ≤ 300) (h4 : lenc ≤ 300) (he : ¬ zb = zc) :
    Calls Tryd.prog 4 #[.slice (none : Option Addr) 0 0, .slice a1 lenc capc] w fun e w' => e = .returned (.bool true) ∧ Below w.heap.size w w' := by
  obtain ⟨i0, hi, hz0, hz1, hz2⟩ := info_parts infoByte
  have hz := zeroD
  have AW := Lib.hid (awake_any w hlaid)
  have SB := Lib.hid (fun (X : World) (hX : Below w.heap.size w X) => dsum_any (none : Option Addr) 0 0 zb X (hlaid.below hX (Nat.le_refl _)) (yb.below (hX.mono hB)) lb hbc hbm (by omega) nb bb (Nat.le_trans hB hX.size))
  have SC := Lib.hid (fun (X : World) (hX : Below w.heap.size w X) => dsum_any a1 lenc capc zc X (hlaid.below hX (Nat.le_refl _)) (yc.below (hX.mono hB)) lc hcc hcm (by omega) nc bc (Nat.le_trans hB hX.size))
  have SO := Lib.hid (fun (X : World) (hX : Below w.heap.size w X) => of_any (strOfNums zb) X (hlaid.below hX (Nat.le_refl _)) (by have := nums_len (strOfNums zb); rw [nums_str bb] at this; omega))
  have S8 := Lib.hid (fun (X : World) (hX : Below w.heap.size w X) (A3 : Option Addr) (n3 c3 : Nat) (hy : Byt X X.heap.size A3 zb) (h1 : zb.length = n3) (h2 : n3 ≤ c3) (h3 : c3 ≤ maxLen) (h4 : A3 = none → c3 = 0) => dsum_any A3 n3 c3 zb X (hlaid.below hX (Nat.le_refl _)) hy h1 h2 h3 (by omega) h4 bb (Nat.le_refl _))
  unfold DSumPost at SB SC SO S8
  rw [nums_str bb] at SO
  have eqx := eq_dig (SH.sum_bytes zb) (SH.sum_bytes zb) (SH.sum_len zb) (SH.sum_len zb)
  have eqxy := eq_dig (SH.sum_bytes zb) (SH.sum_bytes zc) (SH.sum_len zb) (SH.sum_len zc)
  rw [show (SH.sum zb == SH.sum zb) = true by simp] at eqx

  have HT := Lib.hid (show ((strOfNums zb).toList == (strOfNums zc).toList) = false by rw [str_eq bb bc]; simp [he])
  have CVB := Lib.hid (fun (X : World) (hX : Below w.heap.size w X) => (yb.below (hX.mono hB)).text (P := Tryd.prog) (len := 0) (cap := 0) lb 22 5 9 Tryd.underlying22 Tryd.underlying5 Tryd.underlying9)
  have CVC := Lib.hid (fun (X : World) (hX : Below w.heap.size w X) => (yc.below (hX.mono hB)).text (P := Tryd.prog) (len := lenc) (cap := capc) lc 22 5 9 Tryd.underlying22 Tryd.underlying5 Tryd.underlying9)
  have YBW := Lib.hid (fun (X : World) (hX : Below w.heap.size w X) => yb.below (hX.mono hB))
  have HLb := Lib.hid lb
  obtain ⟨lX, hlX⟩ : ∃ lX, lX = (SH.sum zb).map (Value.int .u8) := ⟨_, rfl⟩
  obtain ⟨lY, hlY⟩ : ∃ lY, lY = (SH.sum zc).map (Value.int .u8) := ⟨_, rfl⟩
  have I6 := Lib.hid (show (Tryd.prog.info? 24).map (·.size) = some (bvals (SH.sum zb)).size by rw [sizeD, bvals_size, SH.sum_len])
  have Z6 := Lib.hid (show (bvals (List.replicate 32 0)).size = (bvals (SH.sum zb)).size by rw [bvals_size, bvals_size, SH.sum_len, List.length_replicate])
  have O6 := Lib.hid (bvals_one (SH.sum zb))
  have I7 := Lib.hid (show (Tryd.prog.info? 24).map (·.size) = some (bvals (SH.sum zc)).size by rw [sizeD, bvals_size, SH.sum_len])
  have Z7 := Lib.hid (show (bvals (List.replicate 32 0)).size = (bvals (SH.sum zc)).size by rw [bvals_size, bvals_size, SH.sum_len, List.length_replicate])
  have O7 := Lib.hid (bvals_one (SH.sum zc))
  have ILlX := Lib.hid (show (Tryd.prog.info? 24).map (·.size) = some lX.length by rw [sizeD, hlX, List.length_map, SH.sum_len])
  have ILlY := Lib.hid (show (Tryd.prog.info? 24).map (·.size) = some lY.length by rw [sizeD, hlY, List.length_map, SH.sum_len])
  have RNG := Lib.hid (fun (X : World) (g : Nat) (V : Array Value) (h : X.heap[g]? = some (.cells V 24 (0, 0))) => (fun j v hj => by rw [Nat.zero_add, cell_of_row X g j _ _ _ h]; simpa using hj : X.rangeAt g 0 V.toList))
  have eX : bvals (SH.sum zb) = lX.toArray := by rw [hlX]; rfl
  have eY : bvals (SH.sum zc) = lY.toArray := by rw [hlY]; rfl
  rw [eX] at SB SO S8 eqx eqxy I6 Z6 O6
  rw [eY] at SC eqxy I7 Z7 O7
  have EX := Lib.hid eqx
  have EXY := Lib.hid eqxy
  clear eqx eqxy eX eY hlX hlY hlaid yb yc bb bc lb lc he nb nc
  generalize strOfNums zb = TB at *
  generalize strOfNums zc = TC at *
  generalize bvals (List.replicate 32 0) = Z32 at *
  go_enter Tryd.func4, Tryd.ntmps4
  go_wp2_with fail
  refine AW.out.mono ?_
  rintro e w1 ⟨rfl, hb1⟩
  go_wp2_with fail
  refine (SB.out _ hb1).mono ?_
  rintro e w2 ⟨rfl, hb2⟩
  have b2 := hb1.trans (hb2.mono hb1.size)
  have hp6 := Lib.hid (putD w2 Z32 lX.toArray)
  have hn6 := Lib.hid (heap_alloc_new w2 (.cells Z32 24))
  have b2' := b2.alloc b2.size (.cells lX.toArray 24)
  go_wp2_with (first | ((with_reducible refine wpList_store_row (o := ⟨none, .store 24 (.tmp 6) (.tmp 23), _, _, _, _⟩) ?e1 24 (.tmp 6) (.tmp 23) ?e2 w2.heap.size lX.toArray ?e3 ?e4 24 Z32 hn6.out I6.out Z6.out O6.out ?_); (case e1 => rfl); (case e2 => rfl); (case e3 => rfl); (case e4 => rfl); rw [hp6.out]))
  refine (SC.out _ b2').mono ?_
  rintro e w3 ⟨rfl, hb3⟩
  have b3 := b2'.trans (hb3.mono b2'.size)
  have hp7 := Lib.hid (putD w3 Z32 lY.toArray)
  have hn7 := Lib.hid (heap_alloc_new w3 (.cells Z32 24))
  have b3' := b3.alloc b3.size (.cells lY.toArray 24)
  go_wp2_with (first | ((with_reducible refine wpList_store_row (o := ⟨none, .store 24 (.tmp 7) (.tmp 25), _, _, _, _⟩) ?e1 24 (.tmp 7) (.tmp 25) ?e2 w3.heap.size lY.toArray ?e3 ?e4 24 Z32 hn7.out I7.out Z7.out O7.out ?_); (case e1 => rfl); (case e2 => rfl); (case e3 => rfl); (case e4 => rfl); rw [hp7.out]))
  have s3 : w2.heap.size + 1 ≤ w3.heap.size := by have := hb3.size; rw [World.size_alloc] at this; exact this
  have k6 : (w3.alloc (.cells lY.toArray 24)).heap[w2.heap.size]? = some (.cells lX.toArray 24 (0, 0)) := by
    rw [Below.heap_alloc _ _ _ (by omega), hb3.block _ (by rw [World.size_alloc]; omega)]
    exact heap_alloc_new w2 _
  have k7 : (w3.alloc (.cells lY.toArray 24)).heap[w3.heap.size]? = some (.cells lY.toArray 24 (0, 0)) := heap_alloc_new w3 _
  have l6 : w2.heap.size < (w3.alloc (.cells lY.toArray 24)).heap.size := by rw [World.size_alloc]; omega
  have l7 : w3.heap.size < (w3.alloc (.cells lY.toArray 24)).heap.size := by rw [World.size_alloc]; omega
  generalize w3.alloc (.cells lY.toArray 24) = W at *
  generalize w2.heap.size = g6 at *
  generalize w3.heap.size = g7 at *
  have hXd : Below w.heap.size w W.drew := b3'.drew
  have hX0 : Below W.drew.heap.size W.drew W.drew := Below.refl _ _
  have l6 : g6 < W.drew.heap.size := l6
  have l7 : g7 < W.drew.heap.size := l7
  have k6 : W.drew.heap[g6]? = some (.cells lX.toArray 24 (0, 0)) := k6
  have k7 : W.drew.heap[g7]? = some (.cells lY.toArray 24 (0, 0)) := k7
  refine wp_region_held_drew (S := fun w' => Below W.drew.heap.size W.drew w') (by kernel_rfl) (Below.refl _ _) (fun hS => ?_)
  generalize W.drew = X at *
  have BX := Lib.hid hXd
  have up : ∀ w9, Below X.heap.size X w9 → Below w.heap.size w w9 := fun w9 h9 => hXd.trans (h9.mono hXd.size)
  have CX := Lib.hid (fun (w9 : World) (h9 : Below X.heap.size X w9) => RNG.out w9 g6 _ (by rw [h9.block g6 l6]; exact k6))
  have CY := Lib.hid (fun (w9 : World) (h9 : Below X.heap.size X w9) => RNG.out w9 g7 _ (by rw [h9.block g7 l7]; exact k7))
  have CB := Lib.hid (fun (w9 : World) (h9 : Below X.heap.size X w9) => CVB.out w9 (up w9 h9))
  have CC := Lib.hid (fun (w9 : World) (h9 : Below X.heap.size X w9) => CVC.out w9 (up w9 h9))
  have YB := Lib.hid (fun (w9 : World) (h9 : Below X.heap.size X w9) => YBW.out w9 (up w9 h9))
  have C2 := Lib.hid (fun (w9 : World) (h9 : Below X.heap.size X w9) => SO.out w9 (up w9 h9))
  have C8 := Lib.hid (fun (w9 : World) (h9 : Below X.heap.size X w9) => S8.out w9 (up w9 h9))
  have C8n := Lib.hid (fun (w9 : World) (h9 : Below X.heap.size X w9) => S8.out w9 (up w9 h9) none 0 0 (fun hne => absurd (List.length_eq_zero_iff.1 HLb.out) hne) HLb.out (Nat.le_refl _) (by decide) (fun _ => rfl))
  clear hXd up CVB CVC YBW SO S8 SB SC AW RNG k6 k7 l6 l7 hb1 hb2 hb3 b2 b2' b3 b3' s3 hp6 hp7 hn6 hn7
  refine wpAnyH_take (i := 0) (oi := ⟨some 26, _, _, _, _, _⟩) (v := ?_) rfl (by kernel_rfl) (by kernel_rfl) (by kernel_rfl) (fun _ _ _ h => h) (Or.inl ⟨by rfl, ?_⟩) hS ?_; rotate_left; (focus (intro w9 hSw; (try dsimp only at hSw); go_simp; try with_reducible rfl)); simp only [Act.put, List.setIfInBounds_toArray, List.set_cons_zero, List.set_cons_succ]
  refine wpAnyH_take (i := 1) (oi := ⟨some 27, _, _, _, _, _⟩) (v := ?_) rfl (by kernel_rfl) (by kernel_rfl) (by kernel_rfl) (fun _ _ _ h => h) (Or.inl ⟨by rfl, ?_⟩) hS ?_; rotate_left; (focus (intro w9 hSw; (try dsimp only at hSw); have s9 := CB.out w9 hSw; go_simp; try with_reducible rfl)); simp only [Act.put, List.setIfInBounds_toArray, List.set_cons_zero, List.set_cons_succ]
  refine wpAnyH_take (i := 3) (oi := ⟨some 29, _, _, _, _, _⟩) rfl (by kernel_rfl) (by kernel_rfl) (by kernel_rfl) (fun _ _ _ h => h) (yieldsIf_load_mid (by rfl) _ _ rfl g6 0 rfl lX _ (fun w9 hSw => CX.out w9 hSw) Tryd.underlying24 rfl ILlX.out) hS ?_; simp only [Act.put, List.setIfInBounds_toArray, List.set_cons_zero, List.set_cons_succ]
  refine wpAnyH_ready (rs := [2]) (by kernel_rfl) (by simp) (AllReadyH.cons (o := ⟨some 28, _, _, _, _, _⟩) rfl (fun K hK => ?_) AllReadyH.nil)
  go_simp
  refine (C2.out _ hS).mono ?_
  rintro e x2 ⟨rfl, hb2⟩
  have hS2 : Below X.heap.size X x2 := hS.trans (hb2.mono hS.size)
  refine hK.out _ _ hS2 (fun _ => ?_)
  clear hK K hb2 hS
  have hS := hS2
  refine wpAnyH_take (i := 4) (oi := ⟨some 30, _, _, _, _, _⟩) (v := ?_) rfl (by kernel_rfl) (by kernel_rfl) (by kernel_rfl) (fun _ _ _ h => h) (Or.inl ⟨by rfl, ?_⟩) hS ?_; rotate_left; (focus (intro w9 hSw; (try dsimp only at hSw); have s9 := EX.out w9; go_simp; try with_reducible rfl)); simp only [Act.put, List.setIfInBounds_toArray, List.set_cons_zero, List.set_cons_succ]
  refine wpAnyH_take (i := 5) (oi := ⟨some 31, _, _, _, _, _⟩) (v := ?_) rfl (by kernel_rfl) (by kernel_rfl) (by kernel_rfl) (fun _ _ _ h => h) (Or.inl ⟨by rfl, ?_⟩) hS ?_; rotate_left; (focus (intro w9 hSw; (try dsimp only at hSw); go_simp; try with_reducible rfl)); simp only [Act.put, List.setIfInBounds_toArray, List.set_cons_zero, List.set_cons_succ]
  refine wpAnyH_take (i := 6) (oi := ⟨some 32, _, _, _, _, _⟩) (v := ?_) rfl (by kernel_rfl) (by kernel_rfl) (by kernel_rfl) (fun _ _ _ h => h) (Or.inl ⟨by rfl, ?_⟩) hS ?_; rotate_left; (focus (intro w9 hSw; (try dsimp only at hSw); go_simp; try with_reducible rfl)); simp only [Act.put, List.setIfInBounds_toArray, List.set_cons_zero, List.set_cons_succ]
  refine wpAnyH_take (i := 9) (oi := ⟨some 35, _, _, _, _, _⟩) rfl (by kernel_rfl) (by kernel_rfl) (by kernel_rfl) (fun _ _ _ h => h) (yieldsIf_load_mid (by rfl) _ _ rfl g6 0 rfl lX _ (fun w9 hSw => CX.out w9 hSw) Tryd.underlying24 rfl ILlX.out) hS ?_; simp only [Act.put, List.setIfInBounds_toArray, List.set_cons_zero, List.set_cons_succ]
  refine wpAnyH_ready (rs := [7]) (by kernel_rfl) (by simp) (AllReadyH.cons (o := ⟨some 33, _, _, _, _, _⟩) rfl (fun K hK => ?_) AllReadyH.nil)
  refine step_append_nil (o := ⟨some 33, _, _, _, _, _⟩) (by rfl) _ _ 22 rfl 5 i0 Tryd.underlying22 hi (by rfl) (by rfl) ?_
  refine hK.out _ _ hS (fun hS => ?_)
  clear hK K
  refine wpAnyH_ready (rs := [8]) (by kernel_rfl) (by simp) (AllReadyH.cons (o := ⟨some 34, _, _, _, _, _⟩) rfl (fun K hK => ?_) AllReadyH.nil)
  go_simp
  refine (C8n.out _ hS).mono ?_
  rintro e x8 ⟨rfl, hb8⟩
  have hS8 : Below X.heap.size X x8 := hS.trans (hb8.mono hS.size)
  refine hK.out _ _ hS8 (fun _ => ?_)
  clear hK K hb8 hS
  have hS := hS8
  refine wpAnyH_take (i := 10) (oi := ⟨some 36, _, _, _, _, _⟩) (v := ?_) rfl (by kernel_rfl) (by kernel_rfl) (by kernel_rfl) (fun _ _ _ h => h) (Or.inl ⟨by rfl, ?_⟩) hS ?_; rotate_left; (focus (intro w9 hSw; (try dsimp only at hSw); have s9 := EX.out w9; go_simp; try with_reducible rfl)); simp only [Act.put, List.setIfInBounds_toArray, List.set_cons_zero, List.set_cons_succ]
  refine wpAnyH_take (i := 11) (oi := ⟨some 37, _, _, _, _, _⟩) (v := ?_) rfl (by kernel_rfl) (by kernel_rfl) (by kernel_rfl) (fun _ _ _ h => h) (Or.inl ⟨by rfl, ?_⟩) hS ?_; rotate_left; (focus (intro w9 hSw; (try dsimp only at hSw); go_simp; try with_reducible rfl)); simp only [Act.put, List.setIfInBounds_toArray, List.set_cons_zero, List.set_cons_succ]
  refine wpAnyH_take (i := 12) (oi := ⟨some 38, _, _, _, _, _⟩) (v := ?_) rfl (by kernel_rfl) (by kernel_rfl) (by kernel_rfl) (fun _ _ _ h => h) (Or.inl ⟨by rfl, ?_⟩) hS ?_; rotate_left; (focus (intro w9 hSw; (try dsimp only at hSw); go_simp; try with_reducible rfl)); simp only [Act.put, List.setIfInBounds_toArray, List.set_cons_zero, List.set_cons_succ]
  refine wpAnyH_take (i := 13) (oi := ⟨some 39, _, _, _, _, _⟩) (v := ?_) rfl (by kernel_rfl) (by kernel_rfl) (by kernel_rfl) (fun _ _ _ h => h) (Or.inl ⟨by rfl, ?_⟩) hS ?_; rotate_left; (focus (intro w9 hSw; (try dsimp only at hSw); go_simp; try with_reducible rfl)); simp only [Act.put, List.setIfInBounds_toArray, List.set_cons_zero, List.set_cons_succ]
  refine wpAnyH_take (i := 14) (oi := ⟨some 40, _, _, _, _, _⟩) (v := ?_) rfl (by kernel_rfl) (by kernel_rfl) (by kernel_rfl) (fun _ _ _ h => h) (Or.inl ⟨by rfl, ?_⟩) hS ?_; rotate_left; (focus (intro w9 hSw; (try dsimp only at hSw); have s9 := CB.out w9 hSw; go_simp; try with_reducible rfl)); simp only [Act.put, List.setIfInBounds_toArray, List.set_cons_zero, List.set_cons_succ]
  refine wpAnyH_take (i := 15) (oi := ⟨some 41, _, _, _, _, _⟩) (v := ?_) rfl (by kernel_rfl) (by kernel_rfl) (by kernel_rfl) (fun _ _ _ h => h) (Or.inl ⟨by rfl, ?_⟩) hS ?_; rotate_left; (focus (intro w9 hSw; (try dsimp only at hSw); go_simp; try with_reducible rfl)); simp only [Act.put, List.setIfInBounds_toArray, List.set_cons_zero, List.set_cons_succ]
  refine wpAnyH_take (i := 16) (oi := ⟨some 42, _, _, _, _, _⟩) (v := ?_) rfl (by kernel_rfl) (by kernel_rfl) (by kernel_rfl) (fun _ _ _ h => h) (Or.inl ⟨by rfl, ?_⟩) hS ?_; rotate_left; (focus (intro w9 hSw; (try dsimp only at hSw); have s9 := CC.out w9 hSw; go_simp; try with_reducible rfl)); simp only [Act.put, List.setIfInBounds_toArray, List.set_cons_zero, List.set_cons_succ]
  refine wpAnyH_take (i := 17) (oi := ⟨some 43, _, _, _, _, _⟩) (v := ?_) rfl (by kernel_rfl) (by kernel_rfl) (by kernel_rfl) (fun _ _ _ h => h) (Or.inl ⟨by rfl, ?_⟩) hS ?_; rotate_left; (focus (intro w9 hSw; (try dsimp only at hSw); have s9 := HT.out; go_simp; try with_reducible rfl)); simp only [Act.put, List.setIfInBounds_toArray, List.set_cons_zero, List.set_cons_succ]
  refine wpAnyH_take (i := 18) (oi := ⟨some 44, _, _, _, _, _⟩) (v := ?_) rfl (by kernel_rfl) (by kernel_rfl) (by kernel_rfl) (fun _ _ _ h => h) (Or.inl ⟨by rfl, ?_⟩) hS ?_; rotate_left; (focus (intro w9 hSw; (try dsimp only at hSw); go_simp; try with_reducible rfl)); simp only [Act.put, List.setIfInBounds_toArray, List.set_cons_zero, List.set_cons_succ]
  refine wpAnyH_take (i := 19) (oi := ⟨some 45, _, _, _, _, _⟩) rfl (by kernel_rfl) (by kernel_rfl) (by kernel_rfl) (fun _ _ _ h => h) (Or.inr ⟨by rfl, rfl⟩) hS ?_; simp only [Act.put, List.setIfInBounds_toArray, List.set_cons_zero, List.set_cons_succ]
  refine wpAnyH_take (i := 20) (oi := ⟨some 46, _, _, _, _, _⟩) rfl (by kernel_rfl) (by kernel_rfl) (by kernel_rfl) (fun _ _ _ h => h) (Or.inr ⟨by rfl, rfl⟩) hS ?_; simp only [Act.put, List.setIfInBounds_toArray, List.set_cons_zero, List.set_cons_succ]
  refine wpAnyH_take (i := 21) (oi := ⟨some 47, _, _, _, _, _⟩) rfl (by kernel_rfl) (by kernel_rfl) (by kernel_rfl) (fun _ _ _ h => h) (Or.inr ⟨by rfl, rfl⟩) hS ?_; simp only [Act.put, List.setIfInBounds_toArray, List.set_cons_zero, List.set_cons_succ]
  refine wpAnyH_take (i := 22) (oi := ⟨some 48, _, _, _, _, _⟩) (v := ?_) rfl (by kernel_rfl) (by kernel_rfl) (by kernel_rfl) (fun _ _ _ h => h) (Or.inl ⟨by rfl, ?_⟩) hS ?_; rotate_left; (focus (intro w9 hSw; (try dsimp only at hSw); go_simp; try with_reducible rfl)); simp only [Act.put, List.setIfInBounds_toArray, List.set_cons_zero, List.set_cons_succ]
  refine wpAnyH_take (i := 23) (oi := ⟨some 49, _, _, _, _, _⟩) (v := ?_) rfl (by kernel_rfl) (by kernel_rfl) (by kernel_rfl) (fun _ _ _ h => h) (Or.inl ⟨by rfl, ?_⟩) hS ?_; rotate_left; (focus (intro w9 hSw; (try dsimp only at hSw); go_simp; try with_reducible rfl)); simp only [Act.put, List.setIfInBounds_toArray, List.set_cons_zero, List.set_cons_succ]
  refine wpAnyH_take (i := 24) (oi := ⟨some 4, _, _, _, _, _⟩) (v := ?_) rfl (by kernel_rfl) (by kernel_rfl) (by kernel_rfl) (fun _ _ _ h => h) (Or.inl ⟨by rfl, ?_⟩) hS ?_; rotate_left; (focus (intro w9 hSw; (try dsimp only at hSw); go_simp; try with_reducible rfl)); simp only [Act.put, List.setIfInBounds_toArray, List.set_cons_zero, List.set_cons_succ]
  refine wpAnyH_done (by kernel_rfl) ?_ _
  go_wp2
  go_ret
  exact ⟨rfl, BX.out.trans (hS.mono BX.out.size)⟩
theorem walk_shaSame (a0 : Option Addr) (len0 cap0 : Nat) (z0 : List Int) (a1 : Option Addr) (len1 cap1 : Nat) (z1 : List Int) (w : World) (hlaid : Laid w) (w0 : IsRow .u8 w a0 len0 cap0 z0) (w1 : IsRow .u8 w a1 len1 cap1 z1) :
    Calls Tryd.prog 4 #[.slice a0 len0 cap0, .slice a1 len1 cap1] w fun e w' => e = .returned (.bool true) ∧ Below w.heap.size w w' := by
  obtain ⟨y0, l0, b0, c0, m0⟩ := w0.byt
  obtain ⟨y1, l1, b1, c1, m1⟩ := w1.byt
  have n0 := row_nil w0
  have n1 := row_nil w1
  clear w0 w1
  have AW := Lib.hid (awake_any w hlaid)
  by_cases h3 : 300 < len0
  · have hm : len0 ≤ 9223372036854775807 := by unfold maxLen at m0; omega
    clear m0 m1 y0 y1 l0 l1 b0 b1 n0 n1
    go_enter Tryd.func4, Tryd.ntmps4
    go_wp2_with fail
    refine AW.out.mono ?_
    rintro e w1 ⟨rfl, hb1⟩
    go_wp2
    go_ret
    exact ⟨rfl, hb1⟩
  · by_cases h4 : 300 < len1
    · have hm : len1 ≤ 9223372036854775807 := by unfold maxLen at m1; omega
      clear m0 m1 y0 y1 l0 l1 b0 b1 n0 n1
      go_enter Tryd.func4, Tryd.ntmps4
      go_wp2_with fail
      refine AW.out.mono ?_
      rintro e w1 ⟨rfl, hb1⟩
      go_wp2
      go_ret
      exact ⟨rfl, hb1⟩
    · clear AW
      by_cases he : z0.take len0 = z1.take len1
      · cases a0 with
        | none =>
          obtain rfl : cap0 = 0 := n0 rfl
          obtain rfl : len0 = 0 := by omega
          exact same_nil_yes a1 len1 cap1 _ _ w hlaid y0 l0 b0 c0 m0 n0 (Nat.le_refl _) y1 l1 b1 c1 m1 n1 (by omega) (by omega) he
        | some ad => exact same_yes ad len0 cap0 a1 len1 cap1 _ _ w hlaid y0 l0 b0 c0 m0 n0 (Nat.le_refl _) y1 l1 b1 c1 m1 n1 (by omega) (by omega) he
      · cases a0 with
        | none =>
          obtain rfl : cap0 = 0 := n0 rfl
          obtain rfl : len0 = 0 := by omega
          exact same_nil_no a1 len1 cap1 _ _ w hlaid y0 l0 b0 c0 m0 n0 (Nat.le_refl _) y1 l1 b1 c1 m1 n1 (by omega) (by omega) he
        | some ad => exact same_no ad len0 cap0 a1 len1 cap1 _ _ w hlaid y0 l0 b0 c0 m0 n0 (Nat.le_refl _) y1 l1 b1 c1 m1 n1 (by omega) (by omega) he
end Go.Proofs.YtojmmjecfpdmoaaDoor
