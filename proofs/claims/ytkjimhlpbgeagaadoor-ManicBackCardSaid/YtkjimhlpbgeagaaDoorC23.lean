import Derived.Test.YtkjimhlpbgeagaaDoorC0
import Derived.Test.YtkjimhlpbgeagaaDoorC4
import Derived.Test.YtkjimhlpbgeagaaDoorC22
import Derived.Test.YtkjimhlpbgeagaaDoorC12
import Derived.Test.YtkjimhlpbgeagaaDoorC3
import Derived.Test.YtkjimhlpbgeagaaDoorC21
import Derived.Test.YtkjimhlpbgeagaaDoorC14
/-
  What the functions that a law of this layer reaches answer, part 23. Nothing that was there is written.
-/
namespace Go.Proofs.YtkjimhlpbgeagaaDoor
set_option linter.unusedVariables false
set_option linter.unusedSimpArgs false
section
open Go.RowKit WM
set_option maxRecDepth 100000
theorem sl_dig (b o : Nat) (w : World) : (Instr.sliceAt 23 (.pointer (some ⟨b, o, none⟩)) none none none).run Tryd.prog w = .ok (.slice (some ⟨b, o, none⟩) 32 32) w := by
 rw [run_sliceAt_array_all w 23 ⟨b, o, none⟩ (show Tryd.prog.underlying 23 = some (.array (Tryd.prog.arrayLen 23) (Tryd.prog.elem 23)) by kernel_rfl)]
 rw [show Tryd.prog.elem 23 = 5 by kernel_rfl, show Tryd.prog.arrayLen 23 = 32 by kernel_rfl, sizeByte]
 simp [Result.andThen, slicedAt, Addr.add]
theorem byt_cells {w : World} {b o : Nat} {z : List Int} (h : ∀ j, j < z.length → w.cell? ⟨b, o + j, none⟩ = (z.map (Value.int .u8))[j]?) (hb : b < w.heap.size) {n : Nat} (hz : z.length = n) : BsAt w (some ⟨b, o, none⟩) n n z :=
 ⟨fun _ => ⟨b, o, rfl, hb, fun i hi => by
  rw [h i hi, List.getElem?_map, List.getElem?_eq_getElem hi, List.getD_eq_getElem?_getD, List.getElem?_eq_getElem hi]
  rfl⟩, hz, fun h => by cases h⟩
theorem dig_byt {w : World} {b o : Nat} {z : List Int} (h : KDig.at w b o z) (hz : z.length = 32) (hb : b < w.heap.size) : BsAt w (some ⟨b, o, none⟩) 32 32 z := byt_cells (fun j hj => h j (show j < 32 by omega)) hb hz
theorem id_byt {w : World} {b o : Nat} {z : List Int} (h : KId.at w b o z) (hz : z.length = 16) (hb : b < w.heap.size) : BsAt w (some ⟨b, o, none⟩) 16 16 z := byt_cells (fun j hj => h j (show j < 16 by omega)) hb hz
theorem one_byt (w : World) (n : Int) : BsAt (w.alloc (.cells #[.int .u8 n] 5)) (some ⟨w.heap.size, 0, none⟩) 1 1 [n] :=
 ⟨fun _ => ⟨w.heap.size, 0, rfl, by rw [World.size_alloc]; omega, fun i hi => by
  obtain rfl : i = 0 := by simpa using hi
  have hh : (w.alloc (.cells #[.int .u8 n] 5)).heap[w.heap.size]? = some (.cells #[.int .u8 n] 5) := heap_alloc_new w _
  rw [cell_of_row _ _ _ _ _ _ hh]; rfl⟩, rfl, fun h => by cases h⟩
theorem flat_take {α : Type} {B : α → List Int} {k : Nat} (d : α) {l : List α} (hk : k < l.length) (H : List Int) : H ++ (l.take (k + 1)).flatMap B = (H ++ (l.take k).flatMap B) ++ B (l.getD k d) := by
 rw [List.take_add_one, List.flatMap_append, List.getElem?_eq_getElem hk, List.getD_eq_getElem?_getD, List.getElem?_eq_getElem hk]
 simp
theorem mem_getD {α : Type} {k : Nat} (d : α) {l : List α} (hk : k < l.length) : l.getD k d ∈ l := by
 rw [List.getD_eq_getElem?_getD, List.getElem?_eq_getElem hk]
 exact List.getElem_mem _
theorem step_append_bytM {P : Program} {w : World} {ops : Array Oper} {o : Oper} {a : Act} {K : Act → World → Prop} {Q : Exit → Act → World → Prop} {E : Prop} (hgd : o.guard = none) (s x : Operand) (t : TypeId)
  (ho : o.op = .call { callee := .builtin .append, args := #[s, x], argTypes := #[t, t] })
  (base : Nat) (e : TypeId) (i : TypeInfo) (ht : P.underlying t = some (.slice e)) (hi : P.info? e = some i) (hz : i.zero = some (.int .u8 0)) (hsize : i.size = 1) (hby : i.bytes = 1)
  (v : Value) (n : Nat) (ys : List Int) (hs : a.eval s = v) (hown : w.ownsRow base e 1 v n (ys.map (Value.int .u8)))
  (B : Nat) (ad : Addr) (m c : Nat) (zs : List Int) (hx : a.eval x = .slice (some ad) m c) (hr : Byt w B (some ad) zs) (hl : zs.length = m) (hlen : n + m ≤ 140737488355328) (hbase : base ≤ w.heap.size)
  (h : ∀ v' w', w'.ownsRow base e 1 v' (n + m) ((ys ++ zs).map (Value.int .u8)) → w.grownBy w' v.ownBlock → K (a.put o.dst v') w') :
  if Region.wanted o (yielded ops a.tmps) = true then Oper.wp P o a w K Q else E := by
 have hw : Region.wanted o (yielded ops a.tmps) = true := by simp [Region.wanted, hgd]
 rw [if_pos hw]
 have hc : ∀ j u, (zs.map (Value.int .u8))[j]? = some u → w.cell? (ad.add j) = some u := by
  intro j u hj
  rw [List.getElem?_map, Option.map_eq_some_iff] at hj
  obtain ⟨z, hz1, rfl⟩ := hj
  have hjl := (List.getElem?_eq_some_iff.1 hz1).1
  obtain ⟨b, off, hA, _, hc⟩ := hr (fun e => by rw [e] at hjl; simp at hjl)
  injection hA with hA
  subst hA
  rw [Addr.add_lit, hc j hjl]
  simp [List.getD, hz1]
 refine wp_append_own w s x t ho base e i (.int .u8 0) 1 1 ht hi hz hsize hby rfl (by omega) v n _ hs hown ad m c (zs.map (Value.int .u8)) hx (by simp [hl]) hc (by
  intro u hu
  obtain ⟨_, _, rfl⟩ := List.mem_map.1 hu
  rfl) (by simp only [maxLen]; omega) (by omega) hbase ?_
 intro v' w' h1 h2 _
 exact h v' w' (by rw [List.map_append]; exact h1) h2
theorem own_ty {w : World} {base size n q : Nat} {te t2 : TypeId} {v : Value} {xs : List Value} {C : Array Value} {fz : Nat × Nat} (h : w.ownsRow base te size v n xs) (hq : w.heap[q]? = some (.cells C t2 fz)) (hne : t2 ≠ te) : v.ownBlock ≠ some q := by
 intro he
 rcases h.2 with ⟨rfl, _⟩ | ⟨g, cap, cur, rfl, _, hg, _⟩
 ·simp [Value.ownBlock] at he
 ·obtain rfl : g = q := by simpa [Value.ownBlock] using he
  rw [hg] at hq
  injection hq with hq
  injection hq with _ h2 _
  exact hne h2.symm
theorem run_oneM (X : World) (n : Int) : (Instr.buildSlice 27 1 #[(0, .int .u8 n)]).run Tryd.prog X = .ok (.slice (some ⟨X.heap.size, 0, none⟩) 1 1) (X.alloc (.cells #[.int .u8 n] 5)) := by
 go_simp
theorem step_oneM {X : World} {ops : Array Oper} {o : Oper} {a : Act} {KK : Act → World → Prop} {Q : Exit → Act → World → Prop} {E : Prop} (hgd : o.guard = none) (y : Operand) (hop : o.op = .buildSlice 27 1 #[(0, y)]) (n : Int) (hy : a.eval y = .int .u8 n)
  (h : KK (a.put o.dst (.slice (some ⟨X.heap.size, 0, none⟩) 1 1)) (X.alloc (.cells #[.int .u8 n] 5))) :
  if Region.wanted o (yielded ops a.tmps) = true then Oper.wp Tryd.prog o a X KK Q else E := by
 have hw : Region.wanted o (yielded ops a.tmps) = true := by simp [Region.wanted, hgd]
 rw [if_pos hw]
 unfold Oper.wp execOp
 simp only [hop, List.map_toArray, List.map_cons, List.map_nil, hy, Sem.run_bind, run_oneM, Result.andThen_ok, Sem.run_pure]
 exact h
set_option maxHeartbeats 16000000 in
theorem putEntry_any (e : EnA) (w : World) (h : e.Ok w) (hw : enWf e.e) : Calls Tryd.prog 28 #[KEn.v e] w (Gives w (enB e.e)) := by
 have HWF := Lib.hid hw
 have BX := Lib.hid ((Below.refl w.heap.size w).alloc (Nat.le_refl _) (.cells (KEn.cs e).toArray 52))
 have EAT := Lib.hid (Kind.blk_new (K := KEn) w e 52)
 have HD := Lib.hid h.2.2.2.2.1
 have HROW := Lib.hid h.2.2.2.2.2.2
 have HP := stPut_yes e.e.n e.e.r (w.alloc (.cells (KEn.cs e).toArray 52)) hw.2.2.1
 unfold st GivesT at HP
 have HP := Lib.hid HP
 have HE1 := Lib.hid (enc_len (e.e.n * 8 + e.e.r)).2
 have HE2 := Lib.hid (enc_len e.e.len).2
 have HPG := Lib.hid (fun w => put_gives e.e.len w hw.2.2.2.1 (by have := hw.2.2.2.2.1; omega))
 unfold Gives at HPG
 have HWU := Lib.hid (IntWalk.u64_in e.e.len (by have := hw.2.2.2.1; have := hw.2.2.2.2.1; omega))
 have HW8 := Lib.hid (IntWalk.u8_in e.e.no (by have := hw.1; have := hw.2.1; omega))
 have HB25 := Lib.hid (show e.e.bs.length ≤ 25 by rw [hw.2.2.2.2.2.2.2.1]; unfold nblk; have := hw.2.2.2.2.1; split <;> omega)
 have HBO := Lib.hid hw.2.2.2.2.2.2.2.2
 have HENB := Lib.hid (show enB e.e = ([e.e.no] ++ enc (e.e.n * 8 + e.e.r) ++ enc e.e.len ++ e.e.ds) ++ e.e.bs.flatMap sgB by unfold enB; simp only [List.append_assoc])
 have HLB := Lib.hid (fun k => flat_most (B := sgB) (k := 36) (l := e.e.bs.take k) fun b hb => Nat.le_of_eq (sgB_ok (hw.2.2.2.2.2.2.2.2 b (List.mem_of_mem_take hb))).2)
 have HAT := Lib.hid (fun X (hX : Below (w.alloc (.cells (KEn.cs e).toArray 52)).heap.size (w.alloc (.cells (KEn.cs e).toArray 52)) X) => Kind.at_blk (K := KEn) (Kind.blk_below EAT.out hX (Kind.blk_lt EAT.out)))
 have HSB := Lib.hid (fun h0 => sig_row h.2.2.2.2.2.2 h0)
 have x1 := en_c1 (HAT.out _ (Below.refl _ _))
 have x2 := en_c2 (HAT.out _ (Below.refl _ _))
 rw [Nat.zero_add] at x1 x2
 have hlt1 := Lib.hid (Kind.blk_lt EAT.out)
 rw [show KEn.v e = .agg (KEn.cs e).toArray from rfl]
 generalize hE : (KEn.cs e).toArray = E at *
 generalize enc (e.e.n * 8 + e.e.r) = E1 at *
 clear hE h hw EAT
 go_enter Tryd.func28, Tryd.ntmps28
 go_wp2_with fail
 refine HP.out.mono ?_
 rintro e2 w2 ⟨A1, n1, k1, rfl, hn1, hnk1, hkm1, hown1, hb1⟩
 have C2 := Lib.hid hb1
 have B2 := Lib.hid (BX.out.trans (hb1.mono BX.out.size))
 have O2 := Lib.hid (BsAt.own hown1)
 clear hn1 hnk1 hkm1 hown1 hb1 x1 x2
 go_wp2_with fail
 refine wp_region_held_drew (S := fun w' => Below w2.heap.size w2 w') (by kernel_rfl) ((Below.refl w2.heap.size w2).drew) (fun hS => ?_)
 have G2 := Lib.hid ((Below.refl w2.heap.size w2).drew)
 have HX0 := Lib.hid (fun X (hX : Below w2.heap.size w2 X) => en_c0 (HAT.out X (C2.out.trans (hX.mono C2.out.size))))
 have HX3 := Lib.hid (fun X (hX : Below w2.heap.size w2 X) => en_c3 (HAT.out X (C2.out.trans (hX.mono C2.out.size))))
 have HXD := Lib.hid (fun X (hX : Below w2.heap.size w2 X) => en_dig (HAT.out X (C2.out.trans (hX.mono C2.out.size))) HD.out)
 have HX36 := Lib.hid (fun X (hX : Below w2.heap.size w2 X) => en_c36 (HAT.out X (C2.out.trans (hX.mono C2.out.size))) HD.out)
 simp only [Nat.zero_add] at HX0 HX3 HXD HX36
 clear HAT HP
 generalize enB e.e = EB at *
 generalize e.e.no = no at *
 generalize e.e.len = ln at *
 generalize e.e.ds = ds at *
 generalize e.e.n = sn at *
 generalize e.e.r = sr at *
 generalize e.e.bs = bs at *
 generalize e.A = eA at *
 generalize e.c = eC at *
 generalize World.drew _ = X0 at *
 refine wpHv (i := 0) (oi := ⟨some 14, _, _, _, _, _⟩) (v := ?_) rfl ?_ hS ?_; rotate_left; (focus (intro w9 hSw; go_simp; try with_reducible rfl)); simp only [Act.put, Z2, Z3, Z4]
 refine wpHv (i := 1) (oi := ⟨some 15, _, _, _, _, _⟩) (v := ?_) rfl ?_ hS ?_; rotate_left; (focus (intro w9 hSw; have q0 := HX0.out w9 hSw; go_simp; try with_reducible rfl)); simp only [Act.put, Z2, Z3, Z4]
 refine wpHv (i := 2) (oi := ⟨some 16, _, _, _, _, _⟩) (v := (.int .u8 no)) rfl ?_ hS ?_; (focus (intro w9 hSw; have q0 := HW8.out; go_simp; try rfl)); simp only [Act.put, Z2, Z3, Z4]
 refine wpHv (i := 4) (oi := ⟨some 18, _, _, _, _, _⟩) (v := ?_) rfl ?_ hS ?_; rotate_left; (focus (intro w9 hSw; go_simp; try with_reducible rfl)); simp only [Act.put, Z2, Z3, Z4]
 refine wpHv (i := 5) (oi := ⟨some 19, _, _, _, _, _⟩) (v := ?_) rfl ?_ hS ?_; rotate_left; (focus (intro w9 hSw; go_simp; try with_reducible rfl)); simp only [Act.put, Z2, Z3, Z4]
 refine wpHv (i := 6) (oi := ⟨some 20, _, _, _, _, _⟩) (v := ?_) rfl ?_ hS ?_; rotate_left; (focus (intro w9 hSw; have q0 := HX3.out w9 hSw; go_simp; try with_reducible rfl)); simp only [Act.put, Z2, Z3, Z4]
 refine wpHv (i := 7) (oi := ⟨some 21, _, _, _, _, _⟩) (v := (.int .u64 ln)) rfl ?_ hS ?_; (focus (intro w9 hSw; have q0 := HWU.out; go_simp; try rfl)); simp only [Act.put, Z2, Z3, Z4]
 refine wpHv (i := 9) (oi := ⟨some 23, _, _, _, _, _⟩) (v := ?_) rfl ?_ hS ?_; rotate_left; (focus (intro w9 hSw; go_simp; try with_reducible rfl)); simp only [Act.put, Z2, Z3, Z4]
 refine wpHv (i := 10) (oi := ⟨some 24, _, _, _, _, _⟩) (v := (.slice (some ⟨w.heap.size, 4, none⟩) 32 32)) rfl ?_ hS ?_; (focus (intro w9 hSw; have q0 := sl_dig w.heap.size 4 w9; go_simp; try rfl)); simp only [Act.put, Z2, Z3, Z4]
 refine wpAnyH_ready (rs := [3, 8]) (by kernel_rfl) (by simp) (AllReadyH.cons (o := ⟨some 17, _, _, _, _, _⟩) rfl (fun K hK => ?_) (AllReadyH.cons (o := ⟨some 22, _, _, _, _, _⟩) rfl (fun K hK => ?_) AllReadyH.nil))
 ·refine step_oneM (o := ⟨some 17, _, _, _, _, _⟩) rfl (.tmp 16) rfl no rfl ?_
  refine hK.out _ _ (G2.out.alloc G2.out.size (.cells #[.int .u8 no] 5)) (fun hS => ?_)
  clear hK K
  try simp only [Act.put, Z2, Z3, Z4]
  have G3 := Lib.hid (G2.out.alloc G2.out.size (.cells #[.int .u8 no] 5))
  have T17 := Lib.hid (one_byt X0 no)
  refine wpAnyH_ready (rs := [8]) (by kernel_rfl) (by simp) (AllReadyH.cons (o := ⟨some 22, _, _, _, _, _⟩) rfl (fun K hK => ?_) AllReadyH.nil)
  go_simp
  refine (HPG.out _).mono ?_
  rintro e4 X4 ⟨A3, n3, k3, rfl, hn3, hnk3, hkm3, hown3, hb3⟩
  have G4 := Lib.hid (G3.out.trans (hb3.mono G3.out.size))
  have T17 := Lib.hid (T17.out.below hb3 (Nat.le_refl _))
  have T22 := Lib.hid (BsAt.own hown3)
  refine hK.out _ _ G4.out (fun hS => ?_)
  clear hK K
  try simp only [Act.put, Z2, Z3, Z4]
  clear hn3 hnk3 hkm3 hown3 hb3
  refine wpAnyH_ready (rs := [11]) (by kernel_rfl) (by simp) (AllReadyH.cons (o := ⟨some 25, _, _, _, _, _⟩) rfl (fun K hK => ?_) AllReadyH.nil)
  go_simp
  refine hK.out _ _ (G4.out.alloc G4.out.size (.cells #[.slice (some ⟨X0.heap.size, 0, none⟩) 1 1, .slice A1 n1 k1, .slice A3 n3 k3, .slice (some ⟨w.heap.size, 4, none⟩) 32 32] 27)) (fun hS => ?_)
  clear hK K
  try simp only [Act.put, Z2, Z3, Z4]
  have BA := (Below.refl X4.heap.size X4).alloc (Nat.le_refl _) (.cells #[.slice (some ⟨X0.heap.size, 0, none⟩) 1 1, .slice A1 n1 k1, .slice A3 n3 k3, .slice (some ⟨w.heap.size, 4, none⟩) 32 32] 27)
  have hh : (X4.alloc (.cells #[.slice (some ⟨X0.heap.size, 0, none⟩) 1 1, .slice A1 n1 k1, .slice A3 n3 k3, .slice (some ⟨w.heap.size, 4, none⟩) 32 32] 27)).heap[X4.heap.size]? = some (.cells #[.slice (some ⟨X0.heap.size, 0, none⟩) 1 1, .slice A1 n1 k1, .slice A3 n3 k3, .slice (some ⟨w.heap.size, 4, none⟩) 32 32] 27) := heap_alloc_new X4 _
  have T18 := Lib.hid (O2.out.below G4.out (Nat.le_refl _))
  have T24 := Lib.hid (dig_byt (HXD.out X4 G4.out) HD.out (by have := hlt1.out; have := C2.out.size; have := G4.out.size; omega))
  have HC := Lib.hid (concat4_any X4.heap.size (some ⟨X0.heap.size, 0, none⟩) A1 A3 (some ⟨w.heap.size, 4, none⟩) 1 n1 n3 32 1 k1 k3 32 [no] E1 (enc ln) ds _ (by rw [World.size_alloc]; omega) (by rw [cell_of_row _ _ _ _ _ _ hh]; rfl) (by rw [cell_of_row _ _ _ _ _ _ hh]; rfl) (by rw [cell_of_row _ _ _ _ _ _ hh]; rfl) (by rw [cell_of_row _ _ _ _ _ _ hh]; rfl) (T17.out.below BA (Nat.le_refl _)) (T18.out.below BA (Nat.le_refl _)) (T22.out.below BA (Nat.le_refl _)) (T24.out.below BA (Nat.le_refl _)) (by have := O2.out.2.1; have := T22.out.2.1; have := HE1.out; have := HE2.out; omega) (by omega))
  have G5 := Lib.hid (G4.out.alloc G4.out.size (.cells #[.slice (some ⟨X0.heap.size, 0, none⟩) 1 1, .slice A1 n1 k1, .slice A3 n3 k3, .slice (some ⟨w.heap.size, 4, none⟩) 32 32] 27))
  clear BA hh
  generalize X4.alloc (.cells #[.slice (some ⟨X0.heap.size, 0, none⟩) 1 1, .slice A1 n1 k1, .slice A3 n3 k3, .slice (some ⟨w.heap.size, 4, none⟩) 32 32] 27) = X5 at *
  refine wpAnyH_ready (rs := [12]) (by kernel_rfl) (by simp) (AllReadyH.cons (o := ⟨some 26, _, _, _, _, _⟩) rfl (fun K hK => ?_) AllReadyH.nil)
  go_simp
  refine HC.out.mono ?_
  rintro e6 w6 ⟨A6, n6, k6, rfl, hn6, hnk6, hkm6, hown6, hb6⟩
  have G6 := Lib.hid (G5.out.trans (hb6.mono G5.out.size))
  have B6 := Lib.hid (B2.out.trans (G6.out.mono B2.out.size))
  have O6 := Lib.hid (own_wide hown6 (Nat.le_trans B2.out.size G5.out.size))
  have HN6 := Lib.hid hn6
  clear hn6 hnk6 hkm6 hown6 hb6
  refine hK.out _ _ G6.out (fun hS => ?_)
  clear hK K
  try simp only [Act.put, Z2, Z3, Z4]
  refine wpHv (i := 13) (oi := ⟨some 5, _, _, _, _, _⟩) (v := ?_) rfl ?_ hS ?_; rotate_left; (focus (intro w9 hSw; go_simp; try with_reducible rfl)); simp only [Act.put, Z2, Z3, Z4]
  refine wpAnyH_done (by kernel_rfl) ?_ _
  clear hS
  have x36 := HX36.out w6 G6.out
  have HH : Hid (([no] ++ E1 ++ enc ln ++ ds).length ≤ 100) := Lib.hid (by simp only [List.length_append, HD.out, List.length_singleton]; have := HE1.out; have := HE2.out; omega)
  have HRV := Lib.hid (show ([no] ++ E1 ++ enc ln ++ ds) ++ (bs.take 0).flatMap sgB = [no] ++ E1 ++ enc ln ++ ds by simp)
  generalize [no] ++ E1 ++ enc ln ++ ds = H at *
  have hz := zeroSig
  rw [show KSig.v ⟨0, List.replicate 32 0⟩ = .agg (KSig.cs sgz).toArray from rfl] at hz
  have hzne : ¬ (KSig.cs sgz).toArray = #[] := by decide
  obtain ⟨i0, hi, hz0, hz1, hz2⟩ := info_parts infoByte
  generalize hnb : bs.length = nb at *
  have HNB := Lib.hid hnb
  clear hnb HX0 HX3 HXD HX36
  go_wp2
  clear x36
  go_loopw [5, 30] (fun v i wr => ∃ (k m : Nat), k ≤ nb ∧ i = .int .i64 k ∧ wr.ownsRow w.heap.size 5 1 v m ((H ++ (bs.take k).flatMap sgB).map (Value.int .u8)) ∧ Below w.heap.size w wr) (fun _ i _ => nb - (intOf i).toNat)
  case atStart => exact ⟨0, n6, Nat.zero_le _, rfl, by rw [HRV.out]; exact O6.out, B6.out⟩
  case round =>
   obtain ⟨k, m, hk, rfl, ho, hb⟩ := hrel
   have HO := Lib.hid ho
   have HBB := Lib.hid hb
   by_cases hlt : k < nb
   ·have t2 : (k : Int) < (nb : Int) := by omega
    have hkb : k < bs.length := by rw [HNB.out]; exact hlt
    have HLT := Lib.hid hlt
    have hnb25 : nb ≤ 25 := HB25.out
    obtain ⟨b9, off9, hA9, hb9, hat9, hix9⟩ := HSB.out (by omega)
    have hml : m = (H ++ (bs.take k).flatMap sgB).length := by simpa using ho.1.symm
    have hlb := HLB.out k
    have hHH := HH.out
    rw [List.length_take, Nat.min_eq_left (by omega)] at hlb
    rw [List.length_append] at hml
    have HM9 := Lib.hid (show m ≤ 1100 by have := HB25.out; omega)
    have HNX := Lib.hid (flat_take (B := sgB) sg0 hkb H)
    have SOK := Lib.hid (HBO.out _ (mem_getD sg0 hkb))
    have HL9 := Lib.hid (load_sig (Kind.at_same (hat9 k hlt) (hb.block b9 hb9)) SOK.out)
    have IX9 := Lib.hid (hix9 k hlt k rfl)
    generalize bs.getD k sg0 = g at *
    generalize hP : H ++ (bs.take k).flatMap sgB = P at *
    have ix := IX9.out wr
    rw [← hA9] at ix
    clear hA9
    have SZ1 := Lib.hid (sig_size SOK.out)
    have SQ1 := Lib.hid (show (KSig.cs sgz).toArray.size = (KSig.cs g).toArray.size from sig_same sgz_ok SOK.out)
    have SO1 := Lib.hid (sig_ones g)
    have N1 := Lib.hid (Kind.at_blk (K := KSig) (Kind.blk_new (K := KSig) wr g 107))
    have B1 := Lib.hid (hb.alloc hb.size (.cells (KSig.cs g).toArray 107))
    have C1 := Lib.hid ((Below.refl wr.heap.size wr).alloc (Nat.le_refl _) (.cells (KSig.cs g).toArray 107))
    have O1 := Lib.hid (ho.alloc (.cells (KSig.cs g).toArray 107))
    have HWD := Lib.hid (fun X => word_gives g.wk X SOK.out.1 SOK.out.2.1)
    unfold Gives at HWD
    clear hml hlb hHH ho hb hat9 hix9 hP
    go_wp2_with (first | ((with_reducible refine wpList_load_at (o := ⟨some 33, .load 107 (.tmp 32), _, _, _, _⟩) ?e1 107 (.tmp 32) ?e2 ⟨b9, off9 + k * 33, none⟩ ?e3 _ HL9.out ?_); (case e1 => rfl); (case e2 => rfl); (case e3 => rfl)) | ((with_reducible refine wpList_store_new (o := ⟨none, .store 107 (.tmp 7) (.tmp 33), _, _, _, _⟩) ?e1 107 (.tmp 7) (.tmp 33) ?e2 ?e3 (KSig.cs sgz).toArray (KSig.cs g).toArray ?e4 SZ1.out SQ1.out SO1.out ?_); (case e1 => rfl); (case e2 => rfl); (case e3 => rfl); (case e4 => rfl)) | fail)
    clear ix
    have NLT := Lib.hid (show wr.heap.size < (wr.alloc (.cells (KSig.cs g).toArray 107)).heap.size by rw [World.size_alloc]; omega)
    have NBK := Lib.hid (show (wr.alloc (.cells (KSig.cs g).toArray 107)).heap[wr.heap.size]? = some (.cells (KSig.cs g).toArray 107) from heap_alloc_new wr _)
    generalize wr.alloc (.cells (KSig.cs g).toArray 107) = w7 at *
    generalize wr.heap.size = nB at *
    have NAT := Lib.hid (fun (X : World) (hX : X.heap[nB]? = w7.heap[nB]?) => Kind.at_same N1.out hX)
    refine wp_region_held_drew (S := fun X => Below w.heap.size w X ∧ X.heap[nB]? = w7.heap[nB]?) (by kernel_rfl) ⟨B1.out.drew, rfl⟩ (fun hS => ?_)
    have O1d := Lib.hid (own_below O1.out ((Below.refl w7.heap.size w7).drew))
    have SD := Lib.hid (show w7.heap.size ≤ (World.drew w7).heap.size from (Below.refl w7.heap.size w7).drew.size)
    have SS0 := Lib.hid hS
    generalize World.drew _ = Y0 at *
    refine wpHv (i := 0) (oi := ⟨some 34, _, _, _, _, _⟩) (v := ?_) rfl ?_ hS ?_; rotate_left; (focus (intro w9 hSw; go_simp; try with_reducible rfl)); simp only [Act.put, Z2, Z3, Z4]
    refine wpHv (i := 1) (oi := ⟨some 35, _, _, _, _, _⟩) (v := ?_) rfl ?_ hS ?_; rotate_left; (focus (intro w9 hSw; go_simp; try with_reducible rfl)); simp only [Act.put, Z2, Z3, Z4]
    refine wpHv (i := 2) (oi := ⟨some 36, _, _, _, _, _⟩) (v := ?_) rfl ?_ hS ?_; rotate_left; (focus (intro w9 hSw; have q0 := sig_wk (NAT.out w9 hSw.2); go_simp; try with_reducible rfl)); simp only [Act.put, Z2, Z3, Z4]
    refine wpHv (i := 5) (oi := ⟨some 39, _, _, _, _, _⟩) (v := ?_) rfl ?_ hS ?_; rotate_left; (focus (intro w9 hSw; go_simp; try with_reducible rfl)); simp only [Act.put, Z2, Z3, Z4]
    refine wpHv (i := 6) (oi := ⟨some 40, _, _, _, _, _⟩) (v := (.slice (some ⟨nB, 1, none⟩) 32 32)) rfl ?_ hS ?_; (focus (intro w9 hSw; have q0 := sl_dig nB 1 w9; go_simp; try rfl)); simp only [Act.put, Z2, Z3, Z4]
    refine wpAnyH_ready (rs := [3]) (by kernel_rfl) (by simp) (AllReadyH.cons (o := ⟨some 37, _, _, _, _, _⟩) rfl (fun K hK => ?_) AllReadyH.nil)
    go_simp
    refine (HWD.out _).mono ?_
    rintro e8 w8 ⟨A7, n7, k7, rfl, hn7, hnk7, hkm7, hown7, hb7⟩
    have SS8 := Lib.hid (show Below w.heap.size w w8 ∧ w8.heap[nB]? = w7.heap[nB]? from ⟨SS0.out.1.trans (hb7.mono SS0.out.1.size), (hb7.block nB (Nat.lt_of_lt_of_le NLT.out SD.out)).trans SS0.out.2⟩)
    have S8 := Lib.hid (BsAt.own hown7)
    have O8 := Lib.hid (own_below O1d.out hb7)
    have HNE := Lib.hid (own_apart O1d.out hown7)
    have HN7 := Lib.hid (show n7 = 4 from hn7.symm.trans rfl)
    have SZ8 := Lib.hid (show nB < w8.heap.size from Nat.lt_of_lt_of_le (Nat.lt_of_lt_of_le NLT.out SD.out) hb7.size)
    obtain ⟨b7, o7, hA7, _⟩ := S8.out.1 (fun h => by have := congrArg List.length h; rw [word_len] at this; cases this)
    subst hA7
    clear hn7 hnk7 hkm7 hown7 hb7
    refine hK.out _ _ SS8.out (fun hS => ?_)
    clear hK K
    try simp only [Act.put, Z2, Z3, Z4]
    refine wpAnyH_ready (rs := [4]) (by kernel_rfl) (by simp) (AllReadyH.cons (o := ⟨some 38, _, _, _, _, _⟩) rfl (fun K hK => ?_) AllReadyH.nil)
    refine step_append_bytM (o := ⟨some 38, _, _, _, _, _⟩) rfl (.tmp 34) (.tmp 37) 27 rfl w.heap.size 5 i0 Tryd.underlying27 hi hz0 hz1 hz2 _ m P rfl O8.out _ ⟨b7, o7, none⟩ n7 k7 (word g.wk) rfl S8.out.1 S8.out.2.1 (by have := HM9.out; have := HN7.out; omega) SS8.out.1.size ?_
    intro v11 w11 ho11 hg11
    have SS11 := Lib.hid (show Below w.heap.size w w11 ∧ w11.heap[nB]? = w7.heap[nB]? from ⟨SS8.out.1.grown hg11 SS8.out.1.size (fun q hq => own_base O8.out hq), (hg11.block nB (by exact SZ8.out) (fun hq => own_ty O8.out (SS8.out.2.trans NBK.out) (by decide) hq.symm)).trans SS8.out.2⟩)
    have O11 := Lib.hid ho11
    have SZ11 := Lib.hid (show nB < w11.heap.size from Nat.lt_of_lt_of_le SZ8.out hg11.size)
    have DB := Lib.hid (dig_byt (sig_dig (NAT.out w11 SS11.out.2)) SOK.out.2.2.1 SZ11.out)
    clear ho11 hg11
    refine hK.out _ _ SS11.out (fun hS => ?_)
    clear hK K
    try simp only [Act.put, Z2, Z3, Z4]
    refine wpAnyH_ready (rs := [7]) (by kernel_rfl) (by simp) (AllReadyH.cons (o := ⟨some 41, _, _, _, _, _⟩) rfl (fun K hK => ?_) AllReadyH.nil)
    refine step_append_bytM (o := ⟨some 41, _, _, _, _, _⟩) rfl (.tmp 38) (.tmp 40) 27 rfl w.heap.size 5 i0 Tryd.underlying27 hi hz0 hz1 hz2 _ (m + n7) (P ++ word g.wk) rfl O11.out _ ⟨nB, 1, none⟩ 32 32 g.ds rfl DB.out.1 DB.out.2.1 (by have := HM9.out; have := HN7.out; omega) SS11.out.1.size ?_
    intro v12 w12 ho12 hg12
    have SS12 := Lib.hid (show Below w.heap.size w w12 ∧ w12.heap[nB]? = w7.heap[nB]? from ⟨SS11.out.1.grown hg12 SS11.out.1.size (fun q hq => own_base O11.out hq), (hg12.block nB (by exact SZ11.out) (fun hq => own_ty O11.out (SS11.out.2.trans NBK.out) (by decide) hq.symm)).trans SS11.out.2⟩)
    have O12 := Lib.hid ho12
    clear ho12 hg12
    refine hK.out _ _ SS12.out (fun hS => ?_)
    clear hK K
    try simp only [Act.put, Z2, Z3, Z4]
    refine wpHv (i := 8) (oi := ⟨some 5, _, _, _, _, _⟩) (v := ?_) rfl ?_ hS ?_; rotate_left; (focus (intro w9 hSw; go_simp; try with_reducible rfl)); simp only [Act.put, Z2, Z3, Z4]
    refine wpAnyH_done (by kernel_rfl) ?_ _
    go_wp2
    go_roundw
    case rel => exact ⟨k + 1, m + n7 + 32, by have := HLT.out; omega, by go_num, by rw [HNX.out, show sgB g = word g.wk ++ g.ds from rfl, ← List.append_assoc]; exact O12.out, SS12.out.1⟩
    case measure => have := HLT.out; simp [intOf]; omega
   ·have hkn : k = nb := by omega
    subst hkn
    have t1 : ¬ (k : Int) < (k : Int) := by omega
    clear ho hb
    go_wp2
    go_ret
    rw [HENB.out, ← List.take_length (l := bs), HNB.out]
    exact gives_own HO.out HBB.out
 ·go_simp
  refine (HPG.out _).mono ?_
  rintro e4 X4 ⟨A3, n3, k3, rfl, hn3, hnk3, hkm3, hown3, hb3⟩
  have G3 := Lib.hid (G2.out.trans (hb3.mono G2.out.size))
  have T22 := Lib.hid (BsAt.own hown3)
  refine hK.out _ _ G3.out (fun hS => ?_)
  clear hK K
  try simp only [Act.put, Z2, Z3, Z4]
  clear hn3 hnk3 hkm3 hown3 hb3
  refine wpAnyH_ready (rs := [3]) (by kernel_rfl) (by simp) (AllReadyH.cons (o := ⟨some 17, _, _, _, _, _⟩) rfl (fun K hK => ?_) AllReadyH.nil)
  refine step_oneM (o := ⟨some 17, _, _, _, _, _⟩) rfl (.tmp 16) rfl no rfl ?_
  refine hK.out _ _ (G3.out.alloc G3.out.size (.cells #[.int .u8 no] 5)) (fun hS => ?_)
  clear hK K
  try simp only [Act.put, Z2, Z3, Z4]
  have G4 := Lib.hid (G3.out.alloc G3.out.size (.cells #[.int .u8 no] 5))
  have T17 := Lib.hid (one_byt X4 no)
  have T22 := Lib.hid (T22.out.below ((Below.refl X4.heap.size X4).alloc (Nat.le_refl _) (.cells #[.int .u8 no] 5)) (Nat.le_refl _))
  generalize hg0 : X4.heap.size = g0 at *
  clear hg0
  generalize X4.alloc (.cells #[.int .u8 no] 5) = X6 at *
  refine wpAnyH_ready (rs := [11]) (by kernel_rfl) (by simp) (AllReadyH.cons (o := ⟨some 25, _, _, _, _, _⟩) rfl (fun K hK => ?_) AllReadyH.nil)
  go_simp
  refine hK.out _ _ (G4.out.alloc G4.out.size (.cells #[.slice (some ⟨g0, 0, none⟩) 1 1, .slice A1 n1 k1, .slice A3 n3 k3, .slice (some ⟨w.heap.size, 4, none⟩) 32 32] 27)) (fun hS => ?_)
  clear hK K
  try simp only [Act.put, Z2, Z3, Z4]
  have BA := (Below.refl X6.heap.size X6).alloc (Nat.le_refl _) (.cells #[.slice (some ⟨g0, 0, none⟩) 1 1, .slice A1 n1 k1, .slice A3 n3 k3, .slice (some ⟨w.heap.size, 4, none⟩) 32 32] 27)
  have hh : (X6.alloc (.cells #[.slice (some ⟨g0, 0, none⟩) 1 1, .slice A1 n1 k1, .slice A3 n3 k3, .slice (some ⟨w.heap.size, 4, none⟩) 32 32] 27)).heap[X6.heap.size]? = some (.cells #[.slice (some ⟨g0, 0, none⟩) 1 1, .slice A1 n1 k1, .slice A3 n3 k3, .slice (some ⟨w.heap.size, 4, none⟩) 32 32] 27) := heap_alloc_new X6 _
  have T18 := Lib.hid (O2.out.below G4.out (Nat.le_refl _))
  have T24 := Lib.hid (dig_byt (HXD.out X6 G4.out) HD.out (by have := hlt1.out; have := C2.out.size; have := G4.out.size; omega))
  have HC := Lib.hid (concat4_any X6.heap.size (some ⟨g0, 0, none⟩) A1 A3 (some ⟨w.heap.size, 4, none⟩) 1 n1 n3 32 1 k1 k3 32 [no] E1 (enc ln) ds _ (by rw [World.size_alloc]; omega) (by rw [cell_of_row _ _ _ _ _ _ hh]; rfl) (by rw [cell_of_row _ _ _ _ _ _ hh]; rfl) (by rw [cell_of_row _ _ _ _ _ _ hh]; rfl) (by rw [cell_of_row _ _ _ _ _ _ hh]; rfl) (T17.out.below BA (Nat.le_refl _)) (T18.out.below BA (Nat.le_refl _)) (T22.out.below BA (Nat.le_refl _)) (T24.out.below BA (Nat.le_refl _)) (by have := O2.out.2.1; have := T22.out.2.1; have := HE1.out; have := HE2.out; omega) (by omega))
  have G5 := Lib.hid (G4.out.alloc G4.out.size (.cells #[.slice (some ⟨g0, 0, none⟩) 1 1, .slice A1 n1 k1, .slice A3 n3 k3, .slice (some ⟨w.heap.size, 4, none⟩) 32 32] 27))
  clear BA hh
  generalize X6.alloc (.cells #[.slice (some ⟨g0, 0, none⟩) 1 1, .slice A1 n1 k1, .slice A3 n3 k3, .slice (some ⟨w.heap.size, 4, none⟩) 32 32] 27) = X5 at *
  refine wpAnyH_ready (rs := [12]) (by kernel_rfl) (by simp) (AllReadyH.cons (o := ⟨some 26, _, _, _, _, _⟩) rfl (fun K hK => ?_) AllReadyH.nil)
  go_simp
  refine HC.out.mono ?_
  rintro e6 w6 ⟨A6, n6, k6, rfl, hn6, hnk6, hkm6, hown6, hb6⟩
  have G6 := Lib.hid (G5.out.trans (hb6.mono G5.out.size))
  have B6 := Lib.hid (B2.out.trans (G6.out.mono B2.out.size))
  have O6 := Lib.hid (own_wide hown6 (Nat.le_trans B2.out.size G5.out.size))
  have HN6 := Lib.hid hn6
  clear hn6 hnk6 hkm6 hown6 hb6
  refine hK.out _ _ G6.out (fun hS => ?_)
  clear hK K
  try simp only [Act.put, Z2, Z3, Z4]
  refine wpHv (i := 13) (oi := ⟨some 5, _, _, _, _, _⟩) (v := ?_) rfl ?_ hS ?_; rotate_left; (focus (intro w9 hSw; go_simp; try with_reducible rfl)); simp only [Act.put, Z2, Z3, Z4]
  refine wpAnyH_done (by kernel_rfl) ?_ _
  clear hS
  have x36 := HX36.out w6 G6.out
  have HH : Hid (([no] ++ E1 ++ enc ln ++ ds).length ≤ 100) := Lib.hid (by simp only [List.length_append, HD.out, List.length_singleton]; have := HE1.out; have := HE2.out; omega)
  have HRV := Lib.hid (show ([no] ++ E1 ++ enc ln ++ ds) ++ (bs.take 0).flatMap sgB = [no] ++ E1 ++ enc ln ++ ds by simp)
  generalize [no] ++ E1 ++ enc ln ++ ds = H at *
  have hz := zeroSig
  rw [show KSig.v ⟨0, List.replicate 32 0⟩ = .agg (KSig.cs sgz).toArray from rfl] at hz
  have hzne : ¬ (KSig.cs sgz).toArray = #[] := by decide
  obtain ⟨i0, hi, hz0, hz1, hz2⟩ := info_parts infoByte
  generalize hnb : bs.length = nb at *
  have HNB := Lib.hid hnb
  clear hnb HX0 HX3 HXD HX36
  go_wp2
  clear x36
  go_loopw [5, 30] (fun v i wr => ∃ (k m : Nat), k ≤ nb ∧ i = .int .i64 k ∧ wr.ownsRow w.heap.size 5 1 v m ((H ++ (bs.take k).flatMap sgB).map (Value.int .u8)) ∧ Below w.heap.size w wr) (fun _ i _ => nb - (intOf i).toNat)
  case atStart => exact ⟨0, n6, Nat.zero_le _, rfl, by rw [HRV.out]; exact O6.out, B6.out⟩
  case round =>
   obtain ⟨k, m, hk, rfl, ho, hb⟩ := hrel
   have HO := Lib.hid ho
   have HBB := Lib.hid hb
   by_cases hlt : k < nb
   ·have t2 : (k : Int) < (nb : Int) := by omega
    have hkb : k < bs.length := by rw [HNB.out]; exact hlt
    have HLT := Lib.hid hlt
    have hnb25 : nb ≤ 25 := HB25.out
    obtain ⟨b9, off9, hA9, hb9, hat9, hix9⟩ := HSB.out (by omega)
    have hml : m = (H ++ (bs.take k).flatMap sgB).length := by simpa using ho.1.symm
    have hlb := HLB.out k
    have hHH := HH.out
    rw [List.length_take, Nat.min_eq_left (by omega)] at hlb
    rw [List.length_append] at hml
    have HM9 := Lib.hid (show m ≤ 1100 by have := HB25.out; omega)
    have HNX := Lib.hid (flat_take (B := sgB) sg0 hkb H)
    have SOK := Lib.hid (HBO.out _ (mem_getD sg0 hkb))
    have HL9 := Lib.hid (load_sig (Kind.at_same (hat9 k hlt) (hb.block b9 hb9)) SOK.out)
    have IX9 := Lib.hid (hix9 k hlt k rfl)
    generalize bs.getD k sg0 = g at *
    generalize hP : H ++ (bs.take k).flatMap sgB = P at *
    have ix := IX9.out wr
    rw [← hA9] at ix
    clear hA9
    have SZ1 := Lib.hid (sig_size SOK.out)
    have SQ1 := Lib.hid (show (KSig.cs sgz).toArray.size = (KSig.cs g).toArray.size from sig_same sgz_ok SOK.out)
    have SO1 := Lib.hid (sig_ones g)
    have N1 := Lib.hid (Kind.at_blk (K := KSig) (Kind.blk_new (K := KSig) wr g 107))
    have B1 := Lib.hid (hb.alloc hb.size (.cells (KSig.cs g).toArray 107))
    have C1 := Lib.hid ((Below.refl wr.heap.size wr).alloc (Nat.le_refl _) (.cells (KSig.cs g).toArray 107))
    have O1 := Lib.hid (ho.alloc (.cells (KSig.cs g).toArray 107))
    have HWD := Lib.hid (fun X => word_gives g.wk X SOK.out.1 SOK.out.2.1)
    unfold Gives at HWD
    clear hml hlb hHH ho hb hat9 hix9 hP
    go_wp2_with (first | ((with_reducible refine wpList_load_at (o := ⟨some 33, .load 107 (.tmp 32), _, _, _, _⟩) ?e1 107 (.tmp 32) ?e2 ⟨b9, off9 + k * 33, none⟩ ?e3 _ HL9.out ?_); (case e1 => rfl); (case e2 => rfl); (case e3 => rfl)) | ((with_reducible refine wpList_store_new (o := ⟨none, .store 107 (.tmp 7) (.tmp 33), _, _, _, _⟩) ?e1 107 (.tmp 7) (.tmp 33) ?e2 ?e3 (KSig.cs sgz).toArray (KSig.cs g).toArray ?e4 SZ1.out SQ1.out SO1.out ?_); (case e1 => rfl); (case e2 => rfl); (case e3 => rfl); (case e4 => rfl)) | fail)
    clear ix
    have NLT := Lib.hid (show wr.heap.size < (wr.alloc (.cells (KSig.cs g).toArray 107)).heap.size by rw [World.size_alloc]; omega)
    have NBK := Lib.hid (show (wr.alloc (.cells (KSig.cs g).toArray 107)).heap[wr.heap.size]? = some (.cells (KSig.cs g).toArray 107) from heap_alloc_new wr _)
    generalize wr.alloc (.cells (KSig.cs g).toArray 107) = w7 at *
    generalize wr.heap.size = nB at *
    have NAT := Lib.hid (fun (X : World) (hX : X.heap[nB]? = w7.heap[nB]?) => Kind.at_same N1.out hX)
    refine wp_region_held_drew (S := fun X => Below w.heap.size w X ∧ X.heap[nB]? = w7.heap[nB]?) (by kernel_rfl) ⟨B1.out.drew, rfl⟩ (fun hS => ?_)
    have O1d := Lib.hid (own_below O1.out ((Below.refl w7.heap.size w7).drew))
    have SD := Lib.hid (show w7.heap.size ≤ (World.drew w7).heap.size from (Below.refl w7.heap.size w7).drew.size)
    have SS0 := Lib.hid hS
    generalize World.drew _ = Y0 at *
    refine wpHv (i := 0) (oi := ⟨some 34, _, _, _, _, _⟩) (v := ?_) rfl ?_ hS ?_; rotate_left; (focus (intro w9 hSw; go_simp; try with_reducible rfl)); simp only [Act.put, Z2, Z3, Z4]
    refine wpHv (i := 1) (oi := ⟨some 35, _, _, _, _, _⟩) (v := ?_) rfl ?_ hS ?_; rotate_left; (focus (intro w9 hSw; go_simp; try with_reducible rfl)); simp only [Act.put, Z2, Z3, Z4]
    refine wpHv (i := 2) (oi := ⟨some 36, _, _, _, _, _⟩) (v := ?_) rfl ?_ hS ?_; rotate_left; (focus (intro w9 hSw; have q0 := sig_wk (NAT.out w9 hSw.2); go_simp; try with_reducible rfl)); simp only [Act.put, Z2, Z3, Z4]
    refine wpHv (i := 5) (oi := ⟨some 39, _, _, _, _, _⟩) (v := ?_) rfl ?_ hS ?_; rotate_left; (focus (intro w9 hSw; go_simp; try with_reducible rfl)); simp only [Act.put, Z2, Z3, Z4]
    refine wpHv (i := 6) (oi := ⟨some 40, _, _, _, _, _⟩) (v := (.slice (some ⟨nB, 1, none⟩) 32 32)) rfl ?_ hS ?_; (focus (intro w9 hSw; have q0 := sl_dig nB 1 w9; go_simp; try rfl)); simp only [Act.put, Z2, Z3, Z4]
    refine wpAnyH_ready (rs := [3]) (by kernel_rfl) (by simp) (AllReadyH.cons (o := ⟨some 37, _, _, _, _, _⟩) rfl (fun K hK => ?_) AllReadyH.nil)
    go_simp
    refine (HWD.out _).mono ?_
    rintro e8 w8 ⟨A7, n7, k7, rfl, hn7, hnk7, hkm7, hown7, hb7⟩
    have SS8 := Lib.hid (show Below w.heap.size w w8 ∧ w8.heap[nB]? = w7.heap[nB]? from ⟨SS0.out.1.trans (hb7.mono SS0.out.1.size), (hb7.block nB (Nat.lt_of_lt_of_le NLT.out SD.out)).trans SS0.out.2⟩)
    have S8 := Lib.hid (BsAt.own hown7)
    have O8 := Lib.hid (own_below O1d.out hb7)
    have HNE := Lib.hid (own_apart O1d.out hown7)
    have HN7 := Lib.hid (show n7 = 4 from hn7.symm.trans rfl)
    have SZ8 := Lib.hid (show nB < w8.heap.size from Nat.lt_of_lt_of_le (Nat.lt_of_lt_of_le NLT.out SD.out) hb7.size)
    obtain ⟨b7, o7, hA7, _⟩ := S8.out.1 (fun h => by have := congrArg List.length h; rw [word_len] at this; cases this)
    subst hA7
    clear hn7 hnk7 hkm7 hown7 hb7
    refine hK.out _ _ SS8.out (fun hS => ?_)
    clear hK K
    try simp only [Act.put, Z2, Z3, Z4]
    refine wpAnyH_ready (rs := [4]) (by kernel_rfl) (by simp) (AllReadyH.cons (o := ⟨some 38, _, _, _, _, _⟩) rfl (fun K hK => ?_) AllReadyH.nil)
    refine step_append_bytM (o := ⟨some 38, _, _, _, _, _⟩) rfl (.tmp 34) (.tmp 37) 27 rfl w.heap.size 5 i0 Tryd.underlying27 hi hz0 hz1 hz2 _ m P rfl O8.out _ ⟨b7, o7, none⟩ n7 k7 (word g.wk) rfl S8.out.1 S8.out.2.1 (by have := HM9.out; have := HN7.out; omega) SS8.out.1.size ?_
    intro v11 w11 ho11 hg11
    have SS11 := Lib.hid (show Below w.heap.size w w11 ∧ w11.heap[nB]? = w7.heap[nB]? from ⟨SS8.out.1.grown hg11 SS8.out.1.size (fun q hq => own_base O8.out hq), (hg11.block nB (by exact SZ8.out) (fun hq => own_ty O8.out (SS8.out.2.trans NBK.out) (by decide) hq.symm)).trans SS8.out.2⟩)
    have O11 := Lib.hid ho11
    have SZ11 := Lib.hid (show nB < w11.heap.size from Nat.lt_of_lt_of_le SZ8.out hg11.size)
    have DB := Lib.hid (dig_byt (sig_dig (NAT.out w11 SS11.out.2)) SOK.out.2.2.1 SZ11.out)
    clear ho11 hg11
    refine hK.out _ _ SS11.out (fun hS => ?_)
    clear hK K
    try simp only [Act.put, Z2, Z3, Z4]
    refine wpAnyH_ready (rs := [7]) (by kernel_rfl) (by simp) (AllReadyH.cons (o := ⟨some 41, _, _, _, _, _⟩) rfl (fun K hK => ?_) AllReadyH.nil)
    refine step_append_bytM (o := ⟨some 41, _, _, _, _, _⟩) rfl (.tmp 38) (.tmp 40) 27 rfl w.heap.size 5 i0 Tryd.underlying27 hi hz0 hz1 hz2 _ (m + n7) (P ++ word g.wk) rfl O11.out _ ⟨nB, 1, none⟩ 32 32 g.ds rfl DB.out.1 DB.out.2.1 (by have := HM9.out; have := HN7.out; omega) SS11.out.1.size ?_
    intro v12 w12 ho12 hg12
    have SS12 := Lib.hid (show Below w.heap.size w w12 ∧ w12.heap[nB]? = w7.heap[nB]? from ⟨SS11.out.1.grown hg12 SS11.out.1.size (fun q hq => own_base O11.out hq), (hg12.block nB (by exact SZ11.out) (fun hq => own_ty O11.out (SS11.out.2.trans NBK.out) (by decide) hq.symm)).trans SS11.out.2⟩)
    have O12 := Lib.hid ho12
    clear ho12 hg12
    refine hK.out _ _ SS12.out (fun hS => ?_)
    clear hK K
    try simp only [Act.put, Z2, Z3, Z4]
    refine wpHv (i := 8) (oi := ⟨some 5, _, _, _, _, _⟩) (v := ?_) rfl ?_ hS ?_; rotate_left; (focus (intro w9 hSw; go_simp; try with_reducible rfl)); simp only [Act.put, Z2, Z3, Z4]
    refine wpAnyH_done (by kernel_rfl) ?_ _
    go_wp2
    go_roundw
    case rel => exact ⟨k + 1, m + n7 + 32, by have := HLT.out; omega, by go_num, by rw [HNX.out, show sgB g = word g.wk ++ g.ds from rfl, ← List.append_assoc]; exact O12.out, SS12.out.1⟩
    case measure => have := HLT.out; simp [intOf]; omega
   ·have hkn : k = nb := by omega
    subst hkn
    have t1 : ¬ (k : Int) < (k : Int) := by omega
    clear ho hb
    go_wp2
    go_ret
    rw [HENB.out, ← List.take_length (l := bs), HNB.out]
    exact gives_own HO.out HBB.out
end
end Go.Proofs.YtkjimhlpbgeagaaDoor
