import Derived.Test.YtkjimhlpbgeagaaGreatDoorF0
import Derived.Test.YtkjimhlpbgeagaaGreatDoorF27
import Derived.Test.YtkjimhlpbgeagaaGreatDoorF11
import Derived.Test.YtkjimhlpbgeagaaGreatDoorF24
/-
  What the functions that a law of this layer reaches answer, part 28. Nothing that was there is written.
-/
namespace Go.Proofs.YtkjimhlpbgeagaaGreatDoor
set_option linter.unusedVariables false
set_option linter.unusedSimpArgs false
section
open Go.RowKit WM
set_option maxRecDepth 100000
theorem exec_lookup_G {P : Program} {α : Type} {K : MKey P α} {w : World} {b n : Nat} {f : α → Option Value} {z : Value} {o : Oper} {ρ : Operand → Value} (t : TypeId) (m x : Operand) (hop : o.op = Op.lookup t m x true)
  {e : TypeId} (ht : P.underlying t = some (.map K.t e)) (hz : ∀ w, (zeroValue e).run P w = .ok z w) (k : α) (hm : ρ m = .map (some b)) (hx : ρ x = K.v k) (h : GMs K w b n f z) (hk : K.ok k) {d : Value} {i : Bool} (hd : (f k).getD z = d) (hi : (f k).isSome = i) :
  (execOp ρ o).run P w = .ok (.value (.tuple #[d, .bool i])) w := by
 subst hd hi
 have hrun := h.look ht hz hk
 simp [execOp, hop, hm, hx, hrun, Result.andThen]
theorem pl_id {w : World} {g : Nat} {z : List Int} {no : Int} (h : w.heap[g]? = some (.cells (plC z no).toArray 76)) (hz : z.length = 16) : KId.at w g 0 z := fun j hj => by
 have hj : j < 16 := hj
 rw [Nat.zero_add, cell_of_row _ _ _ _ _ _ h, List.getElem?_toArray]
 exact List.getElem?_append_left (by rw [List.length_map, hz]; exact hj)
theorem pl_no {w : World} {g : Nat} {z : List Int} {no : Int} (h : w.heap[g]? = some (.cells (plC z no).toArray 76)) (hz : z.length = 16) : w.cell? ⟨g, 16, none⟩ = some (.int .i64 no) := by
 rw [cell_of_row _ _ _ _ _ _ h, List.getElem?_toArray]
 unfold plC
 rw [List.getElem?_append_right (by rw [List.length_map, hz]; exact Nat.le_refl _), List.length_map, hz]
 rfl
theorem mlike_16 {m : MnA} {w : World} (h : m.Ok w) (d : List Int) (n : Int) : ((mlike m.m d n).getD (z16m, 0)).1.length = 16 := by
 cases hl : mlike m.m d n with
 | none => rfl
 | some p =>
  obtain ⟨z, no⟩ := p
  obtain ⟨x, hx, e, _, h2, _⟩ := llike_some hl
  obtain ⟨y, hy, rfl⟩ := List.mem_map.1 hx
  rw [← h2]
  exact (h.2.2.2.2.2.2 y hy).1
set_option maxHeartbeats 8000000 in
theorem plike12_any (m : MnA) (d : List Int) (n : Int) (w : World) (h : m.Ok w) (hd : d.length = 32 ∧ AllBytes d) (hn : (Lit.int .i64 n).wf = true) (hl : (allE m.ls).length ≤ 1000000) : Calls Tryz.prog 10 #[m.v, .agg (bvals d), .int .i64 n] w (LikePost w (mlike m.m d n)) := by
 have HV := Lib.hid (show fE (allE m.ls) (d, n) = (mlike m.m d n).map plV from fE_all d n m.ls)
 have HQ16 := Lib.hid (mlike_16 h d n)
 have HKK : Hid (Dk.ok (d, n)) := Lib.hid ⟨hd.1, hd.2, hn⟩
 have HFIN : Hid (∀ W, Below w.heap.size w W → LikePost w (mlike m.m d n) (.returned (.tuple #[.agg (bvals ((mlike m.m d n).getD (z16m, 0)).1), .int .i64 ((mlike m.m d n).getD (z16m, 0)).2, .bool (mlike m.m d n).isSome])) W) := Lib.hid (fun W hW => by
  refine ⟨?_, hW⟩
  cases mlike m.m d n with
  | none => rfl
  | some p => rfl)
 have HDV : Hid ((fE (allE m.ls) (d, n)).getD plZ = .agg (plC ((mlike m.m d n).getD (z16m, 0)).1 ((mlike m.m d n).getD (z16m, 0)).2).toArray) := Lib.hid (by
  rw [HV.out]
  cases mlike m.m d n with
  | none => rfl
  | some p => rfl)
 have HDI : Hid ((fE (allE m.ls) (d, n)).isSome = (mlike m.m d n).isSome) := Lib.hid (by rw [HV.out]; cases mlike m.m d n <;> rfl)
 generalize LikePost w (mlike m.m d n) = RR at *
 generalize hq : (mlike m.m d n).getD (z16m, 0) = q at *
 generalize mlike m.m d n = V at *
 have MA := ((MnAt.new w m).below ((Below.refl _ _).alloc (Nat.le_refl _) (.cells (bvals d) 23)) (MnAt.new w m).lt)
 have DA := Kind.blk_new (K := KDig) (w.alloc (.cells m.cs.toArray 26)) d 23
 rw [World.size_alloc] at DA
 obtain ⟨w1, hw1⟩ : ∃ w1, w1 = ((w.alloc (.cells m.cs.toArray 26)).alloc (.cells (bvals d) 23)).alloc (.cells (bvals z16m) 30) := ⟨_, rfl⟩
 have hs1 : w1.heap.size = w.heap.size + 1 + 1 + 1 := by rw [hw1]; simp [World.size_alloc]
 have b1 : Below w.heap.size w w1 := by
  rw [hw1]
  exact (((Below.refl _ _).alloc (Nat.le_refl _) _).alloc (by rw [World.size_alloc]; omega) _).alloc (by simp [World.size_alloc]; omega) _
 have BW1 := Lib.hid b1
 have ba : Below ((w.alloc (.cells m.cs.toArray 26)).alloc (.cells (bvals d) 23)).heap.size ((w.alloc (.cells m.cs.toArray 26)).alloc (.cells (bvals d) 23)) w1 := by rw [hw1]; exact (Below.refl _ _).alloc (Nat.le_refl _) _
 have M1 := MA.below ba MA.lt
 have D1 := Kind.blk_below DA ba (Kind.blk_lt DA)
 have R1 := heap_alloc_new ((w.alloc (.cells m.cs.toArray 26)).alloc (.cells (bvals d) 23)) (.cells (bvals z16m) 30)
 rw [← hw1, World.size_alloc, World.size_alloc] at R1
 have LM := Lib.hid (fun X (hX : Below w1.heap.size w1 X) => load_mn (M1.below hX M1.lt) (MnA.below h (b1.trans (hX.mono b1.size))))
 have LDD := Lib.hid (fun X (hX : Below w1.heap.size w1 X) => load_dig (Kind.at_blk (Kind.blk_below D1 hX (Kind.blk_lt D1))) hd.1)
 have RES := Lib.hid (fun X (hX : Below w1.heap.size w1 X) => (hX.block _ (Array.getElem?_eq_some_iff.1 R1).1).trans R1)
 have HPL := Lib.hid (fun X (hX : Below w1.heap.size w1 X) => mplaces_any m X (MnA.below h (b1.trans (hX.mono b1.size))) hl)
 unfold PlcP at HPL
 have HBK := Lib.hid (show ∀ w, (Instr.build 81 #[(0, .agg (bvals d)), (1, .int .i64 n)]).run Tryz.prog w = .ok (.agg (Dk.cs (d, n)).toArray) w from build_dk (k := (d, n)) hd.1)
 have HEK := Lib.hid (show mkDk.v (d, n) = .agg (Dk.cs (d, n)).toArray from rfl)
 have SZI := Lib.hid (id_size HQ16.out)
 have SQI := Lib.hid (show (bvals z16m).size = (bvals q.1).size by simp [bvals, HQ16.out, z16m])
 have SOI := Lib.hid (id_ones q.1)
 have SZP := Lib.hid (pl_size HQ16.out q.2)
 have SQP := Lib.hid (show (plC z16m 0).toArray.size = (plC q.1 q.2).toArray.size by rw [List.size_toArray, List.size_toArray]; simp [plC, HQ16.out, z16m])
 have SOP := Lib.hid (pl_ones q.1 q.2)
 have hzi := zeroIdM
 have hzp := zeroPlace
 unfold plZ plV at hzp
 dsimp only at hzp
 have hzne2 : ¬ (bvals z16m) = #[] := by decide
 have hzne4 : ¬ (plC z16m 0).toArray = #[] := by decide
 have HW1 := Lib.hid hs1
 have hv : m.v = .agg m.cs.toArray := rfl
 rw [hv] at LM HPL ⊢
 generalize m.cs.toArray = EM at *
 generalize hls : m.ls = ls at *
 generalize (Dk.cs (d, n)).toArray = EK at *
 clear h hn hl MA DA M1 D1 R1 b1 ba hs1 hv hq hls
 subst hw1
 go_enter Tryz.func10, Tryz.ntmps10
 go_wp2_with fail
 generalize ((w.alloc (.cells EM 26)).alloc (.cells (bvals d) 23)).alloc (.cells (bvals z16m) 30) = w1 at *
 refine wp_region_held_drew (S := fun w9 => Below w1.heap.size w1 w9) (by kernel_rfl) ((Below.refl _ _).drew) (fun hS => ?_)
 have S0 := Lib.hid hS
 generalize World.drew _ = X at *
 refine wpHv (i := 0) (oi := ⟨some 12, _, _, _, _, _⟩) (v := (.agg EM)) rfl ?_ hS ?_; (focus (intro w9 hSw; exact exec_load_at 26 _ rfl _ rfl (LM.out w9 hSw))); simp only [Act.put, Z2, Z3, Z4]
 refine wpHv (i := 2) (oi := ⟨some 14, _, _, _, _, _⟩) (v := (.agg (bvals d))) rfl ?_ hS ?_; (focus (intro w9 hSw; exact exec_load_at 23 _ rfl _ rfl (LDD.out w9 hSw))); simp only [Act.put, Z2, Z3, Z4]
 refine wpHv (i := 3) (oi := ⟨some 15, _, _, _, _, _⟩) (v := ?_) rfl ?_ hS ?_; rotate_left; (focus (intro w9 hSw; go_simp; try with_reducible rfl)); simp only [Act.put, Z2, Z3, Z4]
 refine wpHv (i := 4) (oi := ⟨some 16, _, _, _, _, _⟩) (v := (.agg EK)) rfl ?_ hS ?_; (focus (intro w9 hSw; exact exec_build_at 81 #[(0, .tmp 14), (1, .tmp 15)] rfl _ (by simp only [List.map_toArray, List.map_cons, List.map_nil]; rfl) (HBK.out w9))); simp only [Act.put, Z2, Z3, Z4]
 refine wpAnyH_ready (rs := [1, 9]) (by kernel_rfl) (by simp) (AllReadyH.cons (o := ⟨some 13, _, _, _, _, _⟩) rfl (fun K hK => ?_) (AllReadyH.cons (o := ⟨some 9, _, _, _, _, _⟩) rfl (fun K hK => ?_) AllReadyH.nil))
 ·go_simp
  refine (HPL.out _ S0.out).mono ?_
  rintro e X1 ⟨b, nb, rfl, hgm, hb1⟩
  have S1 := Lib.hid (Below.trans S0.out (hb1.mono (Below.size S0.out)))
  have GM := Lib.hid hgm
  clear hgm hb1
  refine hK.out _ _ S1.out (fun hS => ?_)
  clear hK K
  try simp only [Act.put, Z2, Z3, Z4]
  refine wpAnyH_sub (S' := fun w9 => Below w1.heap.size w1 w9 ∧ GMs mkDk w9 b nb (fE (allE ls)) plZ) (fun _ h => h.1) ?_
  have hS := And.intro S1.out GM.out
  refine wpHv (i := 5) (oi := ⟨some 17, _, _, _, _, _⟩) (v := (.tuple #[.agg (plC q.1 q.2).toArray, .bool V.isSome])) rfl ?_ hS ?_; (focus (intro w9 hSw; exact exec_lookup_G (K := mkDk) 78 (.tmp 13) (.tmp 16) rfl Tryz.underlying78 (fun w => zeroPlace w) (d, n) rfl HEK.out.symm hSw.2 HKK.out HDV.out HDI.out)); simp only [Act.put, Z2, Z3, Z4]
  refine wpHv (i := 6) (oi := ⟨some 11, _, _, _, _, _⟩) (v := ?_) rfl ?_ hS ?_; rotate_left; (focus (intro w9 hSw; go_simp; try with_reducible rfl)); simp only [Act.put, Z2, Z3, Z4]
  refine wpHv (i := 7) (oi := ⟨some 18, _, _, _, _, _⟩) (v := ?_) rfl ?_ hS ?_; rotate_left; (focus (intro w9 hSw; go_simp; try with_reducible rfl)); simp only [Act.put, Z2, Z3, Z4]
  refine wpHv (i := 8) (oi := ⟨some 19, _, _, _, _, _⟩) (v := ?_) rfl ?_ hS ?_; rotate_left; (focus (intro w9 hSw; go_simp; try with_reducible rfl)); simp only [Act.put, Z2, Z3, Z4]
  refine wpAnyH_ready (rs := [9]) (by kernel_rfl) (by simp) (AllReadyH.cons (o := ⟨some 9, _, _, _, _, _⟩) rfl (fun K hK => ?_) AllReadyH.nil)
  go_simp
  obtain ⟨g, hgdef⟩ : ∃ g, g = X1.heap.size := ⟨_, rfl⟩
  have HGG := Lib.hid (show w1.heap.size ≤ g by rw [hgdef]; exact S1.out.size)
  have S2 := Lib.hid (S1.out.alloc S1.out.size (.cells (plC z16m 0).toArray 76))
  have G2 := Lib.hid (GM.out.below ((Below.refl _ _).alloc (Nat.le_refl _) (.cells (plC z16m 0).toArray 76)) GM.out.lt)
  have HBG := Lib.hid (show b ≠ g by have := GM.out.lt; omega)
  have GZ := Lib.hid (heap_alloc_new X1 (.cells (plC z16m 0).toArray 76))
  rw [← hgdef] at GZ ⊢
  generalize X1.alloc (.cells (plC z16m 0).toArray 76) = X2 at *
  refine hK.out _ _ ⟨S2.out, G2.out⟩ (fun hS => ?_)
  clear hK K hgdef
  try simp only [Act.put, Z2, Z3, Z4]
  refine wpAnyH_ready (rs := [10]) (by kernel_rfl) (by simp) (AllReadyH.cons (o := ⟨none, _, _, _, _, _⟩) rfl (fun K hK => ?_) AllReadyH.nil)
  refine step_store_G (o := ⟨none, _, _, _, _, _⟩) rfl 76 (.tmp 9) (.tmp 18) rfl ⟨g, 0, none⟩ _ rfl rfl (run_storeVar_row (P := Tryz.prog) X2 g 76 76 _ _ GZ.out SZP.out SQP.out SOP.out) ?_
  have SD := Lib.hid (below_setRow S2.out HGG.out (plC q.1 q.2).toArray)
  have GB := Lib.hid (show (X2.setRow g (plC q.1 q.2).toArray).heap[g]? = some (.cells (plC q.1 q.2).toArray 76) from setRow_heap _ _ _ _ _ _ GZ.out)
  have G3 := Lib.hid (G2.out.same (setRow_other X2 g b (plC q.1 q.2).toArray HBG.out))
  refine hK.out _ _ ⟨SD.out, G3.out⟩ (fun hS => ?_)
  clear hK K
  try simp only [Act.put]
  refine wpHv (i := 11) (oi := ⟨some 10, _, _, _, _, _⟩) (v := ?_) rfl ?_ hS ?_; rotate_left; (focus (intro w9 hSw; go_simp; try with_reducible rfl)); simp only [Act.put, Z2, Z3, Z4]
  refine wpAnyH_done (by kernel_rfl) ?_ _
  generalize World.setRow _ _ _ = Wd at *
  go_wp2_with fail
  refine wp_region_held_drew (S := fun w9 => w9.heap[g]? = some (.cells (plC q.1 q.2).toArray 76)) (by kernel_rfl) GB.out (fun hS => ?_)
  have SE := Lib.hid (SD.out.drew)
  generalize World.drew _ = Z at *
  refine wpHv (i := 0) (oi := ⟨some 20, _, _, _, _, _⟩) (v := ?_) rfl ?_ hS ?_; rotate_left; (focus (intro w9 hSw; go_simp; try with_reducible rfl)); simp only [Act.put, Z2, Z3, Z4]
  refine wpHv (i := 1) (oi := ⟨some 21, _, _, _, _, _⟩) (v := (.agg (bvals q.1))) rfl ?_ hS ?_; (focus (intro w9 hSw; exact exec_load_at 30 _ rfl ⟨g, 0, none⟩ rfl (load_idM (pl_id hSw HQ16.out) HQ16.out))); simp only [Act.put, Z2, Z3, Z4]
  refine wpHv (i := 2) (oi := ⟨some 22, _, _, _, _, _⟩) (v := ?_) rfl ?_ hS ?_; rotate_left; (focus (intro w9 hSw; go_simp; try with_reducible rfl)); simp only [Act.put, Z2, Z3, Z4]
  refine wpHv (i := 3) (oi := ⟨some 23, _, _, _, _, _⟩) (v := ?_) rfl ?_ hS ?_; rotate_left; (focus (intro w9 hSw; have q0 := pl_no hSw HQ16.out; go_simp; try with_reducible rfl)); simp only [Act.put, Z2, Z3, Z4]
  refine wpHv (i := 4) (oi := ⟨some 24, _, _, _, _, _⟩) (v := ?_) rfl ?_ hS ?_; rotate_left; (focus (intro w9 hSw; go_simp; try with_reducible rfl)); simp only [Act.put, Z2, Z3, Z4]
  refine wpAnyH_ready (rs := [5]) (by kernel_rfl) (by simp) (AllReadyH.cons (o := ⟨none, _, _, _, _, _⟩) rfl (fun K hK => ?_) AllReadyH.nil)
  have NB := Lib.hid (RES.out Z SE.out)
  have HNE := Lib.hid (show g ≠ w.heap.size + 1 + 1 by have := HGG.out; have := HW1.out; omega)
  refine step_store_G (o := ⟨none, _, _, _, _, _⟩) rfl 30 (.tmp 6) (.tmp 21) rfl ⟨w.heap.size + 1 + 1, 0, none⟩ _ rfl rfl (run_storeVar_row (P := Tryz.prog) Z (w.heap.size + 1 + 1) 30 30 _ _ NB.out SZI.out SQI.out SOI.out) ?_
  have SF := Lib.hid (below_setRow (BW1.out.trans (SE.out.mono BW1.out.size)) (show w.heap.size ≤ w.heap.size + 1 + 1 by omega) (bvals q.1))
  have NF := Lib.hid (show (Z.setRow (w.heap.size + 1 + 1) (bvals q.1)).heap[w.heap.size + 1 + 1]? = some (.cells (bvals q.1) 30) from setRow_heap _ _ _ _ _ _ NB.out)
  refine hK.out _ _ ((setRow_other Z (w.heap.size + 1 + 1) g _ HNE.out).trans hS) (fun hS => ?_)
  clear hK K
  try simp only [Act.put]
  refine wpHv (i := 6) (oi := ⟨some 7, _, _, _, _, _⟩) (v := ?_) rfl ?_ hS ?_; rotate_left; (focus (intro w9 hSw; go_simp; try with_reducible rfl)); simp only [Act.put, Z2, Z3, Z4]
  refine wpHv (i := 7) (oi := ⟨some 8, _, _, _, _, _⟩) (v := ?_) rfl ?_ hS ?_; rotate_left; (focus (intro w9 hSw; go_simp; try with_reducible rfl)); simp only [Act.put, Z2, Z3, Z4]
  refine wpAnyH_done (by kernel_rfl) ?_ _
  go_wp2
  refine bodyPost_ret (v := .tuple #[.agg (bvals q.1), .int .i64 q.2, .bool V.isSome]) ?_ rfl ?_
  ·exact res_id3 Tryz.results10 rfl NF.out HQ16.out
  ·exact HFIN.out _ SF.out
 ·go_simp
  obtain ⟨g, hgdef⟩ : ∃ g, g = X.heap.size := ⟨_, rfl⟩
  have HGG := Lib.hid (show w1.heap.size ≤ g by rw [hgdef]; exact S0.out.size)
  have SA := Lib.hid (S0.out.alloc S0.out.size (.cells (plC z16m 0).toArray 76))
  have GA := Lib.hid (heap_alloc_new X (.cells (plC z16m 0).toArray 76))
  rw [← hgdef] at GA ⊢
  generalize X.alloc (.cells (plC z16m 0).toArray 76) = XA at *
  refine hK.out _ _ SA.out (fun hS => ?_)
  clear hK K hgdef
  try simp only [Act.put, Z2, Z3, Z4]
  refine wpAnyH_ready (rs := [1]) (by kernel_rfl) (by simp) (AllReadyH.cons (o := ⟨some 13, _, _, _, _, _⟩) rfl (fun K hK => ?_) AllReadyH.nil)
  go_simp
  refine (HPL.out _ SA.out).mono ?_
  rintro e X1 ⟨b, nb, rfl, hgm, hb1⟩
  have S1 := Lib.hid (Below.trans SA.out (hb1.mono (Below.size SA.out)))
  have GM := Lib.hid hgm
  have GZ := Lib.hid ((hb1.block g (Array.getElem?_eq_some_iff.1 GA.out).1).trans GA.out)
  have HBG := Lib.hid (show b ≠ g from fun e => by
   rw [e] at hgm
   exact hgm.not_cells _ _ _ GZ.out)
  have S2 := S1
  have G2 := GM
  clear hgm hb1
  refine hK.out _ _ S1.out (fun hS => ?_)
  clear hK K
  try simp only [Act.put, Z2, Z3, Z4]
  refine wpAnyH_sub (S' := fun w9 => Below w1.heap.size w1 w9 ∧ GMs mkDk w9 b nb (fE (allE ls)) plZ) (fun _ h => h.1) ?_
  have hS := And.intro S1.out GM.out
  refine wpHv (i := 5) (oi := ⟨some 17, _, _, _, _, _⟩) (v := (.tuple #[.agg (plC q.1 q.2).toArray, .bool V.isSome])) rfl ?_ hS ?_; (focus (intro w9 hSw; exact exec_lookup_G (K := mkDk) 78 (.tmp 13) (.tmp 16) rfl Tryz.underlying78 (fun w => zeroPlace w) (d, n) rfl HEK.out.symm hSw.2 HKK.out HDV.out HDI.out)); simp only [Act.put, Z2, Z3, Z4]
  refine wpHv (i := 6) (oi := ⟨some 11, _, _, _, _, _⟩) (v := ?_) rfl ?_ hS ?_; rotate_left; (focus (intro w9 hSw; go_simp; try with_reducible rfl)); simp only [Act.put, Z2, Z3, Z4]
  refine wpHv (i := 7) (oi := ⟨some 18, _, _, _, _, _⟩) (v := ?_) rfl ?_ hS ?_; rotate_left; (focus (intro w9 hSw; go_simp; try with_reducible rfl)); simp only [Act.put, Z2, Z3, Z4]
  refine wpHv (i := 8) (oi := ⟨some 19, _, _, _, _, _⟩) (v := ?_) rfl ?_ hS ?_; rotate_left; (focus (intro w9 hSw; go_simp; try with_reducible rfl)); simp only [Act.put, Z2, Z3, Z4]
  refine wpAnyH_ready (rs := [10]) (by kernel_rfl) (by simp) (AllReadyH.cons (o := ⟨none, _, _, _, _, _⟩) rfl (fun K hK => ?_) AllReadyH.nil)
  generalize X1 = X2 at *
  refine step_store_G (o := ⟨none, _, _, _, _, _⟩) rfl 76 (.tmp 9) (.tmp 18) rfl ⟨g, 0, none⟩ _ rfl rfl (run_storeVar_row (P := Tryz.prog) X2 g 76 76 _ _ GZ.out SZP.out SQP.out SOP.out) ?_
  have SD := Lib.hid (below_setRow S2.out HGG.out (plC q.1 q.2).toArray)
  have GB := Lib.hid (show (X2.setRow g (plC q.1 q.2).toArray).heap[g]? = some (.cells (plC q.1 q.2).toArray 76) from setRow_heap _ _ _ _ _ _ GZ.out)
  have G3 := Lib.hid (G2.out.same (setRow_other X2 g b (plC q.1 q.2).toArray HBG.out))
  refine hK.out _ _ ⟨SD.out, G3.out⟩ (fun hS => ?_)
  clear hK K
  try simp only [Act.put]
  refine wpHv (i := 11) (oi := ⟨some 10, _, _, _, _, _⟩) (v := ?_) rfl ?_ hS ?_; rotate_left; (focus (intro w9 hSw; go_simp; try with_reducible rfl)); simp only [Act.put, Z2, Z3, Z4]
  refine wpAnyH_done (by kernel_rfl) ?_ _
  generalize World.setRow _ _ _ = Wd at *
  go_wp2_with fail
  refine wp_region_held_drew (S := fun w9 => w9.heap[g]? = some (.cells (plC q.1 q.2).toArray 76)) (by kernel_rfl) GB.out (fun hS => ?_)
  have SE := Lib.hid (SD.out.drew)
  generalize World.drew _ = Z at *
  refine wpHv (i := 0) (oi := ⟨some 20, _, _, _, _, _⟩) (v := ?_) rfl ?_ hS ?_; rotate_left; (focus (intro w9 hSw; go_simp; try with_reducible rfl)); simp only [Act.put, Z2, Z3, Z4]
  refine wpHv (i := 1) (oi := ⟨some 21, _, _, _, _, _⟩) (v := (.agg (bvals q.1))) rfl ?_ hS ?_; (focus (intro w9 hSw; exact exec_load_at 30 _ rfl ⟨g, 0, none⟩ rfl (load_idM (pl_id hSw HQ16.out) HQ16.out))); simp only [Act.put, Z2, Z3, Z4]
  refine wpHv (i := 2) (oi := ⟨some 22, _, _, _, _, _⟩) (v := ?_) rfl ?_ hS ?_; rotate_left; (focus (intro w9 hSw; go_simp; try with_reducible rfl)); simp only [Act.put, Z2, Z3, Z4]
  refine wpHv (i := 3) (oi := ⟨some 23, _, _, _, _, _⟩) (v := ?_) rfl ?_ hS ?_; rotate_left; (focus (intro w9 hSw; have q0 := pl_no hSw HQ16.out; go_simp; try with_reducible rfl)); simp only [Act.put, Z2, Z3, Z4]
  refine wpHv (i := 4) (oi := ⟨some 24, _, _, _, _, _⟩) (v := ?_) rfl ?_ hS ?_; rotate_left; (focus (intro w9 hSw; go_simp; try with_reducible rfl)); simp only [Act.put, Z2, Z3, Z4]
  refine wpAnyH_ready (rs := [5]) (by kernel_rfl) (by simp) (AllReadyH.cons (o := ⟨none, _, _, _, _, _⟩) rfl (fun K hK => ?_) AllReadyH.nil)
  have NB := Lib.hid (RES.out Z SE.out)
  have HNE := Lib.hid (show g ≠ w.heap.size + 1 + 1 by have := HGG.out; have := HW1.out; omega)
  refine step_store_G (o := ⟨none, _, _, _, _, _⟩) rfl 30 (.tmp 6) (.tmp 21) rfl ⟨w.heap.size + 1 + 1, 0, none⟩ _ rfl rfl (run_storeVar_row (P := Tryz.prog) Z (w.heap.size + 1 + 1) 30 30 _ _ NB.out SZI.out SQI.out SOI.out) ?_
  have SF := Lib.hid (below_setRow (BW1.out.trans (SE.out.mono BW1.out.size)) (show w.heap.size ≤ w.heap.size + 1 + 1 by omega) (bvals q.1))
  have NF := Lib.hid (show (Z.setRow (w.heap.size + 1 + 1) (bvals q.1)).heap[w.heap.size + 1 + 1]? = some (.cells (bvals q.1) 30) from setRow_heap _ _ _ _ _ _ NB.out)
  refine hK.out _ _ ((setRow_other Z (w.heap.size + 1 + 1) g _ HNE.out).trans hS) (fun hS => ?_)
  clear hK K
  try simp only [Act.put]
  refine wpHv (i := 6) (oi := ⟨some 7, _, _, _, _, _⟩) (v := ?_) rfl ?_ hS ?_; rotate_left; (focus (intro w9 hSw; go_simp; try with_reducible rfl)); simp only [Act.put, Z2, Z3, Z4]
  refine wpHv (i := 7) (oi := ⟨some 8, _, _, _, _, _⟩) (v := ?_) rfl ?_ hS ?_; rotate_left; (focus (intro w9 hSw; go_simp; try with_reducible rfl)); simp only [Act.put, Z2, Z3, Z4]
  refine wpAnyH_done (by kernel_rfl) ?_ _
  go_wp2
  refine bodyPost_ret (v := .tuple #[.agg (bvals q.1), .int .i64 q.2, .bool V.isSome]) ?_ rfl ?_
  ·exact res_id3 Tryz.results10 rfl NF.out HQ16.out
  ·exact HFIN.out _ SF.out
end
end Go.Proofs.YtkjimhlpbgeagaaGreatDoor
