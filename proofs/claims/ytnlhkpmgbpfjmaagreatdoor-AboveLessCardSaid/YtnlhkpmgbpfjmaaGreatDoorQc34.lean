import Derived.Test.YtnlhkpmgbpfjmaaGreatDoorQc0
import Derived.Test.YtnlhkpmgbpfjmaaGreatDoorQc33
import Derived.Test.YtnlhkpmgbpfjmaaGreatDoorQc20
/-
  What the functions that a law of this layer reaches answer, part 34. Nothing that was there is written.
-/
namespace Go.Proofs.YtnlhkpmgbpfjmaaGreatDoor
set_option linter.unusedVariables false
set_option linter.unusedSimpArgs false
section
open Go.RowKit Go.Shelf WM
set_option maxRecDepth 100000
attribute [local go_sem] Oper.semAt_some
theorem wpListIn_store_oldb {F : Fence} {n : Nat} {ops : Array Oper} {rest : List Oper} {o : Oper} {a : Act} {w : World} {Q : Exit → Act → World → Prop} (hgd : o.guard = none) (p q : Operand) (hop : o.op = .store 24 p q)
  (g : Nat) (v : Value) (hb : BoAt w g v) (hx : a.eval p = .pointer (some ⟨g, 0, none⟩)) (u : Value) (hy : a.eval q = .agg #[u]) (hu : u.oneCell' = true)
  (hK : ∀ w', w.grownBy w' (some g) → BoAt w' g u → wpListIn F n Tryz.prog ops Q rest (a.put o.dst undef) w') : wpListIn F n Tryz.prog ops Q (o :: rest) a w := by
 refine wpListIn_plain hgd fun K' hK' => ?_
 unfold Oper.wpIn
 refine ⟨by simp [Oper.about, hop], ?_⟩
 rw [Oper.semAt_plain F _ _ (by rw [hop]; intro c hc'; cases hc')]
 have hr := run_storeVar_row (P := Tryz.prog) w g 24 24 #[v] #[u] hb sizeBook rfl (bk_one hu)
 unfold execOp
 simp only [hop, hx, hy, Instr.storeAt, Instr.sureAddr, Sem.run_bind, Sem.run_pure, Result.andThen_ok, hr]
 exact hK' _ _ (hK _ (grownBy_setRow w g _) (hb.put u))
section
variable {F : Fence} {n : Nat} {ops : Array Oper} {o : Oper} {a : Act} {w w' : World} {K : Act → World → Prop} {Q : Exit → Act → World → Prop} {E : Prop}
theorem in_build (hgd : o.guard = none) (t : TypeId) (parts : Array (Nat × Operand)) (hop : o.op = .build t parts) (ps : Array (Nat × Value)) (hp : parts.map (fun x => (x.1, a.eval x.2)) = ps) (v : Value) (hv : (Instr.build t ps).run Tryz.prog w = .ok v w) (hK : K (a.put o.dst v) w) : if Region.wanted o (yielded ops a.tmps) = true then Oper.wpIn F n Tryz.prog o a w K Q else E := by
 rw [if_pos (by simp [Region.wanted, hgd])]
 unfold Oper.wpIn
 refine ⟨by simp [Oper.about, hop], ?_⟩
 rw [Oper.semAt_plain F _ _ (by rw [hop]; intro c hc'; cases hc'), exec_build_at t parts hop ps hp hv]
 exact hK
theorem in_load (hgd : o.guard = none) (ty : TypeId) (x : Operand) (hop : o.op = .load ty x) (ad : Addr) (hx : a.eval x = .pointer (some ad)) (v : Value) (hv : (loadVar ty ad).run Tryz.prog w = .ok v w) (hK : K (a.put o.dst v) w) : if Region.wanted o (yielded ops a.tmps) = true then Oper.wpIn F n Tryz.prog o a w K Q else E := by
 rw [if_pos (by simp [Region.wanted, hgd])]
 unfold Oper.wpIn
 refine ⟨by simp [Oper.about, hop], ?_⟩
 rw [Oper.semAt_plain F _ _ (by rw [hop]; intro c hc'; cases hc'), exec_load_at ty x hop ad hx hv]
 exact hK
theorem in_store (hgd : o.guard = none) (ty : TypeId) (x y : Operand) (hop : o.op = .store ty x y) (ad : Addr) (v : Value) (hx : a.eval x = .pointer (some ad)) (hy : a.eval y = v) (hv : (storeVar ty ad v).run Tryz.prog w = .ok () w') (hK : K (a.put o.dst undef) w') : if Region.wanted o (yielded ops a.tmps) = true then Oper.wpIn F n Tryz.prog o a w K Q else E := by
 rw [if_pos (by simp [Region.wanted, hgd])]
 unfold Oper.wpIn
 refine ⟨by simp [Oper.about, hop], ?_⟩
 rw [Oper.semAt_plain F _ _ (by rw [hop]; intro c hc'; cases hc')]
 unfold execOp
 simp only [hop, hx, hy, Instr.storeAt, Instr.sureAddr, Sem.run_bind, Sem.run_pure, Result.andThen_ok, hv]
 exact hK
end
theorem run_store1 {P : Program} (w : World) (g : Nat) (t ty : TypeId) (old v : Value) (hg : w.heap[g]? = some (.cells #[old] t (0, 0))) (hi : (P.info? ty).map (·.size) = some 1) (h1 : v.oneCell' = true) (hc : v.cells = #[v]) : (storeVar ty ⟨g, 0, none⟩ v).run P w = .ok () (w.setRow g #[v]) := by
 have h2 := run_storeCells_from (P := P) g t [v] 0 #[old] w hg (by simp) (fun x hx => by rw [List.mem_singleton.1 hx]; exact h1)
 cases hq : P.info? ty with
 | none => simp [hq] at hi
 | some i =>
  have hs : i.size = 1 := by simpa [hq] using hi
  simpa [storeVar, sizeOf, typeInfo, hq, hc, hs] using h2
theorem ErAt.store {w : World} {g : Nat} {e : Int} (h : ErAt w g e) (u : Int) : (storeVar 43 ⟨g, 0, none⟩ (.int .i64 u)).run Tryz.prog w = .ok () (w.setRow g #[.int .i64 u]) := run_store1 w g 43 43 _ _ h (by kernel_rfl) rfl rfl
theorem BoAt.store {w : World} {g : Nat} {v : Value} (h : BoAt w g v) {u : Value} (hu : u.oneCell' = true) : (storeVar 24 ⟨g, 0, none⟩ (.agg #[u])).run Tryz.prog w = .ok () (w.setRow g #[u]) := run_storeVar_row w g 24 24 #[v] #[u] h sizeBook rfl (bk_one hu)
set_option maxHeartbeats 8000000 in
theorem padd1 (b : Bk) (x : RcA) (w : World) (hlaid : Laid w) (hb : BkAt w b) (hx : RvAt w x) (hbm : bmay b.rs = false) : Calls Tryz.prog 13 #[.agg #[.slice b.A b.xs.length b.c], .agg x.cells] w (BJoinPost w (addE b.rs x.R)) := by
 rw [addE_no (fun h => by rw [hbm] at h; cases h.1)]
 have HV := Lib.hid (fun (X : World) (hX : Below w.heap.size w X) => show BJoinPost w (1, []) (.returned (.tuple #[.agg #[.slice none 0 0], .int .i64 1])) X from ⟨bk0, rfl, rfl, BkAt.zero _, hX⟩)
 generalize BJoinPost w (1, []) = RR at *
 have S0 := Lib.hid ((((BoAt.new w (.slice b.A b.xs.length b.c)).old (.cells x.cells 36)).old (.cells #[.slice none 0 0] 24)).old (.cells #[.int .i64 0] 43))
 have X0 := Lib.hid (show XAt ((((w.alloc (.cells #[.slice b.A b.xs.length b.c] 24)).alloc (.cells x.cells 36)).alloc (.cells #[.slice none 0 0] 24)).alloc (.cells #[.int .i64 0] 43)) (w.heap.size + 1) x from by have h := ((XAt.new (x := x) (w.alloc (.cells #[.slice b.A b.xs.length b.c] 24)) hx.len).old (.cells #[.slice none 0 0] 24)).old (.cells #[.int .i64 0] 43); rw [World.size_alloc] at h; exact h)
 have R0 := Lib.hid (show BoAt ((((w.alloc (.cells #[.slice b.A b.xs.length b.c] 24)).alloc (.cells x.cells 36)).alloc (.cells #[.slice none 0 0] 24)).alloc (.cells #[.int .i64 0] 43)) (w.heap.size + 1 + 1) (.slice none 0 0) from by have h := (BoAt.new ((w.alloc (.cells #[.slice b.A b.xs.length b.c] 24)).alloc (.cells x.cells 36)) (.slice none 0 0)).old (.cells #[.int .i64 0] 43); rw [World.size_alloc, World.size_alloc] at h; exact h)
 have E0 := Lib.hid (show ErAt ((((w.alloc (.cells #[.slice b.A b.xs.length b.c] 24)).alloc (.cells x.cells 36)).alloc (.cells #[.slice none 0 0] 24)).alloc (.cells #[.int .i64 0] 43)) (w.heap.size + 1 + 1 + 1) 0 from by have h := ErAt.new (((w.alloc (.cells #[.slice b.A b.xs.length b.c] 24)).alloc (.cells x.cells 36)).alloc (.cells #[.slice none 0 0] 24)) 0; rw [World.size_alloc, World.size_alloc, World.size_alloc] at h; exact h)
 have B0 := Lib.hid (((((Below.refl w.heap.size w).alloc (Nat.le_refl _) (.cells #[.slice b.A b.xs.length b.c] 24)).alloc (by simp) (.cells x.cells 36)).alloc (by simp; omega) (.cells #[.slice none 0 0] 24)).alloc (by simp; omega) (.cells #[.int .i64 0] 43))
 have L9 := Lib.hid S0.out.load
 have HLA := Lib.hid (fun (X : World) (hX : Below w.heap.size w X) => hlaid.below hX (Nat.le_refl _))
 have HBK := Lib.hid hb
 have HX := Lib.hid hx
 have CB := Lib.hid (bmay_any b _ (hb.below B0.out (Nat.le_refl _)))
 rw [hbm] at CB
 have hzb : ∀ w : World, (zeroValue 24).run Tryz.prog w = .ok (.agg #[.slice none 0 0]) w := zeroBook
 have hzr : ∀ w : World, (zeroValue 36).run Tryz.prog w = .ok (.agg rcA0.cells) w := zeroRec
 clear hlaid hb hx hbm
 go_enter Tryz.func13, Tryz.ntmps13
 go_wp2_with (first | ((with_reducible refine wpList_load_by (o := ⟨some 9, .load 24 (.tmp 2), _, _, _, _⟩) ?e1 24 (.tmp 2) ?e2 ⟨w.heap.size, 0, none⟩ ?e3 _ L9.out ?_); (case e1 => rfl); (case e2 => rfl); (case e3 => rfl)))
 refine CB.out.mono ?_
 rintro e w1 ⟨rfl, hb⟩
 have S1 := Lib.hid (S0.out.below hb S0.out.lt)
 have X1 := Lib.hid (X0.out.below hb X0.out.lt)
 have R1 := Lib.hid (R0.out.below hb R0.out.lt)
 have E1 := Lib.hid (E0.out.below hb E0.out.lt)
 have B1 := Lib.hid (B0.out.trans (hb.mono B0.out.size))
 clear hb
 go_wp2_with (first | ((with_reducible refine wpList_build_by (o := ⟨some 17, .build 24 #[], _, _, _, _⟩) ?e1 24 #[] ?e2 #[] ?e3 _ (build_book0 _) ?_); (case e1 => rfl); (case e2 => rfl); (case e3 => simp)) | ((with_reducible refine wpList_store_oldb (o := ⟨none, .store 24 (.tmp 4) (.tmp 17), _, _, _, _⟩) ?e1 (.tmp 4) (.tmp 17) ?e2 (w.heap.size + 1 + 1) _ R1.out ?e3 (.slice none 0 0) ?e4 ?e5 ?_); (case e1 => rfl); (case e2 => rfl); (case e3 => rfl); (case e4 => rfl); (case e5 => rfl); intro w9 hg2 hx2; have E9 := Lib.hid (E1.out.same (hg2.block _ E1.out.lt (fun e => by have := Option.some.inj e; omega))); have X9 := Lib.hid hx2; have B9 := Lib.hid (B1.out.grown hg2 B1.out.size (fun q e => by have := Option.some.inj e; omega)); have e0 := E9.out.c0; have ef := E9.out.fz; clear hg2 hx2))
 refine bodyPost_ret (v := .tuple #[.agg #[.slice none 0 0], .int .i64 1]) ?_ rfl ?_
 ·exact res_bkE Tryz.results13 rfl rfl (X9.out.same (Below.heap_setCell _ _ _ _ (by show (w.heap.size + 1 + 1) ≠ (w.heap.size + 1 + 1 + 1); omega))) (E9.out.put 1)
 ·exact HV.out _ (B9.out.setCell (p := ⟨(w.heap.size + 1 + 1 + 1), 0, none⟩) (by show w.heap.size ≤ (w.heap.size + 1 + 1 + 1); omega) _)
set_option maxHeartbeats 8000000 in
theorem padd2 (b : Bk) (x : RcA) (w : World) (hlaid : Laid w) (hb : BkAt w b) (hx : RvAt w x) (hbm : bmay b.rs = true) (hmp : mayP x.R = false) : Calls Tryz.prog 13 #[.agg #[.slice b.A b.xs.length b.c], .agg x.cells] w (BJoinPost w (addE b.rs x.R)) := by
 rw [addE_no (fun h => by rw [hmp] at h; cases h.2)]
 have HV := Lib.hid (fun (X : World) (hX : Below w.heap.size w X) => show BJoinPost w (1, []) (.returned (.tuple #[.agg #[.slice none 0 0], .int .i64 1])) X from ⟨bk0, rfl, rfl, BkAt.zero _, hX⟩)
 generalize BJoinPost w (1, []) = RR at *
 have S0 := Lib.hid ((((BoAt.new w (.slice b.A b.xs.length b.c)).old (.cells x.cells 36)).old (.cells #[.slice none 0 0] 24)).old (.cells #[.int .i64 0] 43))
 have X0 := Lib.hid (show XAt ((((w.alloc (.cells #[.slice b.A b.xs.length b.c] 24)).alloc (.cells x.cells 36)).alloc (.cells #[.slice none 0 0] 24)).alloc (.cells #[.int .i64 0] 43)) (w.heap.size + 1) x from by have h := ((XAt.new (x := x) (w.alloc (.cells #[.slice b.A b.xs.length b.c] 24)) hx.len).old (.cells #[.slice none 0 0] 24)).old (.cells #[.int .i64 0] 43); rw [World.size_alloc] at h; exact h)
 have R0 := Lib.hid (show BoAt ((((w.alloc (.cells #[.slice b.A b.xs.length b.c] 24)).alloc (.cells x.cells 36)).alloc (.cells #[.slice none 0 0] 24)).alloc (.cells #[.int .i64 0] 43)) (w.heap.size + 1 + 1) (.slice none 0 0) from by have h := (BoAt.new ((w.alloc (.cells #[.slice b.A b.xs.length b.c] 24)).alloc (.cells x.cells 36)) (.slice none 0 0)).old (.cells #[.int .i64 0] 43); rw [World.size_alloc, World.size_alloc] at h; exact h)
 have E0 := Lib.hid (show ErAt ((((w.alloc (.cells #[.slice b.A b.xs.length b.c] 24)).alloc (.cells x.cells 36)).alloc (.cells #[.slice none 0 0] 24)).alloc (.cells #[.int .i64 0] 43)) (w.heap.size + 1 + 1 + 1) 0 from by have h := ErAt.new (((w.alloc (.cells #[.slice b.A b.xs.length b.c] 24)).alloc (.cells x.cells 36)).alloc (.cells #[.slice none 0 0] 24)) 0; rw [World.size_alloc, World.size_alloc, World.size_alloc] at h; exact h)
 have B0 := Lib.hid (((((Below.refl w.heap.size w).alloc (Nat.le_refl _) (.cells #[.slice b.A b.xs.length b.c] 24)).alloc (by simp) (.cells x.cells 36)).alloc (by simp; omega) (.cells #[.slice none 0 0] 24)).alloc (by simp; omega) (.cells #[.int .i64 0] 43))
 have L9 := Lib.hid S0.out.load
 have HLA := Lib.hid (fun (X : World) (hX : Below w.heap.size w X) => hlaid.below hX (Nat.le_refl _))
 have HBK := Lib.hid hb
 have HX := Lib.hid hx
 have CB := Lib.hid (bmay_any b _ (hb.below B0.out (Nat.le_refl _)))
 rw [hbm] at CB
 have hzb : ∀ w : World, (zeroValue 24).run Tryz.prog w = .ok (.agg #[.slice none 0 0]) w := zeroBook
 have hzr : ∀ w : World, (zeroValue 36).run Tryz.prog w = .ok (.agg rcA0.cells) w := zeroRec
 have CM := Lib.hid (fun (X : World) (hX : Below w.heap.size w X) => mayAdd_any x X (hx.below hX (Nat.le_refl _)))
 rw [hmp] at CM
 clear hlaid hb hx hbm hmp
 go_enter Tryz.func13, Tryz.ntmps13
 go_wp2_with (first | ((with_reducible refine wpList_load_by (o := ⟨some 9, .load 24 (.tmp 2), _, _, _, _⟩) ?e1 24 (.tmp 2) ?e2 ⟨w.heap.size, 0, none⟩ ?e3 _ L9.out ?_); (case e1 => rfl); (case e2 => rfl); (case e3 => rfl)))
 refine CB.out.mono ?_
 rintro e w1 ⟨rfl, hb⟩
 have S1 := Lib.hid (S0.out.below hb S0.out.lt)
 have X1 := Lib.hid (X0.out.below hb X0.out.lt)
 have R1 := Lib.hid (R0.out.below hb R0.out.lt)
 have E1 := Lib.hid (E0.out.below hb E0.out.lt)
 have B1 := Lib.hid (B0.out.trans (hb.mono B0.out.size))
 clear hb
 have L13 := Lib.hid X1.out.load
 go_wp2_with (first | ((with_reducible refine wpList_load_by (o := ⟨some 13, .load 36 (.tmp 3), _, _, _, _⟩) ?e1 36 (.tmp 3) ?e2 ⟨(w.heap.size + 1), 0, none⟩ ?e3 _ L13.out ?_); (case e1 => rfl); (case e2 => rfl); (case e3 => rfl)))
 refine (CM.out _ B1.out).mono ?_
 rintro e w2 ⟨rfl, hb⟩
 have S2 := Lib.hid (S1.out.below hb S1.out.lt)
 have X2 := Lib.hid (X1.out.below hb X1.out.lt)
 have R2 := Lib.hid (R1.out.below hb R1.out.lt)
 have E2 := Lib.hid (E1.out.below hb E1.out.lt)
 have B2 := Lib.hid (B1.out.trans (hb.mono B1.out.size))
 clear hb
 go_wp2_with (first | ((with_reducible refine wpList_build_by (o := ⟨some 17, .build 24 #[], _, _, _, _⟩) ?e1 24 #[] ?e2 #[] ?e3 _ (build_book0 _) ?_); (case e1 => rfl); (case e2 => rfl); (case e3 => simp)) | ((with_reducible refine wpList_store_oldb (o := ⟨none, .store 24 (.tmp 4) (.tmp 17), _, _, _, _⟩) ?e1 (.tmp 4) (.tmp 17) ?e2 (w.heap.size + 1 + 1) _ R2.out ?e3 (.slice none 0 0) ?e4 ?e5 ?_); (case e1 => rfl); (case e2 => rfl); (case e3 => rfl); (case e4 => rfl); (case e5 => rfl); intro w9 hg2 hx2; have E9 := Lib.hid (E2.out.same (hg2.block _ E2.out.lt (fun e => by have := Option.some.inj e; omega))); have X9 := Lib.hid hx2; have B9 := Lib.hid (B2.out.grown hg2 B2.out.size (fun q e => by have := Option.some.inj e; omega)); have e0 := E9.out.c0; have ef := E9.out.fz; clear hg2 hx2))
 refine bodyPost_ret (v := .tuple #[.agg #[.slice none 0 0], .int .i64 1]) ?_ rfl ?_
 ·exact res_bkE Tryz.results13 rfl rfl (X9.out.same (Below.heap_setCell _ _ _ _ (by show (w.heap.size + 1 + 1) ≠ (w.heap.size + 1 + 1 + 1); omega))) (E9.out.put 1)
 ·exact HV.out _ (B9.out.setCell (p := ⟨(w.heap.size + 1 + 1 + 1), 0, none⟩) (by show w.heap.size ≤ (w.heap.size + 1 + 1 + 1); omega) _)
def IA (w : World) (p n0 : Nat) (rs : List Rc) (pre : List (HE w)) (X : World) : Prop := ∃ d : Bk, jAll (0, rs) (hR pre) = (0, d.rs) ∧ AS w p d 0 X ∧ n0 ≤ X.heap.size
def IxA (w : World) (rs : List Rc) (c : Code) (pre : List (HE w)) (X : World) : Prop := c = Code.ret ∧ ∃ (e : Int) (Z : List Rc), ¬ e = 0 ∧ jAll (0, rs) (hR pre) = (e, Z) ∧ BoAt X (w.heap.size + 1 + 1) (.slice none 0 0) ∧ ErAt X (w.heap.size + 1 + 1 + 1) e ∧ Below w.heap.size w X
theorem IA_own {w : World} {p n0 B : Nat} {rs : List Rc} (hB : w.heap.size ≤ B) : OwnFrom B (IA w p n0 rs) := by
 rintro s X Y row ⟨d, h1, h2, h3⟩ hg hr
 exact ⟨d, h1, h2.turned hg (fun r e => (hr r e).2) (fun k e => Nat.le_trans hB (hr k e).1), Nat.le_trans h3 hg.size⟩
theorem IxA_own {w : World} {B : Nat} {rs : List Rc} (hB : w.heap.size ≤ B) (c : Code) : OwnFrom B (IxA w rs c) := by
 rintro s X Y row ⟨h0, e, Z, h1, h2, h3, h4, h5⟩ hg hr
 have hn : NoCells X row := fun r e => (hr r e).2
 exact ⟨h0, e, Z, h1, h2, h3.same (hg.block _ h3.lt (hn.ne h3)), h4.same (hg.block _ h4.lt (hn.ne h4)), h5.grown hg h5.size (fun k e => Nat.le_trans hB (hr k e).1)⟩
theorem hR_snoc {w : World} (L : List (HE w)) (y : HE w) : hR (L ++ [y]) = hR L ++ [y.y.R] := by unfold hR; rw [List.map_append]; rfl
set_option maxHeartbeats 32000000 in
theorem padd3 (b : Bk) (x : RcA) (w : World) (hlaid : Laid w) (hb : BkAt w b) (hx : RvAt w x) (hbm : bmay b.rs = true) (hmp : mayP x.R = true) : Calls Tryz.prog 13 #[.agg #[.slice b.A b.xs.length b.c], .agg x.cells] w (BJoinPost w (addE b.rs x.R)) := by
 have HYES := Lib.hid (fun (X : World) (d : Bk) (hj : jAll (0, b.rs) (halvesL x.R) = (0, d.rs)) (hd : BkAt X d) (hX : Below w.heap.size w X) => show BJoinPost w (addE b.rs x.R) (.returned (.tuple #[.agg #[.slice d.A d.xs.length d.c], .int .i64 0])) X from by rw [addE_yes ⟨hbm, hmp⟩ hj]; exact ⟨d, rfl, rfl, hd, hX⟩)
 have HERR := Lib.hid (fun (X : World) (L : List Rc) (e : Int) (Z : List Rc) (hp : L <+: halvesL x.R) (hj : jAll (0, b.rs) L = (e, Z)) (he : ¬ e = 0) (hX : Below w.heap.size w X) => show BJoinPost w (addE b.rs x.R) (.returned (.tuple #[.agg #[.slice none 0 0], .int .i64 e])) X from by rw [addE_err ⟨hbm, hmp⟩ hp hj he]; exact ⟨bk0, rfl, rfl, BkAt.zero _, hX⟩)
 generalize BJoinPost w (addE b.rs x.R) = RR at *
 have S0 := Lib.hid ((((BoAt.new w (.slice b.A b.xs.length b.c)).old (.cells x.cells 36)).old (.cells #[.slice none 0 0] 24)).old (.cells #[.int .i64 0] 43))
 have X0 := Lib.hid (show XAt ((((w.alloc (.cells #[.slice b.A b.xs.length b.c] 24)).alloc (.cells x.cells 36)).alloc (.cells #[.slice none 0 0] 24)).alloc (.cells #[.int .i64 0] 43)) (w.heap.size + 1) x from by have h := ((XAt.new (x := x) (w.alloc (.cells #[.slice b.A b.xs.length b.c] 24)) hx.len).old (.cells #[.slice none 0 0] 24)).old (.cells #[.int .i64 0] 43); rw [World.size_alloc] at h; exact h)
 have R0 := Lib.hid (show BoAt ((((w.alloc (.cells #[.slice b.A b.xs.length b.c] 24)).alloc (.cells x.cells 36)).alloc (.cells #[.slice none 0 0] 24)).alloc (.cells #[.int .i64 0] 43)) (w.heap.size + 1 + 1) (.slice none 0 0) from by have h := (BoAt.new ((w.alloc (.cells #[.slice b.A b.xs.length b.c] 24)).alloc (.cells x.cells 36)) (.slice none 0 0)).old (.cells #[.int .i64 0] 43); rw [World.size_alloc, World.size_alloc] at h; exact h)
 have E0 := Lib.hid (show ErAt ((((w.alloc (.cells #[.slice b.A b.xs.length b.c] 24)).alloc (.cells x.cells 36)).alloc (.cells #[.slice none 0 0] 24)).alloc (.cells #[.int .i64 0] 43)) (w.heap.size + 1 + 1 + 1) 0 from by have h := ErAt.new (((w.alloc (.cells #[.slice b.A b.xs.length b.c] 24)).alloc (.cells x.cells 36)).alloc (.cells #[.slice none 0 0] 24)) 0; rw [World.size_alloc, World.size_alloc, World.size_alloc] at h; exact h)
 have B0 := Lib.hid (((((Below.refl w.heap.size w).alloc (Nat.le_refl _) (.cells #[.slice b.A b.xs.length b.c] 24)).alloc (by simp) (.cells x.cells 36)).alloc (by simp; omega) (.cells #[.slice none 0 0] 24)).alloc (by simp; omega) (.cells #[.int .i64 0] 43))
 have L9 := Lib.hid S0.out.load
 have HLA := Lib.hid (fun (X : World) (hX : Below w.heap.size w X) => hlaid.below hX (Nat.le_refl _))
 have HBK := Lib.hid hb
 have HX := Lib.hid hx
 have CB := Lib.hid (bmay_any b _ (hb.below B0.out (Nat.le_refl _)))
 rw [hbm] at CB
 have hzb : ∀ w : World, (zeroValue 24).run Tryz.prog w = .ok (.agg #[.slice none 0 0]) w := zeroBook
 have hzr : ∀ w : World, (zeroValue 36).run Tryz.prog w = .ok (.agg rcA0.cells) w := zeroRec
 have CM := Lib.hid (fun (X : World) (hX : Below w.heap.size w X) => mayAdd_any x X (hx.below hX (Nat.le_refl _)))
 rw [hmp] at CM
 clear hlaid hb hx hbm hmp
 refine (callsIn_wide (n := 12)).1 ?_
 refine callsIn_of_wp_marks Tryz.func13 rfl trivial ?_ rfl
 simp only [Tryz.ntmps13, List.size_toArray, List.length_cons, List.length_nil, Nat.reduceAdd, Nat.reduceSub, Array.replicate_succ, Array.replicate_zero, List.push_toArray, List.append_toArray, List.nil_append, List.cons_append]
 refine wpIn_wide.2 ?_
 go_wp2_with (first | ((with_reducible refine wpList_load_by (o := ⟨some 9, .load 24 (.tmp 2), _, _, _, _⟩) ?e1 24 (.tmp 2) ?e2 ⟨w.heap.size, 0, none⟩ ?e3 _ L9.out ?_); (case e1 => rfl); (case e2 => rfl); (case e3 => rfl)))
 refine CB.out.mono ?_
 rintro e w1 ⟨rfl, hb⟩
 have S1 := Lib.hid (S0.out.below hb S0.out.lt)
 have X1 := Lib.hid (X0.out.below hb X0.out.lt)
 have R1 := Lib.hid (R0.out.below hb R0.out.lt)
 have E1 := Lib.hid (E0.out.below hb E0.out.lt)
 have B1 := Lib.hid (B0.out.trans (hb.mono B0.out.size))
 clear hb
 have L13 := Lib.hid X1.out.load
 go_wp2_with (first | ((with_reducible refine wpList_load_by (o := ⟨some 13, .load 36 (.tmp 3), _, _, _, _⟩) ?e1 36 (.tmp 3) ?e2 ⟨(w.heap.size + 1), 0, none⟩ ?e3 _ L13.out ?_); (case e1 => rfl); (case e2 => rfl); (case e3 => rfl)))
 refine (CM.out _ B1.out).mono ?_
 rintro e w2 ⟨rfl, hb⟩
 have S2 := Lib.hid (S1.out.below hb S1.out.lt)
 have X2 := Lib.hid (X1.out.below hb X1.out.lt)
 have R2 := Lib.hid (R1.out.below hb R1.out.lt)
 have E2 := Lib.hid (E1.out.below hb E1.out.lt)
 have B2 := Lib.hid (B1.out.trans (hb.mono B1.out.size))
 clear hb
 have L18 := Lib.hid S2.out.load
 have hba : Below w2.heap.size w2 ((w2.alloc (.cells #[.slice none 0 0] 24)).alloc (.cells #[.int .i64 0] 43)) := ((Below.refl _ _).alloc (Nat.le_refl _) _).alloc (by simp) _
 have HSA := Lib.hid (show (((w2.alloc (.cells #[.slice none 0 0] 24)).alloc (.cells #[.int .i64 0] 43))).heap.size = w2.heap.size + 1 + 1 by rw [World.size_alloc, World.size_alloc])
 have HP := Lib.hid (show (w.heap.size + 1 + 1 + 1) < w2.heap.size from E2.out.lt)
 have O6 := Lib.hid ((BoAt.new w2 (.slice none 0 0)).old (.cells #[.int .i64 0] 43))
 have O7 := Lib.hid (show ErAt ((w2.alloc (.cells #[.slice none 0 0] 24)).alloc (.cells #[.int .i64 0] 43)) (w2.heap.size + 1) 0 from by have h := ErAt.new (w2.alloc (.cells #[.slice none 0 0] 24)) 0; rw [World.size_alloc] at h; exact h)
 have A2 := Lib.hid (show AS w w2.heap.size bk0 0 ((w2.alloc (.cells #[.slice none 0 0] 24)).alloc (.cells #[.int .i64 0] 43)) from ⟨B2.out.trans (hba.mono B2.out.size), R2.out.below hba R2.out.lt, E2.out.below hba E2.out.lt, O6.out, O7.out, BkAt.zero _, HP.out⟩)
 have XA := Lib.hid (X2.out.below hba X2.out.lt)
 have BA := Lib.hid (HBK.out.below A2.out.b (Nat.le_refl _))
 clear hba
 go_wp2_with (first | ((with_reducible refine wpList_load_by (o := ⟨some 18, .load 24 (.tmp 2), _, _, _, _⟩) ?e1 24 (.tmp 2) ?e2 ⟨w.heap.size, 0, none⟩ ?e3 _ L18.out ?_); (case e1 => rfl); (case e2 => rfl); (case e3 => rfl)) | ((with_reducible refine wpList_store_oldb (o := ⟨none, .store 24 (.tmp 6) (.tmp 18), _, _, _, _⟩) ?e1 (.tmp 6) (.tmp 18) ?e2 w2.heap.size _ O6.out ?e3 (.slice b.A b.xs.length b.c) ?e4 ?e5 ?_); (case e1 => rfl); (case e2 => rfl); (case e3 => rfl); (case e4 => rfl); (case e5 => rfl); intro w3 hg2 hx2; have A3 := Lib.hid (A2.out.book BA.out hg2 hx2); have X3 := Lib.hid (XA.out.same (hg2.block _ XA.out.lt (fun e => by have := Option.some.inj e; have := HP.out; omega))); have c7 := A3.out.o7.c0; have f7 := A3.out.o7.fz; have A4 := Lib.hid (A3.out.err 0); have X4 := Lib.hid (X3.out.same (Below.heap_setCell w3 ⟨w2.heap.size + 1, 0, none⟩ (.int .i64 0) _ (by show w.heap.size + 1 ≠ w2.heap.size + 1; have := HP.out; omega))); have L19 := Lib.hid X4.out.load; clear hg2 hx2) | ((with_reducible refine wpList_load_by (o := ⟨some 19, .load 36 (.tmp 3), _, _, _, _⟩) ?e1 36 (.tmp 3) ?e2 ⟨(w.heap.size + 1), 0, none⟩ ?e3 _ L19.out ?_); (case e1 => rfl); (case e2 => rfl); (case e3 => rfl)))
 clear c7 f7
 generalize hw4 : w3.setCell ⟨w2.heap.size + 1, 0, none⟩ (.int .i64 0) = w4 at *
 clear hw4
 refine (halves_any x w4).mono ?_
 rintro e w5 ⟨rfl, hw5⟩
 obtain ⟨p, hp⟩ : ∃ p, p = w2.heap.size := ⟨_, rfl⟩
 obtain ⟨Bx, hBx⟩ : ∃ Bx, Bx = w4.heap.size := ⟨_, rfl⟩
 have hs5 : w5.heap.size = Bx + 1 := by rw [hw5, World.size_alloc, hBx]
 have hb5 : Below w4.heap.size w4 w5 := by rw [hw5]; exact (Below.refl _ _).alloc (Nat.le_refl _) _
 have A5 := Lib.hid (A4.out.below hb5)
 have X5 := Lib.hid (show XAt w5 Bx x from by rw [hw5, hBx]; exact XAt.new w4 HX.out.len)
 have HPB := Lib.hid (show p + 1 < Bx by rw [hp, hBx]; exact A4.out.o7.lt)
 rw [← hp] at A5 ⊢
 rw [← hBx]
 have HST := Lib.hid (halves_stops 11 (by omega) Bx x w w5 HX.out X5.out)
 have HS5 := Lib.hid hs5
 clear hw5 hs5 hb5 hp hBx
 clear HP A2 A3 A4 X3 X4 XA BA O6 O7 HSA L18 L19 L13 L9 CB CM
 go_wp2_with fail
 refine (wpIn_wide (n := 12)).1 ?_
 refine wpIn_rangeFunc_ownH (F := Fence.wide) (n := 12) rfl (by omega) (gf := 70) (lb := #[.pointer (some ⟨Bx, 0, none⟩)]) rfl trivial (enters_of Tryz.func70 (by kernel_rfl) rfl)
  (HST.out) (fun h k => k.trans h) (fun X l o o' hl h _ _ => World.putObj_heap_other (by have := HS5.out; omega)) (Below.refl _ _) (fun _ => rfl)
  (IA w p w5.heap.size b.rs) (IxA w b.rs) (IA_own A5.out.b.size) (IxA_own A5.out.b.size) ⟨b, rfl, A5.out, Nat.le_refl _⟩
  (fun y a' X => ∃ Be, w5.heap.size ≤ Be ∧ XAt X Be y.y ∧ a' = { tmps := #[Value.agg #[.slice b.A b.xs.length b.c], .agg x.cells, .pointer (some ⟨w.heap.size, 0, none⟩), .pointer (some ⟨w.heap.size + 1, 0, none⟩), .pointer (some ⟨w.heap.size + 1 + 1, 0, none⟩), .pointer (some ⟨w.heap.size + 1 + 1 + 1, 0, none⟩), .pointer (some ⟨p, 0, none⟩), .pointer (some ⟨p + 1, 0, none⟩), .pointer (some ⟨Be, 0, none⟩), .agg #[.slice b.A b.xs.length b.c], .bool true, .bool false, .bool false, .agg x.cells, .bool true, .bool false, .bool false, undef, .agg #[.slice b.A b.xs.length b.c], .agg x.cells, .func (.func 70) #[] #[.pointer (some ⟨Bx, 0, none⟩)], .agg y.y.cells, undef, undef, undef, undef, undef, undef, undef, undef, undef, undef, undef, undef, undef], defers := [] })
  (fun y a' _ X Y row hs hg hr => by
   obtain ⟨Be, h1, h2, h3⟩ := hs
   have hn : NoCells X row := fun r e => (hr r e).2
   exact ⟨Be, h1, h2.same (hg.block _ h2.lt (hn.ne h2.2)), h3⟩)
  ?assign ?body ?done ?stop
 case assign =>
  rintro l pre y X K ⟨d, h1, h2, h3⟩ hK
  have hba : Below X.heap.size X (X.alloc (.cells y.y.cells 36)) := (Below.refl _ _).alloc (Nat.le_refl _) _
  have hK2 := hK _ _ ((KeepsOthers.alloc X (.cells y.y.cells 36)).from _) (hba.block Bx (by have := HS5.out; omega)) ⟨d, h1, h2.below hba, Nat.le_trans h3 hba.size⟩ ⟨_, h3, XAt.new X y.ok.len, rfl⟩
  have ZX := Lib.hid y.ok.len
  clear hK h1 h2 h3 hba
  unfold encH
  gi_wp2_with (first | ((with_reducible refine wpListIn_store_newx (w := X) ?e0 (.tmp 8) (.tmp 21) ?e1 X.heap.size ?e2 ?e3 y.y ?e4 ZX.out ?_); (case e0 => rfl); (case e1 => rfl); (case e2 => rfl); (case e3 => rfl); (case e4 => rfl)))
  exact hK2
 case body =>
  rintro l pre y a' X hl hr ⟨d, hj, hA, hn⟩ ⟨Be, hBe, hX, rfl⟩ hlt
  have HA := Lib.hid hA
  have L23 := Lib.hid hA.o6.load
  have LX := Lib.hid hX.load
  have ZX := Lib.hid y.ok.len
  have HNN := Lib.hid hn
  have hba : Below X.heap.size X (X.alloc (.cells y.y.cells 36)) := (Below.refl _ _).alloc (Nat.le_refl _) _
  have AA := Lib.hid (hA.below hba)
  have HJN := Lib.hid (show jAll (0, b.rs) (hR (pre ++ [y])) = bjE d.rs [y.y.R] from by rw [hR_snoc, jAll_snoc, hj, if_pos rfl])
  have CJ := bjoin_any d ⟨[y.y], some ⟨X.heap.size, 0, none⟩, 1⟩ (X.alloc (.cells y.y.cells 36)) (HLA.out _ AA.out.b) AA.out.dk (one_at (y.ok.below hA.b (Nat.le_refl _)))
  unfold BJoinPost at CJ
  rw [show bjE d.rs (Bk.rs ⟨[y.y], some ⟨X.heap.size, 0, none⟩, 1⟩) = bjE d.rs [y.y.R] from rfl] at CJ
  dsimp only [List.length_cons, List.length_nil] at CJ
  rw [Nat.zero_add] at CJ
  obtain ⟨ec, Z, hZ⟩ : ∃ ec Z, bjE d.rs [y.y.R] = (ec, Z) := ⟨_, _, rfl⟩
  rw [hZ] at CJ HJN
  dsimp only at CJ
  have CJ := Lib.hid CJ
  have KF := Lib.hid (show KeepsFrom w5.heap.size X (X.alloc (.cells y.y.cells 36)) from (KeepsOthers.alloc X _).from _)
  have KH := Lib.hid (hba.block Bx (by have := HS5.out; omega))
  clear hA hX hn hba hZ hj
  by_cases hec : ec = 0
  ·subst hec
   gi_wp2_with (first | ((with_reducible refine wpListIn_load_by ?e0 24 (.tmp 6) ?e1 ⟨p, 0, none⟩ ?e2 _ L23.out ?_); (case e0 => rfl); (case e1 => rfl); (case e2 => rfl)) | ((with_reducible refine wpListIn_load_by ?e0 36 (.tmp 8) ?e1 ⟨Be, 0, none⟩ ?e2 _ LX.out ?_); (case e0 => rfl); (case e1 => rfl); (case e2 => rfl)) | ((with_reducible refine wpListIn_bslice ?e0 (.tmp 24) ?e1 y.y ?e2 ZX.out ?_); (case e0 => rfl); (case e1 => rfl); (case e2 => rfl)) | ((with_reducible refine wpListIn_build_want ?e0 24 #[(0, .tmp 25)] ?e1 #[(0, .slice (some ⟨X.heap.size, 0, none⟩) 1 1)] ?e2 _ (build_book _ _ _ _) ?_); (case e0 => rfl); (case e1 => rfl); (case e2 => (simp only [List.map_toArray, List.map_cons, List.map_nil]; rfl))))
   refine ⟨trivial, (CallsIn.inRound l (callsIn_wide.2 CJ.out)).mono ?_⟩
   rintro e8 X2 ⟨d2, rfl, hd2, hk2, hb⟩
   have A2 := Lib.hid (AA.out.below hb)
   have HD2 := Lib.hid hd2
   have HK2 := Lib.hid hk2
   have KF2 := Lib.hid (KF.out.trans (KeepsFrom.of_below hb))
   have KH2 := Lib.hid ((hb.block Bx (by rw [World.size_alloc]; have := HS5.out; have := HNN.out; omega)).trans KH.out)
   have HN2 := Lib.hid (show w5.heap.size ≤ X2.heap.size from Nat.le_trans (Nat.le_trans HNN.out (by rw [World.size_alloc]; omega)) hb.size)
   clear hd2 hk2 hb
   gi_wp2_with (first | ((with_reducible refine wpListIn_store_oldb ?e1 (.tmp 6) (.tmp 28) ?e2 p _ A2.out.o6 ?e3 (.slice d2.A d2.xs.length d2.c) ?e4 ?e5 ?_); (case e1 => rfl); (case e2 => rfl); (case e3 => rfl); (case e4 => rfl); (case e5 => rfl); intro X3 hg3 hx3; have A3 := Lib.hid (A2.out.book HK2.out hg3 hx3); have K3 := Lib.hid (KF2.out.trans (KeepsFrom.of_grownBy hg3 (fun j e => by have := Option.some.inj e; have := HPB.out; have := HS5.out; omega))); have H3 := Lib.hid ((hg3.block Bx (by have := HN2.out; have := HS5.out; omega) (fun e => by have := Option.some.inj e; have := HPB.out; omega)).trans KH2.out); have N3 := Lib.hid (Nat.le_trans HN2.out hg3.size); have c7 := A3.out.o7.c0; have f7 := A3.out.o7.fz; have A4 := Lib.hid (A3.out.err 0); have c8 := A4.out.o7.c0; clear hg3 hx3))
   refine ⟨K3.out.trans ((KeepsOthers.setCell _ _ _).from _), (Below.heap_setCell _ _ _ _ (by show Bx ≠ p + 1; have := HPB.out; omega)).trans H3.out, d2, by rw [HJN.out, HD2.out], A4.out, Nat.le_trans N3.out (KeepsWalks.setCell _ _ _).size⟩
  ·have hec2 : (ec == 0) = false := by simpa using hec
   have hec3 : (ec != 0) = true := by simpa using hec
   gi_wp2_with (first | ((with_reducible refine wpListIn_load_by ?e0 24 (.tmp 6) ?e1 ⟨p, 0, none⟩ ?e2 _ L23.out ?_); (case e0 => rfl); (case e1 => rfl); (case e2 => rfl)) | ((with_reducible refine wpListIn_load_by ?e0 36 (.tmp 8) ?e1 ⟨Be, 0, none⟩ ?e2 _ LX.out ?_); (case e0 => rfl); (case e1 => rfl); (case e2 => rfl)) | ((with_reducible refine wpListIn_bslice ?e0 (.tmp 24) ?e1 y.y ?e2 ZX.out ?_); (case e0 => rfl); (case e1 => rfl); (case e2 => rfl)) | ((with_reducible refine wpListIn_build_want ?e0 24 #[(0, .tmp 25)] ?e1 #[(0, .slice (some ⟨X.heap.size, 0, none⟩) 1 1)] ?e2 _ (build_book _ _ _ _) ?_); (case e0 => rfl); (case e1 => rfl); (case e2 => (simp only [List.map_toArray, List.map_cons, List.map_nil]; rfl))))
   refine ⟨trivial, (CallsIn.inRound l (callsIn_wide.2 CJ.out)).mono ?_⟩
   rintro e8 X2 ⟨d2, rfl, hd2, hk2, hb⟩
   have A2 := Lib.hid (AA.out.below hb)
   have HK2 := Lib.hid hk2
   have KF2 := Lib.hid (KF.out.trans (KeepsFrom.of_below hb))
   clear hd2 hk2 hb
   gi_wp2_with (first | ((with_reducible refine wpListIn_store_oldb ?e1 (.tmp 6) (.tmp 28) ?e2 p _ A2.out.o6 ?e3 (.slice d2.A d2.xs.length d2.c) ?e4 ?e5 ?_); (case e1 => rfl); (case e2 => rfl); (case e3 => rfl); (case e4 => rfl); (case e5 => rfl); intro X3 hg3 hx3; have A3 := Lib.hid (A2.out.book HK2.out hg3 hx3); have K3 := Lib.hid (KF2.out.trans (KeepsFrom.of_grownBy hg3 (fun j e => by have := Option.some.inj e; have := HPB.out; have := HS5.out; omega))); have c7 := A3.out.o7.c0; have f7 := A3.out.o7.fz; have A4 := Lib.hid (A3.out.err ec); have c8 := A4.out.o7.c0; clear hg3 hx3))
   clear c7 f7 c8
   have K4 := Lib.hid (show KeepsFrom w5.heap.size X3 (X3.setCell ⟨p + 1, 0, none⟩ (.int .i64 ec)) from (KeepsOthers.setCell _ _ _).from _)
   generalize X3.setCell ⟨p + 1, 0, none⟩ (.int .i64 ec) = X4 at *
   have X8B := Lib.hid ((Below.refl X4.heap.size X4).drew)
   have R8 := Lib.hid (A4.out.r4.below X8B.out A4.out.r4.lt)
   have E8 := Lib.hid (A4.out.r5.below X8B.out A4.out.r5.lt)
   have C8 := Lib.hid (A4.out.o7.below X8B.out A4.out.o7.lt)
   have B8 := Lib.hid (A4.out.b.trans (X8B.out.mono A4.out.b.size))
   have K8 := Lib.hid ((K3.out.trans K4.out).trans (KeepsFrom.of_below X8B.out))
   refine wpIn_region_any (by kernel_rfl) ?_
   change wpAnyIn _ _ _ _ _ _ _ _ _ (World.drew _)
   clear X8B
   generalize World.drew X4 = X8 at *
   have hp9 := A4.out.lt
   have E9 := Lib.hid (show ErAt (X8.setRow (w.heap.size + 1 + 1) #[.slice none 0 0]) (w.heap.size + 1 + 1 + 1) 0 from E8.out.same (setRow_other _ _ _ _ (by omega)))
   have C9 := Lib.hid (show ErAt (X8.setRow (w.heap.size + 1 + 1) #[.slice none 0 0]) (p + 1) ec from C8.out.same (setRow_other _ _ _ _ (by omega)))
   have R9 := Lib.hid (R8.out.put (.slice none 0 0))
   have R10 := Lib.hid (show BoAt ((X8.setRow (w.heap.size + 1 + 1) #[.slice none 0 0]).setRow (w.heap.size + 1 + 1 + 1) #[.int .i64 ec]) (w.heap.size + 1 + 1) (.slice none 0 0) from R9.out.same (setRow_other _ _ _ _ (by omega)))
   have E10 := Lib.hid (show ErAt ((X8.setRow (w.heap.size + 1 + 1) #[.slice none 0 0]).setRow (w.heap.size + 1 + 1 + 1) #[.int .i64 ec]) (w.heap.size + 1 + 1 + 1) ec from setRow_heap _ _ _ _ _ _ E9.out)
   have B10 := Lib.hid (below_setRow (below_setRow B8.out (by show w.heap.size ≤ (w.heap.size + 1 + 1); omega) #[.slice none 0 0]) (by show w.heap.size ≤ (w.heap.size + 1 + 1 + 1); omega) #[.int .i64 ec])
   have K9 := Lib.hid ((K8.out.trans (KeepsFrom.of_grownBy (grownBy_setRow X8 (w.heap.size + 1 + 1) #[.slice none 0 0]) (fun j e => by have := Option.some.inj e; have := HPB.out; have := HS5.out; omega))).trans (KeepsFrom.of_grownBy (grownBy_setRow _ (w.heap.size + 1 + 1 + 1) #[.int .i64 ec]) (fun j e => by have := Option.some.inj e; have := HPB.out; have := HS5.out; omega)))
   clear hp9
   refine wpAnyIn_ready (rs := [0, 1]) (by kernel_rfl) (by simp) (AllReadyIn.cons (o := ⟨some 32, _, _, _, _, _⟩) rfl (fun K hK => ?_) (AllReadyIn.cons (o := ⟨some 33, _, _, _, _, _⟩) rfl (fun K hK => ?_) AllReadyIn.nil))
   ·refine in_build rfl 24 #[] rfl #[] (by simp) _ (build_book0 _) ?_
    refine hK _ _ ?_
    clear hK K
    try simp only [Act.put]
    refine wpAnyIn_ready (rs := [1, 2]) (by kernel_rfl) (by simp) (AllReadyIn.cons (o := ⟨some 33, _, _, _, _, _⟩) rfl (fun K hK => ?_) (AllReadyIn.cons (o := ⟨none, _, _, _, _, _⟩) rfl (fun K hK => ?_) AllReadyIn.nil))
    ·refine in_load rfl 43 (.tmp 7) rfl _ rfl _ C8.out.load ?_
     refine hK _ _ ?_
     clear hK K
     try simp only [Act.put]
     refine wpAnyIn_ready (rs := [2]) (by kernel_rfl) (by simp) (AllReadyIn.cons (o := ⟨none, _, _, _, _, _⟩) rfl (fun K hK => ?_) AllReadyIn.nil)
     refine in_store rfl 24 (.tmp 4) (.tmp 32) rfl _ _ rfl rfl (R8.out.store rfl) ?_
     refine hK _ _ ?_
     clear hK K
     try simp only [Act.put]
     refine wpAnyIn_ready (rs := [3]) (by kernel_rfl) (by simp) (AllReadyIn.cons (o := ⟨none, _, _, _, _, _⟩) rfl (fun K hK => ?_) AllReadyIn.nil)
     refine in_store rfl 43 (.tmp 5) (.tmp 33) rfl _ _ rfl rfl (E9.out.store ec) ?_
     refine hK _ _ ?_
     clear hK K
     try simp only [Act.put]
     refine wpAnyIn_done (by kernel_rfl) ?_ _
     gi_wp2
     exact ⟨K9.out, rfl, ec, Z, hec, HJN.out, R10.out, E10.out, B10.out⟩
    ·refine in_store rfl 24 (.tmp 4) (.tmp 32) rfl _ _ rfl rfl (R8.out.store rfl) ?_
     refine hK _ _ ?_
     clear hK K
     try simp only [Act.put]
     refine wpAnyIn_ready (rs := [1]) (by kernel_rfl) (by simp) (AllReadyIn.cons (o := ⟨some 33, _, _, _, _, _⟩) rfl (fun K hK => ?_) AllReadyIn.nil)
     refine in_load rfl 43 (.tmp 7) rfl _ rfl _ C9.out.load ?_
     refine hK _ _ ?_
     clear hK K
     try simp only [Act.put]
     refine wpAnyIn_ready (rs := [3]) (by kernel_rfl) (by simp) (AllReadyIn.cons (o := ⟨none, _, _, _, _, _⟩) rfl (fun K hK => ?_) AllReadyIn.nil)
     refine in_store rfl 43 (.tmp 5) (.tmp 33) rfl _ _ rfl rfl (E9.out.store ec) ?_
     refine hK _ _ ?_
     clear hK K
     try simp only [Act.put]
     refine wpAnyIn_done (by kernel_rfl) ?_ _
     gi_wp2
     exact ⟨K9.out, rfl, ec, Z, hec, HJN.out, R10.out, E10.out, B10.out⟩
   ·refine in_load rfl 43 (.tmp 7) rfl _ rfl _ C8.out.load ?_
    refine hK _ _ ?_
    clear hK K
    try simp only [Act.put]
    refine wpAnyIn_ready (rs := [0]) (by kernel_rfl) (by simp) (AllReadyIn.cons (o := ⟨some 32, _, _, _, _, _⟩) rfl (fun K hK => ?_) AllReadyIn.nil)
    refine in_build rfl 24 #[] rfl #[] (by simp) _ (build_book0 _) ?_
    refine hK _ _ ?_
    clear hK K
    try simp only [Act.put]
    refine wpAnyIn_ready (rs := [2]) (by kernel_rfl) (by simp) (AllReadyIn.cons (o := ⟨none, _, _, _, _, _⟩) rfl (fun K hK => ?_) AllReadyIn.nil)
    refine in_store rfl 24 (.tmp 4) (.tmp 32) rfl _ _ rfl rfl (R8.out.store rfl) ?_
    refine hK _ _ ?_
    clear hK K
    try simp only [Act.put]
    refine wpAnyIn_ready (rs := [3]) (by kernel_rfl) (by simp) (AllReadyIn.cons (o := ⟨none, _, _, _, _, _⟩) rfl (fun K hK => ?_) AllReadyIn.nil)
    refine in_store rfl 43 (.tmp 5) (.tmp 33) rfl _ _ rfl rfl (E9.out.store ec) ?_
    refine hK _ _ ?_
    clear hK K
    try simp only [Act.put]
    refine wpAnyIn_done (by kernel_rfl) ?_ _
    gi_wp2
    exact ⟨K9.out, rfl, ec, Z, hec, HJN.out, R10.out, E10.out, B10.out⟩
 case done =>
  rintro D ys X hD hp ⟨d, hj, hA, hn⟩ hK
  have HJ9 := Lib.hid (show jAll (0, b.rs) (halvesL x.R) = (0, d.rs) from by rw [← hp]; exact hj)
  have L34 := Lib.hid hA.o6.load
  have HA := Lib.hid hA
  have HK := Lib.hid hK
  have HD := Lib.hid (show p + 1 < D from by have := HPB.out; have := HS5.out; omega)
  clear hj hA hn hK hp
  have R8 := Lib.hid HA.out.r4
  go_wp2_with (first | ((with_reducible refine wpList_load_by (o := ⟨some 34, .load 24 (.tmp 6), _, _, _, _⟩) ?e1 24 (.tmp 6) ?e2 ⟨p, 0, none⟩ ?e3 _ L34.out ?_); (case e1 => rfl); (case e2 => rfl); (case e3 => rfl)) | ((with_reducible refine wpList_store_oldb (o := ⟨none, .store 24 (.tmp 4) (.tmp 34), _, _, _, _⟩) ?e1 (.tmp 4) (.tmp 34) ?e2 (w.heap.size + 1 + 1) _ R8.out ?e3 (.slice d.A d.xs.length d.c) ?e4 ?e5 ?_); (case e1 => rfl); (case e2 => rfl); (case e3 => rfl); (case e4 => rfl); (case e5 => rfl); intro w9 hg2 hx2; have R3 := Lib.hid hx2; have E3 := Lib.hid (HA.out.r5.same (hg2.block _ HA.out.r5.lt (fun e => by have := Option.some.inj e; omega))); have D3 := Lib.hid (HA.out.dk.kept_bo hg2 HA.out.r4); have B3 := Lib.hid (HA.out.b.grown hg2 HA.out.b.size (fun q e => by have := Option.some.inj e; omega)); have K3 := Lib.hid ((hg2.block D (Array.getElem?_eq_some_iff.1 HK.out).1 (fun e => by have := Option.some.inj e; have := HD.out; have := HA.out.lt; omega)).trans HK.out); have e0 := E3.out.c0; have ef := E3.out.fz; clear hg2 hx2))
  clear e0 ef
  have D4 := Lib.hid (D3.out.kept_er (grownBy_setCell18 w9 (w.heap.size + 1 + 1 + 1) 0 (.int .i64 0)) E3.out)
  have E4 := Lib.hid (E3.out.put 0)
  have R4 := Lib.hid (show BoAt (w9.setCell ⟨(w.heap.size + 1 + 1 + 1), 0, none⟩ (.int .i64 0)) (w.heap.size + 1 + 1) (.slice d.A d.xs.length d.c) from R3.out.same (Below.heap_setCell _ _ _ _ (by show (w.heap.size + 1 + 1) ≠ (w.heap.size + 1 + 1 + 1); omega)))
  have B4 := Lib.hid (B3.out.setCell (p := ⟨(w.heap.size + 1 + 1 + 1), 0, none⟩) (by show w.heap.size ≤ (w.heap.size + 1 + 1 + 1); omega) (.int .i64 0))
  have K9 := Lib.hid (show (w9.setCell ⟨(w.heap.size + 1 + 1 + 1), 0, none⟩ (.int .i64 0)).heap[D]? = some (.deferred (some [])) from (Below.heap_setCell _ _ _ _ (by show D ≠ (w.heap.size + 1 + 1 + 1); have := HD.out; have := HA.out.lt; omega)).trans K3.out)
  generalize w9.setCell ⟨(w.heap.size + 1 + 1 + 1), 0, none⟩ (.int .i64 0) = w8 at *
  have R9 := Lib.hid (show BoAt (w8.putObj D (.deferred none)) (w.heap.size + 1 + 1) (.slice d.A d.xs.length d.c) from R4.out.same (World.putObj_heap_other (by have := HD.out; have := HA.out.lt; omega)))
  have E9 := Lib.hid (show ErAt (w8.putObj D (.deferred none)) (w.heap.size + 1 + 1 + 1) 0 from E4.out.same (World.putObj_heap_other (by have := HD.out; have := HA.out.lt; omega)))
  have D9 := Lib.hid (D4.out.turned (grownBy_putObj' w8 D (.deferred none)) (fun r e => by cases e; exact ⟨_, K9.out, rfl⟩))
  have B9 := Lib.hid (show Below w.heap.size w (w8.putObj D (.deferred none)) from B4.out.trans (belowK_b (w := w) (Nat.le_refl _) _ D _ _ (by have := HD.out; have := HA.out.lt; omega) K9.out rfl rfl))
  refine ⟨by simp, .inl ⟨_, _, rfl, run_takeDeferred K9.out, ?_⟩⟩
  exact ⟨_, res_bkE Tryz.results13 rfl rfl R9.out E9.out, HYES.out _ d HJ9.out D9.out B9.out⟩
 case stop =>
  rintro D c pre X hD hp ⟨rfl, e, Z, h1, h2, h3, h4, h5⟩ hK
  have HF := Lib.hid (And.intro h1 h2)
  have hne4 : (w.heap.size + 1 + 1) ≠ D := fun e => by rw [← e] at hK; rw [h3] at hK; cases hK
  have hne5 : (w.heap.size + 1 + 1 + 1) ≠ D := fun e => by rw [← e] at hK; rw [h4] at hK; cases hK
  have R9 := Lib.hid (show BoAt (X.putObj D (.deferred none)) (w.heap.size + 1 + 1) (.slice none 0 0) from h3.same (World.putObj_heap_other hne4))
  have E9 := Lib.hid (show ErAt (X.putObj D (.deferred none)) (w.heap.size + 1 + 1 + 1) e from h4.same (World.putObj_heap_other hne5))
  have B9 := Lib.hid (show Below w.heap.size w (X.putObj D (.deferred none)) from h5.trans (belowK_b (w := w) (Nat.le_refl _) _ D _ _ (by have := A5.out.b.size; omega) hK rfl rfl))
  have HPX := Lib.hid hp
  have K9 := Lib.hid hK
  clear h1 h2 h3 h4 h5 hp hK hne4 hne5
  refine wpIn_wide.2 ?_
  go_wp2
  refine ⟨by simp, .inl ⟨_, _, rfl, run_takeDeferred K9.out, ?_⟩⟩
  exact ⟨_, res_bkE Tryz.results13 rfl rfl R9.out E9.out, HERR.out _ _ e Z HPX.out HF.out.2 HF.out.1 B9.out⟩
theorem padd14_any (b : Bk) (x : RcA) (w : World) (hlaid : Laid w) (hb : BkAt w b) (hx : RvAt w x) : Calls Tryz.prog 13 #[.agg #[.slice b.A b.xs.length b.c], .agg x.cells] w (BJoinPost w (addE b.rs x.R)) := by
 cases hbm : bmay b.rs with
 | false => exact padd1 b x w hlaid hb hx hbm
 | true =>
  cases hmp : mayP x.R with
  | false => exact padd2 b x w hlaid hb hx hbm hmp
  | true => exact padd3 b x w hlaid hb hx hbm hmp
end
end Go.Proofs.YtnlhkpmgbpfjmaaGreatDoor
