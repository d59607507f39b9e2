/-
  What cells are ordered by (cell.orders, and its three functions). Nothing that was there is written.
-/
import Derived.Test.YtonbhcbkelmhgaaDoorClBase
import Derived.Test.YtonbhcbkelmhgaaDoorShaLess
import Derived.Test.YtonbhcbkelmhgaaDoorUniG
namespace Go.Proofs.YtonbhcbkelmhgaaDoor
open Go.RowKit WM
set_option linter.unusedVariables false
theorem ord1_any (a b : Cel) (w : World) : Calls Tryd.prog 65 #[a.v, b.v] w fun e w' => e = .returned (.bool (stLess a.n a.r b.n b.r)) ∧ Below w.heap.size w w' := by
  have HC := Lib.hid (stLess_any a.n a.r b.n b.r)
  have HB := Lib.hid (((Below.refl w.heap.size w).alloc (Nat.le_refl _) (.cells #[.int .i64 a.n, .int .i64 a.r, .string a.s] 25)).alloc (by simp) (.cells #[.int .i64 b.n, .int .i64 b.r, .string b.s] 25))
  unfold st at HC
  unfold Cel.v
  go_enter Tryd.func65, Tryd.ntmps65
  go_wp2_with fail
  refine (HC.out _).mono ?_
  rintro e w1 ⟨rfl, hb1⟩
  have bw := Lib.hid (HB.out.trans (hb1.mono HB.out.size))
  clear hb1
  go_wp2
  go_ret
  exact ⟨rfl, bw.out⟩
theorem ord3_any (a b : Cel) (w : World) : Calls Tryd.prog 69 #[a.v, b.v] w fun e w' => e = .returned (.bool (lessL (nums a.s) (nums b.s))) ∧ Below w.heap.size w w' := by
  have HB := Lib.hid (((Below.refl w.heap.size w).alloc (Nat.le_refl _) (.cells #[.int .i64 a.n, .int .i64 a.r, .string a.s] 25)).alloc (by simp) (.cells #[.int .i64 b.n, .int .i64 b.r, .string b.s] 25))
  have hl : Op.bytesLess a.s.toList b.s.toList = lessL (nums a.s) (nums b.s) := by
    have := str_less (nums_bytes a.s) (nums_bytes b.s)
    rw [str_nums, str_nums] at this
    exact this
  unfold Cel.v
  go_enter Tryd.func69, Tryd.ntmps69
  go_wp2
  go_ret
  exact ⟨rfl, HB.out⟩
def ordV : Value := .agg #[.func (.func 65) #[] #[], .func (.func 66) #[] #[], .func (.func 69) #[] #[]]
def ordC : Array Value := #[.func (.func 65) #[] #[], .func (.func 66) #[] #[], .func (.func 69) #[] #[]]
theorem orders_any (w : World) : Calls Tryd.prog 50 #[] w fun e w' => e = .returned ordV ∧ Below w.heap.size w w' := by
  have F1 := Lib.hid (show (w.alloc (.cells #[.nilFunc, .nilFunc, .nilFunc] 66)).heap[w.heap.size]? = some (.cells #[.nilFunc, .nilFunc, .nilFunc] 66 (0, 0)) from heap_alloc_new w _)
  have HIs := Lib.hid (show (Tryd.prog.info? 66).map (·.size) = some ordC.size by kernel_rfl)
  have HZs := Lib.hid (show (#[.nilFunc, .nilFunc, .nilFunc] : Array Value).size = ordC.size from rfl)
  have HOs := Lib.hid (show ordC.all (·.oneCell') = true by kernel_rfl)
  have F2 := Lib.hid (setRow_heap (w.alloc (.cells #[.nilFunc, .nilFunc, .nilFunc] 66)) w.heap.size _ ordC _ _ F1.out)
  have F3 := Lib.hid (below_setRow ((Below.refl w.heap.size w).alloc (Nat.le_refl _) (.cells #[.nilFunc, .nilFunc, .nilFunc] 66)) (Nat.le_refl _) ordC)
  go_enter Tryd.func50, Tryd.ntmps50
  go_wp2_with (first | ((with_reducible refine wpList_store_row (o := ⟨none, .store 66 (.tmp 0) (.tmp 1), _, _, _, _⟩) ?e1 66 (.tmp 0) (.tmp 1) ?e2 w.heap.size ordC ?e3 ?e4 66 _ F1.out HIs.out HZs.out HOs.out ?_); (case e1 => rfl); (case e2 => rfl); (case e3 => rfl); (case e4 => rfl)))
  exact bodyPost_ret (v := ordV) (by exact results_cell_row Tryd.results50 _ _ w.heap.size 66 ordC (0, 0) _ rfl F2.out Tryd.underlying66 rfl HIs.out) (by rfl) ⟨rfl, F3.out⟩
set_option maxHeartbeats 1000000 in
theorem ord2_any (a b : Cel) (w : World) (hlaid : Laid w) (ha : a.s.size ≤ 300) (hb : b.s.size ≤ 300) : Calls Tryd.prog 66 #[a.v, b.v] w fun e w' => e = .returned (.bool (lessL (SH.sum (nums a.s)) (SH.sum (nums b.s)))) ∧ Below w.heap.size w w' := by
  have S0 := Lib.hid ((ClAt.new w a).old (.cells #[.int .i64 b.n, .int .i64 b.r, .string b.s] 25))
  have s1 := ClAt.new (w.alloc (.cells #[.int .i64 a.n, .int .i64 a.r, .string a.s] 25)) b
  rw [World.size_alloc] at s1
  have S1 := Lib.hid s1
  have hB := (((Below.refl w.heap.size w).alloc (Nat.le_refl _) (.cells #[.int .i64 a.n, .int .i64 a.r, .string a.s] 25)).alloc (by simp) (.cells #[.int .i64 b.n, .int .i64 b.r, .string b.s] 25))
  have HB := Lib.hid hB
  have HO := Lib.hid (fun (c : Cel) (hc : c.s.size ≤ 300) (X : World) (hX : Below ((w.alloc (.cells #[.int .i64 a.n, .int .i64 a.r, .string a.s] 25)).alloc (.cells #[.int .i64 b.n, .int .i64 b.r, .string b.s] 25)).heap.size ((w.alloc (.cells #[.int .i64 a.n, .int .i64 a.r, .string a.s] 25)).alloc (.cells #[.int .i64 b.n, .int .i64 b.r, .string b.s] 25)) X) => of_any c.s X (hlaid.below (hB.trans (hX.mono hB.size)) (Nat.le_refl _)) (by omega))
  have HOa := Lib.hid (HO.out a ha)
  have HOb := Lib.hid (HO.out b hb)
  have HL := Lib.hid (fun (X : World) => less_any (SH.sum (nums a.s)) (SH.sum (nums b.s)) X (SH.sum_bytes _) (SH.sum_bytes _) (SH.sum_len _) (SH.sum_len _))
  unfold DSumPost at HOa HOb
  generalize bvals (SH.sum (nums a.s)) = VA at *
  generalize bvals (SH.sum (nums b.s)) = VB at *
  clear s1 hB HO hlaid
  unfold Cel.v
  go_enter Tryd.func66, Tryd.ntmps66
  go_wp2_with fail
  refine wp_region_G ((w.alloc (.cells #[.int .i64 a.n, .int .i64 a.r, .string a.s] 25)).alloc (.cells #[.int .i64 b.n, .int .i64 b.r, .string b.s] 25)) (by kernel_rfl) ?_
  refine wpG_take (i := 0) (oi := ⟨some 5, _, _, _, _, _⟩) (v := ?_) rfl (by kernel_rfl) (by kernel_rfl) (by kernel_rfl) (Or.inl ⟨by rfl, unib_val ?_⟩) ?_; rotate_left; (focus (intro w9 hSw; go_simp; try with_reducible rfl)); simp only [Act.put, List.setIfInBounds_toArray, List.set_cons_zero, List.set_cons_succ]
  refine wpG_take (i := 1) (oi := ⟨some 6, _, _, _, _, _⟩) (v := ?_) rfl (by kernel_rfl) (by kernel_rfl) (by kernel_rfl) (Or.inl ⟨by rfl, unib_val ?_⟩) ?_; rotate_left; (focus (intro w9 hSw; have q9 := S0.out.below hSw S0.out.lt; have q2 := q9.c2; go_simp; try with_reducible rfl)); simp only [Act.put, List.setIfInBounds_toArray, List.set_cons_zero, List.set_cons_succ]
  refine wpG_take (i := 2) (oi := ⟨some 7, _, _, _, _, _⟩) rfl (by kernel_rfl) (by kernel_rfl) (by kernel_rfl) (Or.inl ⟨by rfl, unib_call_if ?_ (fun w9 hSw => HOa.out w9 hSw)⟩) ?_; (focus (intro w9 hSw; go_simp; try with_reducible rfl)); simp only [Act.put, List.setIfInBounds_toArray, List.set_cons_zero, List.set_cons_succ]
  refine wpG_take (i := 3) (oi := ⟨some 8, _, _, _, _, _⟩) (v := ?_) rfl (by kernel_rfl) (by kernel_rfl) (by kernel_rfl) (Or.inl ⟨by rfl, unib_val ?_⟩) ?_; rotate_left; (focus (intro w9 hSw; go_simp; try with_reducible rfl)); simp only [Act.put, List.setIfInBounds_toArray, List.set_cons_zero, List.set_cons_succ]
  refine wpG_take (i := 4) (oi := ⟨some 9, _, _, _, _, _⟩) (v := ?_) rfl (by kernel_rfl) (by kernel_rfl) (by kernel_rfl) (Or.inl ⟨by rfl, unib_val ?_⟩) ?_; rotate_left; (focus (intro w9 hSw; have q9 := S1.out.below hSw S1.out.lt; have q2 := q9.c2; go_simp; try with_reducible rfl)); simp only [Act.put, List.setIfInBounds_toArray, List.set_cons_zero, List.set_cons_succ]
  refine wpG_take (i := 5) (oi := ⟨some 10, _, _, _, _, _⟩) rfl (by kernel_rfl) (by kernel_rfl) (by kernel_rfl) (Or.inl ⟨by rfl, unib_call_if ?_ (fun w9 hSw => HOb.out w9 hSw)⟩) ?_; (focus (intro w9 hSw; go_simp; try with_reducible rfl)); simp only [Act.put, List.setIfInBounds_toArray, List.set_cons_zero, List.set_cons_succ]
  refine wpG_take (i := 6) (oi := ⟨some 11, _, _, _, _, _⟩) rfl (by kernel_rfl) (by kernel_rfl) (by kernel_rfl) (Or.inl ⟨by rfl, unib_call ?_ HL.out⟩) ?_; (focus (intro w9 hSw; go_simp; try with_reducible rfl)); simp only [Act.put, List.setIfInBounds_toArray, List.set_cons_zero, List.set_cons_succ]
  refine wpG_take (i := 7) (oi := ⟨some 4, _, _, _, _, _⟩) (v := ?_) rfl (by kernel_rfl) (by kernel_rfl) (by kernel_rfl) (Or.inl ⟨by rfl, unib_val ?_⟩) ?_; rotate_left; (focus (intro w9 hSw; go_simp; try with_reducible rfl)); simp only [Act.put, List.setIfInBounds_toArray, List.set_cons_zero, List.set_cons_succ]
  refine wpG_done (by kernel_rfl) ?_ _
  intro w9 hSw _
  go_wp2
  go_ret
  exact ⟨rfl, HB.out.trans (hSw.mono HB.out.size)⟩
end Go.Proofs.YtonbhcbkelmhgaaDoor
