import Derived.Test.YtlahjooofjbfbaaDoorSgBase
import Derived.Test.YtlahjooofjbfbaaDoorGShaD
import Derived.Test.YtlahjooofjbfbaaDoorRlChk
/-
  What sign.One answers. Nothing that was there is written.
-/
namespace Go.Proofs.YtlahjooofjbfbaaDoor
open Go.RowKit WM
set_option linter.unusedVariables false
set_option maxRecDepth 100000
set_option maxHeartbeats 2000000 in
theorem one_any (s : ByteArray) (w : World) (hlaid : Laid w) (hs : s.size ≤ 1000000) : Calls Tryd.prog 12 #[.string s] w fun e w' => e = .returned (KSig.v (sgOne (nums s))) ∧ Below w.heap.size w w' := by
  have hz := zeroSig
  have hok := sgOne_ok (nums s)
  have HC1 := Lib.hid (fun w => rlsum_any s w hs)
  have HC2 := Lib.hid (fun (X : World) (hX : Below w.heap.size w X) => of_any s X (hlaid.below hX (Nat.le_refl _)) (by omega))
  unfold DSumPost at HC2
  have HBD := Lib.hid (fun w9 => build_sig (x := sgOne (nums s)) hok.2.2.1 w9)
  have SZ := Lib.hid (sig_size hok)
  have SQ := Lib.hid (sig_same sgz_ok hok)
  have SO := Lib.hid (sig_ones (sgOne (nums s)))
  have hrA : ∀ X, Below (w.heap.size + 1) (w.alloc (.cells (KSig.cs sgz).toArray 30)) X → X.heap[w.heap.size]? = some (.cells (KSig.cs sgz).toArray 30) := fun X hX => (hX.block _ (by omega)).trans (heap_alloc_new w _)
  have hbA : Below w.heap.size w (w.alloc (.cells (KSig.cs sgz).toArray 30)) := (Below.refl _ _).alloc (Nat.le_refl _) _
  have hszA : (w.alloc (.cells (KSig.cs sgz).toArray 30)).heap.size = w.heap.size + 1 := World.size_alloc _ _
  simp only [show (sgOne (nums s)).wk = rlS (nums s) from rfl, show (sgOne (nums s)).ds = SH.sum (nums s) from rfl] at HBD
  rw [show KSig.v ⟨0, List.replicate 32 0⟩ = .agg (KSig.cs sgz).toArray from rfl] at hz
  rw [show KSig.v (sgOne (nums s)) = .agg (KSig.cs (sgOne (nums s))).toArray from rfl] at HBD ⊢
  have hzne : ¬ (KSig.cs sgz).toArray = #[] := by simp [KSig, Sg.cs]
  have HRA := Lib.hid hrA
  have HBA := Lib.hid hbA
  have HSZ := Lib.hid hszA
  generalize (KSig.cs sgz).toArray = Z at *
  generalize (KSig.cs (sgOne (nums s))).toArray = V at *
  generalize rlS (nums s) = R at *
  generalize bvals (SH.sum (nums s)) = D at *
  clear hrA hbA hszA hok hlaid
  go_enter Tryd.func12, Tryd.ntmps12
  go_wp2_with fail
  refine (HC1.out _).mono ?_
  rintro e w1 ⟨rfl, hb1⟩
  rw [HSZ.out] at hb1
  have HB1 := Lib.hid hb1
  clear hb1
  go_wp2_with fail
  refine (HC2.out _ (HBA.out.trans (HB1.out.mono (by omega)))).mono ?_
  rintro e w2 ⟨rfl, hb2⟩
  have HB2 := Lib.hid (HB1.out.trans (hb2.mono (by have := HB1.out.size; rw [HSZ.out] at this; exact this)))
  have F1 := Lib.hid (HRA.out _ HB2.out)
  have F2 := Lib.hid (show (w2.setRow w.heap.size V).heap[w.heap.size]? = some (.cells V 30) from setRow_heap _ _ _ _ _ _ F1.out)
  have F3 := Lib.hid (below_setRow (HBA.out.trans (HB2.out.mono (by omega))) (Nat.le_refl _) V)
  clear hb2
  go_wp2_with (first | ((with_reducible refine wpList_build_at (o := ⟨some 7, .build 30 #[(0, .tmp 4), (1, .tmp 6)], _, _, _, _⟩) ?e1 30 #[(0, .tmp 4), (1, .tmp 6)] ?e2 #[(0, .int .u32 R), (1, .agg D)] ?e3 _ (HBD.out w2) ?_); (case e1 => rfl); (case e2 => rfl); (case e3 => (simp only [List.map_toArray, List.map_cons, List.map_nil]; rfl))) | ((with_reducible refine wpList_store_row (o := ⟨none, .store 30 (.tmp 2) (.tmp 7), _, _, _, _⟩) ?e1 30 (.tmp 2) (.tmp 7) ?e2 w.heap.size V ?e3 ?e4 30 _ F1.out SZ.out SQ.out SO.out ?_); (case e1 => rfl); (case e2 => rfl); (case e3 => rfl); (case e4 => rfl)))
  exact bodyPost_ret (v := .agg V) (by exact results_cell_row Tryd.results12 _ _ w.heap.size 30 V (0, 0) _ rfl F2.out Tryd.underlying30 rfl SZ.out) (by rfl) ⟨rfl, F3.out⟩
end Go.Proofs.YtlahjooofjbfbaaDoor

