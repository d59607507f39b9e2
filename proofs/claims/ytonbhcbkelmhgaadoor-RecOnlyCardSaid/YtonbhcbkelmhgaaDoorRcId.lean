/-
  A name is stored into a record that lies in a block.
-/
import Derived.Test.YtonbhcbkelmhgaaDoorRcLeq
import Derived.Test.YtonbhcbkelmhgaaDoorRcLoop
namespace Go.Proofs.YtonbhcbkelmhgaaDoor
open Go.RowKit WM
set_option linter.unusedVariables false
set_option maxRecDepth 20000
theorem run_store_id {w : World} {b : Nat} {z z' : List Int} {n r : Int} {v : Value} (h : RcAt w b z n r v) (hz : z'.length = 16) : (storeVar 40 ⟨b, 0, none⟩ (.agg (bvals z'))).run Tryd.prog w = .ok () (w.setRow b (rcells z' n r v)) := by
  have h1 := run_storeCells_at (P := Tryd.prog) b 0 43 (bvals z').toList 0 (rcells z n r v) w h.hp (by rw [rcells_size h.1]; simp [bvals, hz]) (fun u hu => by
    simp only [bvals, List.mem_map] at hu
    obtain ⟨x, _, rfl⟩ := hu
    rfl)
  have h2 : ((rcells z n r v).toList.take (0 + 0) ++ (bvals z').toList ++ (rcells z n r v).toList.drop (0 + 0 + (bvals z').toList.length)).toArray = rcells z' n r v := by
    have hl : (bvals z').toList.length = (z.map (Value.int .u8)).length := by simp [bvals, hz, h.1]
    rw [Nat.zero_add, List.take_zero, List.nil_append, Nat.zero_add, hl]
    unfold rcells bvals
    simp only [List.drop_left]
  rw [h2] at h1
  have hs := sizeID
  have hc : (bvals z').size = 16 := by simp [bvals, hz]
  cases hq : Tryd.prog.info? 40 with
  | none => simp [hq] at hs
  | some i =>
    have hs : i.size = 16 := by simpa [hq] using hs
    simp [storeVar, Sem.run_bind, sizeOf, typeInfo, hq, hs, Value.cells, hc]
    simpa using h1
theorem wpList_store_id {w : World} {ops : Array Oper} {rest : List Oper} {o : Oper} {a : Act} {Q : Exit → Act → World → Prop} (hgd : o.guard = none) (x y : Operand) (hop : o.op = .store 40 x y)
    (b : Nat) (hx : a.eval x = .pointer (some ⟨b, 0, none⟩)) (z' : List Int) (hy : a.eval y = .agg (bvals z')) (z : List Int) (n r : Int) (v : Value) (h : RcAt w b z n r v) (hz : z'.length = 16)
    (hK : ∀ w', w.grownBy w' (some b) → RcAt w' b z' n r v → wpList Tryd.prog ops Q rest (a.put o.dst undef) w') : wpList Tryd.prog ops Q (o :: rest) a w := by
  refine wpList_plain hgd fun K hK' => ?_
  unfold Oper.wp execOp
  simp only [hop, hx, hy, Instr.storeAt, Instr.sureAddr, Sem.run_bind, Sem.run_pure, Result.andThen_ok, run_store_id h hz]
  exact hK' _ _ (hK _ (grownBy_setRow w b _) (h.putAll hz))
/-- A record under another name. -/
def Rc.named (R : Rc) (z : List Int) : Rc := ⟨z, R.n, R.r, R.fs⟩
theorem named_ok {R : Rc} {z : List Int} (h1 : z.length = 16) (h2 : AllBytes z) : (R.named z).Ok := ⟨h1, h2⟩
end Go.Proofs.YtonbhcbkelmhgaaDoor
