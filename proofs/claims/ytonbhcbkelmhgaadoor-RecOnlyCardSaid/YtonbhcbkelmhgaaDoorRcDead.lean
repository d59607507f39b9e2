/-
  A record that is dead since a stamp, and one of one field; what they join to; how they are built.
-/
import Derived.Test.YtonbhcbkelmhgaaDoorRcAwake
import Derived.Test.YtonbhcbkelmhgaaDoorRcArgs
import Derived.Test.YtonbhcbkelmhgaaDoorRcMath
namespace Go.Proofs.YtonbhcbkelmhgaaDoor
open Go.RowKit WM
set_option linter.unusedVariables false
set_option maxRecDepth 100000
/-- A struct that is built, by what it is. -/
theorem wpList_build_by {P : Program} {ops : Array Oper} {rest : List Oper} {o : Oper} {a : Act} {w : World} {Q : Exit → Act → World → Prop} (hw : Region.wanted o (yielded ops a.tmps) = true) (t : TypeId) (parts : Array (Nat × Operand)) (ho : o.op = .build t parts)
    (ps : Array (Nat × Value)) (hp : parts.map (fun x => (x.1, a.eval x.2)) = ps) (v : Value) (hv : (Instr.build t ps).run P w = .ok v w)
    (h : wpList P ops Q rest (a.put o.dst v) w) : wpList P ops Q (o :: rest) a w :=
  BigFrame.wpList_want hw fun _ hK => by
    unfold Oper.wp execOp
    simp only [ho]
    have e : parts.map (fun x => match x with | (i, x) => (i, a.eval x)) = ps := hp
    rw [e]
    simp only [Sem.run_bind, Sem.run_pure, Result.andThen_ok, hv]
    exact hK _ _ h
theorem built_one {z : List Int} (h : z.length = 16) (A : Option Addr) (l c : Nat) : Tryd.prog.built 43 [(0, .agg (bvals z)), (2, .slice A l c)] = some (rcells z 0 0 (.slice A l c)) := by
  obtain ⟨a, b, c', d, e, f, g, i, j, k, l', m, n', o, p, q, rfl⟩ := list16 h
  kernel_rfl
theorem build_one {z : List Int} (h : z.length = 16) (A : Option Addr) (l c : Nat) (w : World) : (Instr.build 43 #[(0, .agg (bvals z)), (2, .slice A l c)]).run Tryd.prog w = .ok (rv z 0 0 (.slice A l c)) w := run_build w _ _ _ (built_one h A l c)
theorem rfind_jn' {a b : Rc} (h1 : a.may = true) (h2 : b.may = true) (no : Int) : rfind (jn a b).fs no = ofilt (mx a.d b.d) (omerge (rfind a.fs no) (rfind b.fs no)) := by
  by_cases h : 0 ≤ no ∧ no < 8
  · have := at_jn a b (k := no.toNat) (by omega)
    unfold Rc.at at this
    rwa [Int.toNat_of_nonneg h.1] at this
  · have hj := jn_may h1 h2
    rcases (show no < 0 ∨ 8 ≤ no by omega) with h | h
    · rw [rfind_low (rmay_okFrom h1) h, rfind_low (rmay_okFrom h2) h, rfind_low (rmay_okFrom hj) h]; rfl
    · rw [rfind_high (rmay_okFrom h1) h, rfind_high (rmay_okFrom h2) h, rfind_high (rmay_okFrom hj) h]; rfl
/-- Dead since a stamp, of no field. -/
def deadR (z : List Int) (n r : Int) : Rc := ⟨z, n, r, []⟩
/-- Of one field. -/
def oneR (z : List Int) (f : Fld) : Rc := ⟨z, 0, 0, [f]⟩
theorem toF_none {φ : Nat → Option Cel} (h : ∀ k, φ k = none) : ∀ n k, toF φ k n = []
  | 0, _ => rfl
  | n + 1, k => by rw [toF, h k, toF_none h n (k + 1)]; rfl
theorem jn_dead {a : Rc} {n r : Int} (h : ∀ f ∈ a.fs, stLess n r f.c.n f.c.r = false) : (jn a (deadR a.z n r)).fs = [] := by
  refine toF_none (φ := fun k => ofilt (mx a.d (deadR a.z n r).d) (omerge (a.at k) ((deadR a.z n r).at k))) (fun k => ?_) 8 0
  show ofilt (mx a.d (n, r)) (omerge (a.at k) (rfind [] (k : Int))) = none
  rw [rfind_nil, omerge_none]
  cases hc : a.at k with
  | none => rfl
  | some c =>
    obtain ⟨f, hf, _, rfl⟩ := rfind_mem hc
    exact ofilt_no (sl_mono (sle_mx2 a.d (n, r)) (h f hf))
theorem mx_zero {x : Int × Int} (h : may x.1 x.2 = true) : mx x (0, 0) = x := by
  rcases may_iff.1 h with h | h
  · obtain ⟨h1, h2⟩ := h
    obtain ⟨u, v⟩ := x
    simp only at h1 h2
    subst h1 h2
    rcases mx_is ((0, 0) : Int × Int) (0, 0) with h | h <;> exact h.2
  · rcases mx_is x ((0, 0) : Int × Int) with h' | h'
    · have := stLess_iff.1 h'.1
      omega
    · exact h'.2
/-- A field that is written into a record of no field is there, where its stamp is a later one than the death. -/
theorem find_one {x : Rc} {f : Fld} (hx : x.may = true) (hf : (oneR x.z f).may = true) (he : x.fs = []) :
    rfind (jn x (oneR x.z f)).fs f.no = if stLess x.n x.r f.c.n f.c.r then some f.c else none := by
  rw [rfind_jn' hx hf, he, rfind_nil]
  show ofilt (mx x.d (0, 0)) (omerge none (rfind [f] f.no)) = _
  rw [mx_zero (may_dead hx), rfind_cons, if_pos rfl, omerge_comm, omerge_none]
  cases h : stLess x.n x.r f.c.n f.c.r
  · exact ofilt_no h
  · exact ofilt_some h
end Go.Proofs.YtonbhcbkelmhgaaDoor
