import Derived.Test.YtcmknbdeafcknaaDoorGRcA
import Derived.Test.YtcmknbdeafcknaaDoorGRcSame
import Derived.Test.YtcmknbdeafcknaaDoorGUni
/-
  Records, whole: the zero one, one that is built of a name and a stamp, stores of one, a result that lies in a block; two of them joined.
-/
namespace Go.Proofs.YtcmknbdeafcknaaDoor
open Go.RowKit WM
set_option linter.unusedVariables false
def z16 : List Int := List.replicate 16 0
theorem z16_len : z16.length = 16 := rfl
theorem z16_bytes : AllBytes z16 := by unfold AllBytes z16; decide
theorem zeroRec (w : World) : (zeroValue 28).run Tryd.prog w = .ok (rv z16 0 0 (.slice none 0 0)) w := (zero_of_info (show (Tryd.prog.info? 28).map (fun i => (i.zero, i.size)) = some (some (rv z16 0 0 (.slice none 0 0)), 19) by kernel_rfl)).1 w
theorem list16 {z : List Int} (h : z.length = 16) : ∃ a b c d e f g i j k l m n o p q, z = [a, b, c, d, e, f, g, i, j, k, l, m, n, o, p, q] := by
  match z, h with
  | [a, b, c, d, e, f, g, i, j, k, l, m, n, o, p, q], _ => exact ⟨a, b, c, d, e, f, g, i, j, k, l, m, n, o, p, q, rfl⟩
theorem built_none : Tryd.prog.built 28 [] = some (rcells z16 0 0 (.slice none 0 0)) := by kernel_rfl
theorem built_rec {z : List Int} (h : z.length = 16) (n r : Int) : Tryd.prog.built 28 [(0, .agg (bvals z)), (1, .agg #[.int .i64 n, .int .i64 r])] = some (rcells z n r (.slice none 0 0)) := by
  obtain ⟨a, b, c, d, e, f, g, i, j, k, l, m, n', o, p, q, rfl⟩ := list16 h
  kernel_rfl
theorem build_none (w : World) : (Instr.build 28 #[]).run Tryd.prog w = .ok (rv z16 0 0 (.slice none 0 0)) w := run_build w _ _ _ built_none
theorem build_rec {z : List Int} (h : z.length = 16) (n r : Int) (w : World) : (Instr.build 28 #[(0, .agg (bvals z)), (1, .agg #[.int .i64 n, .int .i64 r])]).run Tryd.prog w = .ok (rv z n r (.slice none 0 0)) w := run_build w _ _ _ (built_rec h n r)
/-- A value that is one cell. -/
theorem rcells_one {z : List Int} {n r : Int} {v : Value} (hv : v.oneCell' = true) : (rcells z n r v).all (·.oneCell') = true := by
  rw [Array.all_eq_true_iff_forall_mem]
  intro u hu
  simp only [rcells, List.mem_toArray, List.mem_append, List.mem_map, List.mem_cons, List.not_mem_nil, or_false] at hu
  rcases hu with ⟨x, _, rfl⟩ | rfl | rfl | rfl
  · rfl
  · rfl
  · rfl
  · exact hv
theorem size_rcells {z : List Int} (hz : z.length = 16) (n r : Int) (v : Value) : (Tryd.prog.info? 28).map (·.size) = some (rcells z n r v).size := by rw [rcells_size hz]; exact sizeRec
theorem RcAt.putAll {w : World} {b : Nat} {z y : List Int} {n r m s : Int} {v u : Value} (h : RcAt w b z n r v) (hy : y.length = 16) : RcAt (w.setRow b (rcells y m s u)) b y m s u := ⟨hy, setRow_heap w b _ _ _ _ h.2⟩
theorem res_rc {fn : Func} {p : Tmp} (h : fn.results = #[.cell p 28]) {tmps : Array Value} {w : World} {b : Nat} {z : List Int} {n r : Int} {v : Value} (hp : tmps.getD p undef = .pointer (some ⟨b, 0, none⟩)) (hs : RcAt w b z n r v) :
    (results fn tmps).run Tryd.prog w = .ok (rv z n r v) w := by
  have hp' : tmps[p]?.getD undef = .pointer (some ⟨b, 0, none⟩) := by simpa using hp
  simp [results, h, hp', asAddr, load_rec hs]
theorem res_rc2 {fn : Func} {p q : Tmp} (h : fn.results = #[.cell p 28, .tmp q]) {tmps : Array Value} {w : World} {b : Nat} {z : List Int} {n r : Int} {v : Value} (hp : tmps.getD p undef = .pointer (some ⟨b, 0, none⟩)) (hs : RcAt w b z n r v) :
    (results fn tmps).run Tryd.prog w = .ok (.tuple #[rv z n r v, tmps.getD q undef]) w := by
  have hp' : tmps[p]?.getD undef = .pointer (some ⟨b, 0, none⟩) := by simpa using hp
  simp [results, h, hp', asAddr, load_rec hs]
theorem RcAt.hp {w : World} {b : Nat} {z : List Int} {n r : Int} {v : Value} (h : RcAt w b z n r v) : w.heap[b]? = some (.cells (rcells z n r v) 28) := h.2
/-- A load, by what it gives. -/
theorem exec_load_by {P : Program} {o : Oper} {ρ : Operand → Value} {w : World} (ty : TypeId) (x : Operand) (ho : o.op = .load ty x) (ad : Addr) (hx : ρ x = .pointer (some ad)) {v : Value} (hv : (loadVar ty ad).run P w = .ok v w) :
    (execOp ρ o).run P w = .ok (.value v) w := by
  unfold execOp
  simp only [ho, hx, Instr.loadAt, Instr.sureAddr, Sem.run_bind, Sem.run_pure, Result.andThen_ok, hv]
/-- A struct that is built, by what it is. -/
theorem exec_build_by {P : Program} {o : Oper} {ρ : Operand → Value} {w : World} (t : TypeId) (parts : Array (Nat × Operand)) (ho : o.op = .build t parts) (ps : Array (Nat × Value)) (hp : parts.map (fun x => (x.1, ρ x.2)) = ps) {v : Value}
    (hv : (Instr.build t ps).run P w = .ok v w) : (execOp ρ o).run P w = .ok (.value v) w := by
  unfold execOp
  simp only [ho]
  have e : parts.map (fun x => match x with | (i, x) => (i, ρ x)) = ps := hp
  rw [e]
  simp [hv]
/-- A store of a whole row, by the heap. -/
theorem exec_store_row {P : Program} {o : Oper} {ρ : Operand → Value} {w : World} (ty : TypeId) (x y : Operand) (ho : o.op = .store ty x y) (g : Nat) (cells : Array Value) (hx : ρ x = .pointer (some ⟨g, 0, none⟩)) (hy : ρ y = .agg cells)
    (t : TypeId) (old : Array Value) (hg : w.heap[g]? = some (.cells old t (0, 0))) (hi : (P.info? ty).map (·.size) = some cells.size) (hold : old.size = cells.size) (h1 : cells.all (·.oneCell') = true) :
    (execOp ρ o).run P w = .ok .skip (w.setRow g cells) := by
  unfold execOp
  simp only [ho, hx, hy, Instr.storeAt, Instr.sureAddr, Sem.run_bind, Sem.run_pure, Result.andThen_ok, run_storeVar_row w g t ty old cells hg hi hold h1]
/-! ### How two records are joined -/
structure Rc where
  z : List Int
  n : Int
  r : Int
  fs : List Fld
def rc0 : Rc := ⟨z16, 0, 0, []⟩
def Rc.v (R : Rc) (A : Option Addr) (c : Nat) : Value := rv R.z R.n R.r (.slice A R.fs.length c)
/-- It has a name. -/
def Rc.Ok (R : Rc) : Prop := R.z.length = 16 ∧ AllBytes R.z
def Rc.may (R : Rc) : Bool := rmay R.n R.r R.fs
theorem okFrom_len (n r : Int) : ∀ (fs : List Fld) (m : Int), okFrom n r m fs = true → 0 ≤ m → m ≤ 8 → (fs.length : Int) + m ≤ 8
  | [], m, _, _, h => by simpa using h
  | f :: fs, m, h, h0, h8 => by
    simp only [okFrom, Bool.and_eq_true, decide_eq_true_eq] at h
    have := okFrom_len n r fs (f.no + 1) h.2 (by omega) (by omega)
    simp only [List.length_cons]
    omega
theorem okFrom_all (n r : Int) : ∀ (fs : List Fld) (m : Int), okFrom n r m fs = true → 0 ≤ m → ∀ f ∈ fs, m ≤ f.no ∧ f.no < 8 ∧ cmay f.c = true ∧ stLess n r f.c.n f.c.r = true
  | [], _, _, _, f, hf => by cases hf
  | g :: fs, m, h, h0, f, hf => by
    simp only [okFrom, Bool.and_eq_true, decide_eq_true_eq] at h
    rcases List.mem_cons.1 hf with rfl | hf
    · exact ⟨h.1.1.1.1, h.1.1.1.2, h.1.1.2, h.1.2⟩
    · obtain ⟨h1, h2⟩ := okFrom_all n r fs (g.no + 1) h.2 (by omega) f hf
      exact ⟨by omega, h2⟩
theorem rmay_okFrom {n r : Int} {fs : List Fld} (h : rmay n r fs = true) : okFrom n r 0 fs = true := by
  simp only [rmay, Bool.and_eq_true] at h
  exact h.2
theorem rmay_len {n r : Int} {fs : List Fld} (h : rmay n r fs = true) : fs.length ≤ 8 := by
  have := okFrom_len n r fs 0 (rmay_okFrom h) (by omega) (by omega)
  omega
theorem rmay_all {n r : Int} {fs : List Fld} (h : rmay n r fs = true) : ∀ f ∈ fs, 0 ≤ f.no ∧ f.no < 8 ∧ cmay f.c = true ∧ stLess n r f.c.n f.c.r = true := okFrom_all n r fs 0 (rmay_okFrom h) (by omega)
end Go.Proofs.YtcmknbdeafcknaaDoor

