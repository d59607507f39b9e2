/-
  A record is what its fields, each one alone, join to.
-/
import Derived.Test.YtonbhcbkelmhgaaDoorRcDead
import Derived.Test.YtonbhcbkelmhgaaDoorRcLoop
import Derived.Test.YtonbhcbkelmhgaaDoorRcId
namespace Go.Proofs.YtonbhcbkelmhgaaDoor
open Go.RowKit WM
set_option linter.unusedVariables false
set_option maxRecDepth 100000
theorem okFrom_take {n r : Int} : ∀ (fs : List Fld) (m : Int) (k : Nat), okFrom n r m fs = true → okFrom n r m (fs.take k) = true
  | [], m, k, h => by simpa using h
  | f :: fs, m, 0, h => rfl
  | f :: fs, m, k + 1, h => by
    simp only [okFrom, Bool.and_eq_true, decide_eq_true_eq] at h
    simp only [List.take_succ_cons, okFrom, Bool.and_eq_true, decide_eq_true_eq]
    exact ⟨h.1, okFrom_take fs _ k h.2⟩
theorem okFrom_lt {n r : Int} : ∀ (fs : List Fld) (m : Int) (k : Nat), okFrom n r m fs = true → 0 ≤ m → ∀ hk : k < fs.length, ∀ f ∈ fs.take k, f.no < (fs[k]).no
  | [], m, k, h, h0 => fun hk => by simp at hk
  | g :: fs, m, 0, h, h0 => fun hk f hf => by simp at hf
  | g :: fs, m, k + 1, h, h0 => fun hk f hf => by
    simp only [okFrom, Bool.and_eq_true, decide_eq_true_eq] at h
    rw [List.take_succ_cons] at hf
    rw [List.getElem_cons_succ]
    have hk' : k < fs.length := by simpa using hk
    rcases List.mem_cons.1 hf with rfl | hf
    · have := (okFrom_all n r fs (f.no + 1) h.2 (by omega) _ (List.getElem_mem hk')).1
      omega
    · exact okFrom_lt fs (g.no + 1) k h.2 (by omega) hk' f hf
/-- The first fields. -/
def preR (a : Rc) (k : Nat) : Rc := ⟨a.z, a.n, a.r, a.fs.take k⟩
/-- One field alone. -/
def fldR (a : Rc) (g : Fld) : Rc := ⟨a.z, a.n, a.r, [g]⟩
theorem rmay_sub {n r : Int} {fs gs : List Fld} (h : rmay n r fs = true) (h1 : okFrom n r 0 gs = true) (h2 : gs ≠ []) : rmay n r gs = true := by
  simp only [rmay, Bool.and_eq_true] at h ⊢
  refine ⟨⟨h.1.1, ?_⟩, h1⟩
  simp [h2]
theorem fldR_may {a : Rc} (h : a.may = true) {g : Fld} (hg : g ∈ a.fs) : (fldR a g).may = true := by
  obtain ⟨h1, h2, h3, h4⟩ := rmay_all h g hg
  refine rmay_sub (gs := [g]) h ?_ (by simp)
  simp only [okFrom, Bool.and_eq_true, decide_eq_true_eq]
  exact ⟨⟨⟨⟨h1, h2⟩, h3⟩, h4⟩, trivial⟩
theorem preR_may {a : Rc} (h : a.may = true) {k : Nat} (hk : 0 < k) (hl : k ≤ a.fs.length) : (preR a k).may = true := by
  refine rmay_sub h (okFrom_take _ _ _ (rmay_okFrom h)) ?_
  intro he
  have := congrArg List.length he
  simp only [preR, List.length_take, List.length_nil] at this
  omega
theorem jn_pre {a : Rc} (h : a.may = true) {k : Nat} (hk : 0 < k) (hl : k < a.fs.length) : jn (fldR a a.fs[k]) (preR a k) = preR a (k + 1) := by
  have m1 := fldR_may h (List.getElem_mem hl)
  have m2 := preR_may h hk (Nat.le_of_lt hl)
  have m3 := preR_may h (Nat.succ_pos k) hl
  refine rc_ext (jn_may m1 m2) m3 rfl ?_ fun j hj => ?_
  · rw [jn_d]; exact mx_self _
  rw [at_jn _ _ hj]
  show ofilt (mx a.d a.d) (omerge (rfind [a.fs[k]] (j : Int)) (rfind (a.fs.take k) (j : Int))) = rfind (a.fs.take (k + 1)) (j : Int)
  rw [mx_self, List.take_succ_eq_append_getElem hl, rfind_append]
  by_cases hj : a.fs[k].no = (j : Int)
  · have hn : rfind (a.fs.take k) (j : Int) = none := by
      cases hc : rfind (a.fs.take k) (j : Int) with
      | none => rfl
      | some c =>
        obtain ⟨f, hf, hf2, _⟩ := rfind_mem hc
        have := okFrom_lt a.fs 0 k (rmay_okFrom h) (by omega) hl f hf
        omega
    rw [hn, rfind_cons, if_pos hj, omerge_none]
    exact ofilt_some (rmay_all h _ (List.getElem_mem hl)).2.2.2
  · rw [rfind_cons, if_neg hj, rfind_nil, omerge_comm, omerge_none, Option.or_none]
    exact at_filt m2 j
/-! ### How it is walked -/
theorem sl_fld (b off len cap k : Nat) (h : k < cap) (K H : Int) (eK : K = k) (eH : H = k + 1) (w : World) : (Instr.slice 41 (.slice (some ⟨b, off, none⟩) len cap) (some (.int .i64 K)) (some (.int .i64 H)) none).run Tryd.prog w = .ok (.slice (some ⟨b, off + k * 4, none⟩) 1 (cap - k)) w := by
  subst eK eH
  rw [run_slice_lh w 41 _ len cap (by rw [elemFld]; exact Tryd.underlying41) .i64 .i64 k (k + 1) (by omega) (by omega) (by omega), elemFld, sizeFld]
  have h1 : ((k : Int) + 1).toNat = k + 1 := by omega
  have h2 : (k : Int).toNat = k := by omega
  have h3 : k + 1 - k = 1 := by omega
  simp [sliced, Result.andThen, Addr.add_lit, h1, h2, h3]
  omega
theorem built_all {z : List Int} (h : z.length = 16) (n r : Int) (A : Option Addr) (l c : Nat) : Tryd.prog.built 43 [(0, .agg (bvals z)), (1, .agg #[.int .i64 n, .int .i64 r]), (2, .slice A l c)] = some (rcells z n r (.slice A l c)) := by
  obtain ⟨a, b, c', d, e, f, g, i, j, k, l', m, n', o, p, q, rfl⟩ := list16 h
  kernel_rfl
theorem build_all {z : List Int} (h : z.length = 16) (n r : Int) (A : Option Addr) (l c : Nat) (w : World) : (Instr.build 43 #[(0, .agg (bvals z)), (1, .agg #[.int .i64 n, .int .i64 r]), (2, .slice A l c)]).run Tryd.prog w = .ok (rv z n r (.slice A l c)) w := run_build w _ _ _ (built_all h n r A l c)
/-- One field out of a row. -/
theorem fs_sub {w : World} {b off c k : Nat} {fs : List Fld} (h : FsAt w (some ⟨b, off, none⟩) c fs) (hk : k < fs.length) : FsAt w (some ⟨b, off + k * 4, none⟩) (c - k) [fs[k]] := by
  obtain ⟨h1, h2, h3, h4⟩ := h
  obtain ⟨b', off', he, hlt, hc⟩ := h4 (by omega)
  injection he with he
  injection he with he1 he2
  subst he1 he2
  refine ⟨by simp; omega, by omega, (fun e => by cases e), fun _ => ⟨b, off + k * 4, rfl, hlt, fun i hi => ?_⟩⟩
  obtain rfl : i = 0 := by simpa using hi
  have := hc k hk
  rw [List.getD_eq_getElem?_getD, List.getElem?_eq_getElem hk] at this
  exact this
/-- A record lies in no row of fields. -/
theorem FsAt.not_rc {w : World} {A : Option Addr} {c : Nat} {fs : List Fld} {b : Nat} {z : List Int} {n r : Int} {v : Value} (h : FsAt w A c fs) (hr : RcAt w b z n r v) (hv : ∀ s, v ≠ .string s) (h0 : 0 < fs.length) : ∀ p, A = some p → p.block ≠ b := by
  obtain ⟨_, _, _, h4⟩ := h
  obtain ⟨b', off, rfl, hlt, hc⟩ := h4 h0
  intro p hp
  injection hp with hp
  subst hp
  rintro rfl
  have c3 := (hc 0 h0).2.2.2
  rw [cell_of_row _ _ _ _ _ _ hr.2] at c3
  have hm := List.mem_of_getElem? (by rw [← Array.getElem?_toList] at c3; exact c3)
  unfold rcells at hm
  simp only [List.mem_append, List.mem_map, List.mem_cons, List.not_mem_nil, or_false] at hm
  rcases hm with ⟨x, _, hx⟩ | hx | hx | hx
  · cases hx
  · cases hx
  · cases hx
  · exact hv _ hx.symm
theorem FsAt.kept {w w' : World} {A : Option Addr} {c : Nat} {fs : List Fld} {b : Nat} (h : FsAt w A c fs) (hg : w.grownBy w' (some b)) (hne : 0 < fs.length → ∀ p, A = some p → p.block ≠ b) : FsAt w' A c fs := by
  obtain ⟨h1, h2, h3, h4⟩ := h
  refine ⟨h1, h2, h3, fun h0 => ?_⟩
  obtain ⟨b', off, rfl, hlt, hc⟩ := h4 h0
  have hn : some b' ≠ some b := fun e => hne h0 _ rfl (Option.some.inj e)
  refine ⟨b', off, rfl, Nat.lt_of_lt_of_le hlt hg.size, fun i hi => ?_⟩
  obtain ⟨c0, c1, c2, c3⟩ := hc i hi
  have hq : ∀ o, w'.cell? ⟨b', o, none⟩ = w.cell? ⟨b', o, none⟩ := fun o => by simp only [World.cell?, hg.block b' hlt hn]
  exact ⟨(hq _).trans c0, (hq _).trans c1, (hq _).trans c2, (hq _).trans c3⟩
end Go.Proofs.YtonbhcbkelmhgaaDoor
