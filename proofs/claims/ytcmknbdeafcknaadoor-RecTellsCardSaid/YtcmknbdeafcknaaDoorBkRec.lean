import Derived.Test.YtcmknbdeafcknaaDoorGBkBase
import Derived.Test.YtcmknbdeafcknaaDoorGBkMath
/-
  Records in memory, handed to package rec; one in a block of its own; a store of one.
-/
namespace Go.Proofs.YtcmknbdeafcknaaDoor
open Go.RowKit WM
set_option linter.unusedVariables false
set_option maxRecDepth 20000
theorem xmay_any (x : RcA) (w : World) (h : RvAt w x) : Calls Tryd.prog 13 #[.agg x.cells] w fun e w' => e = .returned (.bool x.R.may) ∧ Below w.heap.size w w' := may_any' x.R x.A x.c w h.1 h.2
theorem xsame_any (x y : RcA) (w : World) (h : RvAt w x) (k : RvAt w y) : Calls Tryd.prog 14 #[.agg x.cells, .agg y.cells] w fun e w' => e = .returned (.bool (x.R.same y.R)) ∧ Below w.heap.size w w' :=
  same_any' x.R y.R x.A y.A x.c y.c w h.1 k.1 h.2 k.2
theorem xfind_any (x : RcA) (no : Int) (w : World) (h : RvAt w x) : Calls Tryd.prog 6 #[.agg x.cells, .int .i64 no] w fun e w' => e = .returned (.tuple #[((rfind x.R.fs no).getD cel00).v, .bool (rfind x.R.fs no).isSome]) ∧ Below w.heap.size w w' :=
  find_any' x.R x.A x.c no w h.1 h.2
theorem xjoin_any (x y : RcA) (w : World) (hlaid : Laid w) (h : RvAt w x) (k : RvAt w y) : Calls Tryd.prog 8 #[.agg x.cells, .agg y.cells] w fun e w' =>
    ∃ j : RcA, e = .returned (.tuple #[.agg j.cells, .bool (x.R.join y.R).isSome]) ∧ j.R = (x.R.join y.R).getD rc0 ∧ RvAt w' j ∧ Below w.heap.size w w' :=
  (join_any x.R y.R x.A y.A x.c y.c w hlaid h.1 k.1 h.2 k.2).mono fun e w' hp => by
    obtain ⟨A, c, he, hf, hb⟩ := hp
    exact ⟨⟨(x.R.join y.R).getD rc0, A, c⟩, he, rfl, ⟨Rc.getD_ok h.1, hf⟩, hb⟩
theorem xleq_any (x y : RcA) (w : World) (hlaid : Laid w) (h : RvAt w x) (k : RvAt w y) : Calls Tryd.prog 15 #[.agg x.cells, .agg y.cells] w fun e w' => e = .returned (.bool (x.R.leq y.R)) ∧ Below w.heap.size w w' :=
  leq_any x.R y.R x.A y.A x.c y.c w hlaid h.1 k.1 h.2 k.2
theorem xfew_any (x : RcA) (w : World) (h : RvAt w x) : Calls Tryd.prog 5 #[.agg x.cells] w fun e w' => e = .returned (.bool (fewR x.R.fs)) ∧ Below w.heap.size w w' := fewR_any x.R x.A x.c w h.1 h.2
/-- Block b holds a record. -/
def XAt (w : World) (b : Nat) (x : RcA) : Prop := x.R.z.length = 16 ∧ w.heap[b]? = some (.cells x.cells 28)
section
variable {w w' : World} {b B : Nat} {x : RcA}
theorem XAt.rc (h : XAt w b x) : RcAt w b x.R.z x.R.n x.R.r x.s := h
theorem XAt.lt (h : XAt w b x) : b < w.heap.size := h.rc.lt
theorem XAt.below (h : XAt w b x) (hb : Below B w w') (hB : b < B) : XAt w' b x := h.rc.below hb hB
theorem XAt.same (h : XAt w b x) (hb : w'.heap[b]? = w.heap[b]?) : XAt w' b x := ⟨h.1, hb.trans h.2⟩
theorem XAt.old (h : XAt w b x) (o : Obj) : XAt (w.alloc o) b x := h.rc.old o
theorem XAt.new (w : World) (hz : x.R.z.length = 16) : XAt (w.alloc (.cells x.cells 28)) w.heap.size x := ⟨hz, heap_alloc_new w _⟩
theorem XAt.rec (h : XAt w b x) : RecAt w b 0 x := RecAt.of_row h.1 h.2
theorem XAt.load (h : XAt w b x) : (loadVar 28 ⟨b, 0, none⟩).run Tryd.prog w = .ok (.agg x.cells) w := h.rec.load
theorem XAt.load_id (h : XAt w b x) : (loadVar 23 ⟨b, 0, none⟩).run Tryd.prog w = .ok (.agg (bvals x.R.z)) w := h.rec.load_id
theorem XAt.c16 (h : XAt w b x) : w.cell? ⟨b, 16, none⟩ = some (.int .i64 x.R.n) := h.rc.c16
theorem XAt.c17 (h : XAt w b x) : w.cell? ⟨b, 17, none⟩ = some (.int .i64 x.R.r) := h.rc.c17
theorem XAt.c18 (h : XAt w b x) : w.cell? ⟨b, 18, none⟩ = some (.slice x.A x.R.fs.length x.c) := h.rc.c18
theorem XAt.fz (h : XAt w b x) (j : Nat) : w.frozen? ⟨b, j, none⟩ = false := h.rc.fz j
end
theorem zrec : rcA0.cells = rcells z16 0 0 (.slice none 0 0) := rfl
theorem zeroX (w : World) : (zeroValue 28).run Tryd.prog w = .ok (.agg rcA0.cells) w := zeroRec w
theorem build0 (w : World) : (Instr.build 28 #[]).run Tryd.prog w = .ok (.agg rcA0.cells) w := build_none w
theorem x_one (x : RcA) : x.cells.all (·.oneCell') = true := rcells_one rfl
theorem x_size {x : RcA} (h : x.R.z.length = 16) : (Tryd.prog.info? 28).map (·.size) = some x.cells.size := size_rcells h _ _ _
/-- A record is stored into a block that was just laid. -/
theorem wpList_store_newx {w : World} {ops : Array Oper} {rest : List Oper} {o : Oper} {a : Act} {Q : Exit → Act → World → Prop} (hgd : o.guard = none) (p q : Operand) (hop : o.op = .store 28 p q)
    (b : Nat) (hb : b = w.heap.size) (hx : a.eval p = .pointer (some ⟨b, 0, none⟩)) (x : RcA) (hy : a.eval q = .agg x.cells) (hz : x.R.z.length = 16)
    (hK : ∀ w', Below w.heap.size w w' → XAt w' b x → w'.heap.size = w.heap.size + 1 → wpList Tryd.prog ops Q rest (a.put o.dst undef) w') : wpList Tryd.prog ops Q (o :: rest) a (w.alloc (.cells rcA0.cells 28)) := by
  subst hb
  refine wpList_store_row hgd 28 p q hop w.heap.size x.cells hx hy 28 _ (RcAt.new w z16_len 0 0 (.slice none 0 0)).hp (x_size hz) ((rcells_size z16_len _ _ _).trans (cells_len hz).symm) (x_one x) ?_
  rw [zrec, putR]
  exact hK _ ((Below.refl w.heap.size w).alloc (Nat.le_refl _) _) (XAt.new w hz) (World.size_alloc _ _)
/-- A record is stored into a block that holds another one. -/
theorem wpList_store_oldx {w : World} {ops : Array Oper} {rest : List Oper} {o : Oper} {a : Act} {Q : Exit → Act → World → Prop} (hgd : o.guard = none) (p q : Operand) (hop : o.op = .store 28 p q)
    (b : Nat) (y : RcA) (hb : XAt w b y) (hx : a.eval p = .pointer (some ⟨b, 0, none⟩)) (x : RcA) (hy : a.eval q = .agg x.cells) (hz : x.R.z.length = 16)
    (hK : ∀ w', w.grownBy w' (some b) → XAt w' b x → wpList Tryd.prog ops Q rest (a.put o.dst undef) w') : wpList Tryd.prog ops Q (o :: rest) a w := by
  refine wpList_store_row hgd 28 p q hop b x.cells hx hy 28 _ hb.2 (x_size hz) (by rw [cells_len hb.1, cells_len hz]) (x_one x) ?_
  exact hK _ (grownBy_setRow w b _) (hb.rc.putAll hz)
/-- A book is stored into a block that holds another one. -/
theorem bk_one {v : Value} (hv : v.oneCell' = true) : (#[v] : Array Value).all (·.oneCell') = true := by
  rw [Array.all_eq_true_iff_forall_mem]
  intro u hu
  rw [Array.mem_singleton.1 hu]
  exact hv
/-! ### What a store of a record, or of a book, keeps -/
theorem FsAt.kept' {w w' : World} {A : Option Addr} {c : Nat} {fs : List Fld} {b : Nat} (h : FsAt w A c fs) (hg : w.grownBy w' (some b)) (hne : ∀ off, 0 < fs.length → A = some ⟨b, off, none⟩ → False) : FsAt w' A c fs := by
  obtain ⟨h1, h2, h3, h4⟩ := h
  refine ⟨h1, h2, h3, fun h0 => ?_⟩
  obtain ⟨b', off, rfl, hlt, hc⟩ := h4 h0
  have hn : some b' ≠ some b := fun e => hne off h0 (by rw [Option.some.inj e])
  refine ⟨b', off, rfl, Nat.lt_of_lt_of_le hlt hg.size, fun i hi => ?_⟩
  obtain ⟨c0, c1, c2, c3⟩ := hc i hi
  have hq : ∀ o, w'.cell? ⟨b', o, none⟩ = w.cell? ⟨b', o, none⟩ := fun o => by simp only [World.cell?, hg.block b' hlt hn]
  exact ⟨(hq _).trans c0, (hq _).trans c1, (hq _).trans c2, (hq _).trans c3⟩
theorem FsAt.str {w : World} {b off c : Nat} {fs : List Fld} (h : FsAt w (some ⟨b, off, none⟩) c fs) (h0 : 0 < fs.length) : ∃ s, w.cell? ⟨b, off + 3, none⟩ = some (.string s) := by
  obtain ⟨_, _, _, h4⟩ := h
  obtain ⟨b', off', he, _, hc⟩ := h4 h0
  injection he with he
  injection he with he1 he2
  subst he1 he2
  have := (hc 0 h0).2.2.2
  rw [Nat.zero_mul, Nat.add_zero] at this
  exact ⟨_, this⟩
theorem cs_nostr (x : RcA) : ∀ u ∈ x.cs, ∀ s, u ≠ .string s := by
  intro u hu s e
  subst e
  simp only [RcA.cs, RcA.cells, rcells, RcA.s, List.mem_append, List.mem_map, List.mem_cons, List.not_mem_nil, or_false] at hu
  rcases hu with ⟨x, _, hx⟩ | hx | hx | hx <;> cases hx
theorem RvAt.kept_x {w w' : World} {y x : RcA} {b : Nat} (h : RvAt w y) (hg : w.grownBy w' (some b)) (hx : XAt w b x) : RvAt w' y := ⟨h.1, h.2.kept' hg fun off h0 e => by
  have hF := h.2
  rw [e] at hF
  obtain ⟨s, hs⟩ := hF.str h0
  rw [cell_of_row _ _ _ _ _ _ hx.2] at hs
  exact cs_nostr x _ (by rw [RcA.cs]; exact List.mem_of_getElem? (by rw [Array.getElem?_toList]; exact hs)) s rfl⟩
theorem RvAt.kept_map {w w' : World} {y : RcA} {b : Nat} {es : Array MapEntry} {cl : Nat} (h : RvAt w y) (hg : w.grownBy w' (some b)) (hx : w.heap[b]? = some (.map es cl)) : RvAt w' y := ⟨h.1, h.2.kept' hg fun off h0 e => by
  have hF := h.2
  rw [e] at hF
  obtain ⟨s, hs⟩ := hF.str h0
  simp [World.cell?, hx] at hs⟩
end Go.Proofs.YtcmknbdeafcknaaDoor

