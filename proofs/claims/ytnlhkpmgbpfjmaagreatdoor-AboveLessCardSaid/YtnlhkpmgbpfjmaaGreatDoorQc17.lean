import Derived.Test.YtnlhkpmgbpfjmaaGreatDoorQc0
import Derived.Test.YtnlhkpmgbpfjmaaGreatDoorQc15
import Derived.Test.YtnlhkpmgbpfjmaaGreatDoorQc2
import Derived.Test.YtnlhkpmgbpfjmaaGreatDoorQc13
import Derived.Test.YtnlhkpmgbpfjmaaGreatDoorQc9
import Derived.Test.YtnlhkpmgbpfjmaaGreatDoorQc4
import Derived.Test.YtnlhkpmgbpfjmaaGreatDoorQc5
import Derived.Test.YtnlhkpmgbpfjmaaGreatDoorQc6
import Derived.Deep.RegionHeld3
import Derived.Test.YtnlhkpmgbpfjmaaGreatDoorQc16
import Derived.Test.YtnlhkpmgbpfjmaaGreatDoorQc7
/-
  What the functions that a law of this layer reaches answer, part 17. Nothing that was there is written.
-/
namespace Go.Proofs.YtnlhkpmgbpfjmaaGreatDoor
set_option linter.unusedVariables false
set_option linter.unusedSimpArgs false
section
open Go.RowKit WM
set_option maxRecDepth 100000
theorem MnA.Ok.below {w w' : World} {B : Nat} {m : MnA} (h : MnA.Ok w m) (hb : Below B w w') (hB : w.heap.size ≤ B) : MnA.Ok w' m := MnA.below h (hb.mono hB)
theorem LnA.Ok.below {w w' : World} {B : Nat} {m : LnA} (h : LnA.Ok w m) (hb : Below B w w') (hB : w.heap.size ≤ B) : LnA.Ok w' m := LnA.below h (hb.mono hB)
theorem EnA.Ok.below {w w' : World} {B : Nat} {m : EnA} (h : EnA.Ok w m) (hb : Below B w w') (hB : w.heap.size ≤ B) : EnA.Ok w' m := EnA.below h (hb.mono hB)
def RowAt (T : TypeId) (w : World) (b : Nat) (E : Array Value) : Prop := w.heap[b]? = some (.cells E T)
section
variable {T : TypeId} {w w' : World} {b B : Nat} {E : Array Value}
theorem RowAt.lt (h : RowAt T w b E) : b < w.heap.size := (Array.getElem?_eq_some_iff.1 h).1
theorem RowAt.below (h : RowAt T w b E) (hb : Below B w w') (hB : b < B) : RowAt T w' b E := (hb.block b hB).trans h
theorem RowAt.new (w : World) (E : Array Value) (T : TypeId) : RowAt T (w.alloc (.cells E T)) w.heap.size E := heap_alloc_new w _
theorem RowAt.old (h : RowAt T w b E) (o : Obj) : RowAt T (w.alloc o) b E := h.below ((Below.refl w.heap.size w).alloc (Nat.le_refl _) o) h.lt
theorem RowAt.mn {m : MnA} (h : RowAt 29 w b m.cs.toArray) (hl : m.cs.length = 33) : (loadVar 29 ⟨b, 0, none⟩).run Tryz.prog w = .ok (.agg m.cs.toArray) w :=
 Kind.at_load (K := KMn) (x := m) (Kind.at_blk (K := KMn) (t := 29) h) hl Tryz.underlying29 rfl (by obtain ⟨i, hi, _, hs, _⟩ := info_parts infoMn; rw [hi]; exact congrArg some hs)
theorem RowAt.id {z : List Int} (h : RowAt 31 w b (bvals z)) (hl : z.length = 16) : (loadVar 31 ⟨b, 0, none⟩).run Tryz.prog w = .ok (.agg (bvals z)) w := load_idM (Kind.at_blk (K := KId) (x := z) h) hl
end
end
section
open Go.RowKit WM
def mofE (D : List Int → List Int) (f : Fld) : En := ⟨f.no, f.c.n, f.c.r, f.c.s.size, D (nums f.c.s), sgOf (nums f.c.s)⟩
def mofL (D : List Int → List Int) (R : Rc) : Ln := ⟨R.z, R.n, R.r, R.fs.map (mofE D)⟩
def mof (D : List Int → List Int) (base : List Int) (rs : List Rc) : Mn := ⟨base, rs.map (mofL D)⟩
theorem enOk_mof (D : List Int → List Int) (n r m : Int) (f : Fld) (h : (decide (m ≤ f.no) && decide (f.no < 8) && cmay f.c && stLess n r f.c.n f.c.r) = true) : enOk n r (m - 1) (mofE D f) = true := by
 simp only [Bool.and_eq_true, decide_eq_true_eq, cmay_iff] at h
 obtain ⟨⟨⟨h1, h2⟩, h3, h4, h5⟩, h6⟩ := h
 have hl := nums_len f.c.s
 have hb : (if (f.c.s.size : Int) < 24 then decide ((sgOf (nums f.c.s)).length = 0) else decide (((sgOf (nums f.c.s)).length : Int) = (f.c.s.size : Int) / 8)) = true := by
  by_cases h9 : (f.c.s.size : Int) < 24
  ·rw [if_pos h9, sgOf_none (by omega)]
   rfl
  ·rw [if_neg h9, sgOf_len (by omega), decide_eq_true_eq]
   omega
 unfold enOk mofE
 dsimp only
 rw [hb, h3, h6, decide_eq_true (show m - 1 < f.no ∧ f.no < 8 ∧ (0 : Int) ≤ (f.c.s.size : Int) ∧ (f.c.s.size : Int) ≤ 200 by omega)]
 rfl
theorem esOk_mof (D : List Int → List Int) (n r : Int) : ∀ (fs : List Fld) (m : Int), okFrom n r m fs = true → esOk n r (m - 1) (fs.map (mofE D)) = true
 | [], _, _ => rfl
 | f :: fs, m, h => by
  rw [okFrom, Bool.and_eq_true] at h
  rw [List.map_cons, esOk, enOk_mof D n r m f h.1, Bool.true_and]
  have := esOk_mof D n r fs (f.no + 1) h.2
  rwa [show f.no + 1 - 1 = f.no by omega] at this
theorem lnOk_mof (D : List Int → List Int) (R : Rc) (h : R.may = true) : lnOk (mofL D R) = true := by
 unfold Rc.may rmay at h
 rw [Bool.and_eq_true, Bool.and_eq_true] at h
 obtain ⟨⟨h1, h2⟩, h3⟩ := h
 have h4 := esOk_mof D R.n R.r R.fs 0 h3
 unfold lnOk mofL
 dsimp only
 rw [h1, show (-1 : Int) = 0 - 1 by omega, h4, decide_eq_false (show ¬ (R.fs.map (mofE D) = [] ∧ R.n = 0 ∧ R.r = 0) from ?_)]
 ·rfl
 ·rintro ⟨a, b, c⟩
  have hl : R.fs.length = 0 := by
   have := congrArg List.length a
   simpa using this
  rw [decide_eq_true hl, decide_eq_true b, decide_eq_true c] at h2
  simp at h2
theorem lsOk_mof (D : List Int → List Int) : ∀ (rs : List Rc) (p : Option (List Int)), okB p rs = true → lsOk p (rs.map (mofL D)) = true
 | [], _, _ => rfl
 | R :: rs, p, h => by
  rw [okB, Bool.and_eq_true, Bool.and_eq_true] at h
  obtain ⟨⟨h1, h2⟩, h3⟩ := h
  rw [List.map_cons, lsOk, lnOk_mof D R h1]
  have h4 := lsOk_mof D rs (some R.z) h3
  rw [show (mofL D R).z = R.z from rfl, h4]
  cases p with
  | none => rfl
  | some q => rw [show riseOk (some q) R.z = lessL q R.z from rfl, show lessL q R.z = true from h2]; rfl
theorem mof_may (D : List Int → List Int) (base : List Int) (rs : List Rc) (h : bmay rs = true) : mmay (mof D base rs) = true := by
 unfold bmay at h
 rw [Bool.and_eq_true] at h
 unfold mmay mof
 dsimp only
 rw [lsOk_mof D rs none h.2, List.length_map]
 exact h.1
theorem lfind_mof (D : List Int → List Int) (rs : List Rc) (z : List Int) : lfind (rs.map (mofL D)) z = (bat rs z).map (mofL D) := by
 induction rs with
 | nil => rfl
 | cons R rs ih =>
  rw [List.map_cons, bat_cons]
  by_cases hz : R.z = z
  ·rw [if_pos hz]
   unfold lfind
   rw [List.find?_cons_of_pos (by show decide (R.z = z) = true; exact decide_eq_true hz)]
   rfl
  ·rw [if_neg hz, ← ih]
   unfold lfind
   rw [List.find?_cons_of_neg (by show ¬ decide (R.z = z) = true; rw [decide_eq_true_eq]; exact hz)]
theorem efind_mof (D : List Int → List Int) (fs : List Fld) (no : Int) : efind (fs.map (mofE D)) no = (fs.find? fun f => decide (f.no = no)).map (mofE D) := by
 unfold efind
 induction fs with
 | nil => rfl
 | cons f fs ih =>
  rw [List.map_cons]
  by_cases hz : f.no = no
  ·rw [List.find?_cons_of_pos (by show decide (f.no = no) = true; exact decide_eq_true hz), List.find?_cons_of_pos (by simpa using hz)]; rfl
  ·rw [List.find?_cons_of_neg (by show ¬ decide (f.no = no) = true; rw [decide_eq_true_eq]; exact hz), List.find?_cons_of_neg (by simpa using hz)]; exact ih
theorem mfind_mof (D : List Int → List Int) (base : List Int) (rs : List Rc) (z : List Int) (no : Int) : mfind (mof D base rs) z no = (bat rs z).bind fun R => (R.fs.find? fun f => decide (f.no = no)).map (mofE D) := by
 unfold mfind mof
 dsimp only
 rw [lfind_mof]
 cases bat rs z with
 | none => rfl
 | some R => exact efind_mof D R.fs no
end
section
open Go.RowKit WM
def ldead (m : Mn) (z : List Int) : Int × Int := match lfind m.ls z with
 | some x => (x.n, x.r)
 | none => (0, 0)
noncomputable def exc (c : Cel) (m : Mn) (z : List Int) (no : Int) : Bool :=
 stLess (ldead m z).1 (ldead m z).2 c.n c.r && (match mfind m z no with
  | none => true
  | some e => if e.n = c.n ∧ e.r = c.r then lessL e.ds (SH.sum (nums c.s)) else stLess e.n e.r c.n c.r)
def pless (R : Rc) (m : Mn) : Bool := stLess (ldead m R.z).1 (ldead m R.z).2 R.n R.r
noncomputable def pfs (R : Rc) (m : Mn) : List Fld := R.fs.filter fun f => exc f.c m R.z f.no
noncomputable def ppart (m : Mn) (R : Rc) : Rc := ⟨R.z, (if pless R m then R.n else 0), (if pless R m then R.r else 0), pfs R m⟩
noncomputable def apart (m : Mn) (R : Rc) : Option Rc := if pless R m = true ∨ pfs R m ≠ [] then some (ppart m R) else none
noncomputable def aparts (X : List Rc) (m : Mn) : List Rc := if bmay X && mmay m then X.filterMap (apart m) else []
end
section
open Go.RowKit WM
set_option maxRecDepth 100000
theorem exc_A (c : Cel) (m : MnA) (z : List Int) (no : Int) : exc c m.m z no = (stLess ((lineA m.ls z).getD lnA0).n ((lineA m.ls z).getD lnA0).r c.n c.r && (if (findA m.ls z no).isSome then (if ((findA m.ls z no).getD enA0).e.n = c.n ∧ ((findA m.ls z no).getD enA0).e.r = c.r then lessL ((findA m.ls z no).getD enA0).e.ds (SH.sum (nums c.s)) else stLess ((findA m.ls z no).getD enA0).e.n ((findA m.ls z no).getD enA0).e.r c.n c.r) else true)) := by
 unfold exc ldead
 have h1 := lineA_x m.ls z
 have h2 := findA_e m z no
 rw [show m.m.ls = m.ls.map (·.x) from rfl, ← h1, ← h2]
 cases lineA m.ls z <;> cases findA m.ls z no <;> rfl
end
section
open Go.RowKit WM
set_option maxRecDepth 100000
structure PS (w : World) (x : RcA) (m : MnA) (p : Nat) (z : List Int) (n r : Int) (v : Value) (fs : List Fld) (W : World) : Prop where
 b : Below w.heap.size w W
 x1 : XAt W w.heap.size x
 m1 : MnAt W (w.heap.size + 1) m
 r0 : XAt W (w.heap.size + 1 + 1) rcA0
 j : RJ TFl 59 36 p (p + 1) (lnP z n r) v fs W
 lt : w.heap.size + 1 + 1 < p
section
variable {w W W' : World} {x : RcA} {m : MnA} {p : Nat} {z : List Int} {n r : Int} {v v' : Value} {fs : List Fld} {f : Fld}
theorem PS.below (h : PS w x m p z n r v fs W) (hb : Below W.heap.size W W') : PS w x m p z n r v fs W' :=
 ⟨h.b.trans (hb.mono h.b.size), h.x1.below hb h.x1.lt, MnAt.below h.m1 hb (MnAt.lt h.m1), h.r0.below hb h.r0.lt, h.j.below hb, h.lt⟩
structure PM (w : World) (x : RcA) (m : MnA) (p : Nat) (z : List Int) (n r : Int) (v v' : Value) (fs : List Fld) (W : World) : Prop where
 b : Below w.heap.size w W
 x1 : XAt W w.heap.size x
 m1 : MnAt W (w.heap.size + 1) m
 r0 : XAt W (w.heap.size + 1 + 1) rcA0
 j : RM TFl 59 36 p (p + 1) (lnP z n r) v v' fs W
 lt : w.heap.size + 1 + 1 < p
theorem PS.grown (h : PS w x m p z n r v fs W) (hO : W'.ownsRow (p + 1) 59 KFl.n v' (fs.length + 1) ((fs ++ [f]).flatMap KFl.cs)) (hG : W.grownBy W' v.ownBlock) : PM w x m p z n r v v' (fs ++ [f]) W' := by
 have hp := h.lt
 have ne : ∀ q, q ≤ p → some q ≠ v.ownBlock := fun q hq e => by have := own_base h.j.own e.symm; omega
 exact ⟨h.b.grown hG h.b.size (fun g hg => by have := own_base h.j.own hg; omega), h.x1.same (hG.block _ h.x1.lt (ne _ (by omega))), (hG.block _ (MnAt.lt h.m1) (ne _ (by omega))).trans h.m1, h.r0.same (hG.block _ h.r0.lt (ne _ (by omega))),
  h.j.grown ⟨trivial, trivial⟩ hO hG (by simp [TFl]), h.lt⟩
theorem PM.store (h : PM w x m p z n r v v' fs W) (hz : z.length = 16) : PS w x m p z n r v' fs (W.setCell ⟨p, 18, none⟩ v') := by
 have hp := h.lt
 have ne : ∀ q, q < p → (W.setCell ⟨p, 18, none⟩ v').heap[q]? = W.heap[q]? := fun q hq => Below.heap_setCell _ _ _ _ (by show q ≠ p; omega)
 exact ⟨h.b.setCell (by show w.heap.size ≤ p; omega) _, h.x1.same (ne _ (by omega)), (ne _ (by omega)).trans h.m1, h.r0.same (ne _ (by omega)), h.j.store (by simp [TFl]) (lnP_len hz n r), h.lt⟩
end
theorem build_z1 {z : List Int} (h : z.length = 16) (w : World) : (Instr.build 36 #[(0, .agg (bvals z))]).run Tryz.prog w = .ok (.agg (RcA.cells ⟨⟨z, 0, 0, []⟩, none, 0⟩)) w := by
 refine run_build w _ _ _ ?_
 obtain ⟨a, b, c, d, e, f, g, i, j, k, l, m, n', o, p, q, rfl⟩ := list16 h
 kernel_rfl
theorem load_flP {w : World} {b o : Nat} {f : Fld} (h : KFl.at w b o f) : (loadVar 59 ⟨b, o, none⟩).run Tryz.prog w = .ok (.agg (KFl.cs f).toArray) w :=
 Kind.at_load h rfl Tryz.underlying59 rfl (by obtain ⟨i, hi, _, hs, _⟩ := info_parts infoFldK; rw [hi]; exact congrArg some hs)
def KCl : Kind Cel := { n := 3, pos := by decide, cs := fun c => [.int .i64 c.n, .int .i64 c.r, .string c.s], d := cel00, ok := fun _ _ => True, len := fun _ => rfl, one := fun c u hu => by (simp only [List.mem_cons, List.not_mem_nil, or_false] at hu); rcases hu with rfl | rfl | rfl <;> rfl, below := fun h _ => h }
theorem fl_cell {w : World} {b o : Nat} {f : Fld} (h : KFl.at w b o f) : KCl.at w b (o + 1) f.c := fun j hj => by
 have h1 := h (1 + j) (by have : j < 3 := hj; show 1 + j < 4; omega)
 rw [← Nat.add_assoc] at h1
 refine h1.trans ?_
 match j, hj with
 | 0, _ => rfl
 | 1, _ => rfl
 | 2, _ => rfl
theorem load_fcell {w : World} {b o : Nat} {f : Fld} (h : KFl.at w b o f) : (loadVar 38 ⟨b, o + 1, none⟩).run Tryz.prog w = .ok (.agg #[.int .i64 f.c.n, .int .i64 f.c.r, .string f.c.s]) w :=
 Kind.at_load (fl_cell h) rfl Tryz.underlying38 rfl (by kernel_rfl)
theorem fl_no {w : World} {b o : Nat} {f : Fld} (h : KFl.at w b o f) : w.cell? ⟨b, o, none⟩ = some (.int .i64 f.no) := h 0 (by decide)
theorem ldead_A (m : MnA) (z : List Int) : ldead m.m z = (((lineA m.ls z).getD lnA0).x.n, ((lineA m.ls z).getD lnA0).x.r) := by
 unfold ldead
 have h1 := lineA_x m.ls z
 rw [show m.m.ls = m.ls.map (·.x) from rfl, ← h1]
 cases lineA m.ls z <;> rfl
theorem filt_take {p : Fld → Bool} {fs : List Fld} {k : Nat} (h : k < fs.length) : (fs.take (k + 1)).filter p = (fs.take k).filter p ++ (if p (fs.getD k fld0) = true then [fs.getD k fld0] else []) := by
 rw [List.take_succ_eq_append_getElem h, List.filter_append, List.getD_eq_getElem?_getD, List.getElem?_eq_getElem h]
 simp only [Option.getD_some, List.filter_cons, List.filter_nil]
def PartPost (w : World) (V : Rc) (e : Ending) (w' : World) : Prop := ∃ y : RcA, e = .returned (.agg y.cells) ∧ y.R = V ∧ RvAt w' y ∧ FTag w' y.A ∧ Below w.heap.size w w'
def PPok (x : Rc) (m : Mn) (n r : Int) : Prop := (pless x m = true ∧ n = x.n ∧ r = x.r) ∨ (pless x m = false ∧ n = 0 ∧ r = 0)
theorem ppart_eq {x : Rc} {m : Mn} {n r : Int} {fs : List Fld} (h : PPok x m n r) (hf : fs = pfs x m) : (⟨x.z, n, r, fs⟩ : Rc) = ppart m x := by
 unfold ppart
 rcases h with ⟨h1, rfl, rfl⟩ | ⟨h1, rfl, rfl⟩ <;> rw [h1, hf] <;> rfl
end
section
open Go.RowKit WM
set_option maxRecDepth 100000
theorem XAt.kept_map {w w' : World} {b bm n : Nat} {x : RcA} {es : List RcA} (h : XAt w b x) (hg : w.grownBy w' (some bm)) (hm : MRs w bm n es) : XAt w' b x := h.same (hg.block b h.lt (fun e => by
 obtain ⟨E, cl, ho⟩ := hm.obj
 rw [← Option.some.inj e, h.2] at ho
 cases ho))
theorem gather_snoc {xs : List RcA} {k : Nat} (hk : k < xs.length) : ((xs.take (k + 1)).map (·.R)).foldl mput [] = mput (((xs.take k).map (·.R)).foldl mput []) (xs.getD k rcA0).R := by
 rw [List.take_succ_eq_append_getElem hk, List.map_append, List.foldl_append]
 simp only [List.map_cons, List.map_nil, List.foldl_cons, List.foldl_nil, List.getD, List.getElem?_eq_getElem hk, Option.getD_some]
def BGatherPost (w : World) (rs : List Rc) (e : Ending) (w' : World) : Prop := ∃ b n es, e = .returned (.map (some b)) ∧ w.heap.size ≤ b ∧ MRs w' b n es ∧ es.map (·.R) = rs.foldl mput [] ∧ Below w.heap.size w w'
set_option maxHeartbeats 8000000 in
theorem bgather_any (A : Option Addr) (len c : Nat) (xs : List RcA) (w : World) (hlaid : Laid w) (hl : xs.length = len) (hlen : len ≤ 900) (h : RsAt w A c xs) (hm : ∀ x ∈ xs, x.R.may = true) :
  Calls Tryz.prog 52 #[.slice A len c] w (BGatherPost w (xs.map (·.R))) := by
 have HRV := Lib.hid (fun i (hi : i < len) => RsAt.rv h (show i < xs.length by omega))
 have HMY := Lib.hid (fun i (hi : i < len) => show (xs.getD i rcA0).R.may = true by rw [List.getD_eq_getElem?_getD, List.getElem?_eq_getElem (show i < xs.length by omega)]; exact hm _ (List.getElem_mem _))
 obtain ⟨hc1, hc2, hc3, hcell, _⟩ := h
 simp only [maxLen] at hc2
 have HC := Lib.hid hcell
 have HLN := Lib.hid hl
 have HLA := Lib.hid (fun (X : World) (hX : Below w.heap.size w X) => hlaid.below hX (Nat.le_refl _))
 have H0 := Lib.hid (And.intro (MRs.made w) ((Below.refl w.heap.size w).alloc (Nat.le_refl _) (.map #[] 0)))
 have hmm := @run_makeMap Tryz.prog
 have hlc : len ≤ c := by omega
 have hz := zeroX
 clear hcell hc1 hl hlaid hm
 go_enter Tryz.func52, Tryz.ntmps52
 go_wp2
 go_loopw [11] (fun i wr => ∃ k : Nat, k ≤ len ∧ i = .int .i64 k ∧ ∃ es, MRs wr w.heap.size k es ∧ es.map (·.R) = ((xs.take k).map (·.R)).foldl mput [] ∧ (∀ x ∈ es, x.R.may = true) ∧ Below w.heap.size w wr) (fun i _ => len - (intOf i).toNat)
 case atStart => exact ⟨0, Nat.zero_le _, rfl, [], H0.out.1, rfl, (fun x hx => absurd hx (by simp)), H0.out.2⟩
 case round =>
  obtain ⟨k, hk, rfl, es, hM, heq, hmay, hb⟩ := hrel
  by_cases hlt : k < len
  ·obtain ⟨b0, off, rfl, hbB, hcc⟩ := HC.out (by rw [HLN.out]; omega)
   have hx := (hcc k (by rw [HLN.out]; exact hlt)).same (hb.block b0 hbB)
   have IX := ix_rec b0 off len c k hlt k rfl
   have hvx := (HRV.out k hlt).below hb (Nat.le_refl _)
   have hmx := HMY.out k hlt
   have hgs := gather_snoc (xs := xs) (k := k) (by rw [HLN.out]; exact hlt)
   generalize xs.getD k rcA0 = x at *
   generalize off + k * 19 = ox at *
   have LX := Lib.hid hx.load
   have HVX := Lib.hid hvx
   have HMX0 := Lib.hid hmx
   have ZX := Lib.hid hvx.len
   have HGS := Lib.hid hgs
   have HEQ := Lib.hid heq
   have HMAY := Lib.hid hmay
   have HMM := Lib.hid hM
   have HBB := Lib.hid hb
   have HXL := Lib.hid (rmay_len hmx)
   clear hcc hx hvx hmx hgs heq hmay hM hb
   cases hxat : xat es x.R.z with
   | none =>
    have HXA := Lib.hid hxat
    have ZO := Lib.hid (show rcA0.R.z.length = 16 from z16_len)
    clear hxat
    go_wp2_with (first | ((with_reducible refine wpList_load_by (o := ⟨some 14, .load 36 (.tmp 13), _, _, _, _⟩) ?e1 36 (.tmp 13) ?e2 ⟨b0, ox, none⟩ ?e3 _ LX.out ?_); (case e1 => rfl); (case e2 => rfl); (case e3 => rfl)) | ((with_reducible refine wpList_store_newx (o := ⟨none, .store 36 (.tmp 5) (.tmp 14), _, _, _, _⟩) (w := wr) ?e1 (.tmp 5) (.tmp 14) ?e2 wr.heap.size ?e0 ?e3 x ?e4 ZX.out ?_); (case e1 => rfl); (case e2 => rfl); (case e0 => rfl); (case e3 => rfl); (case e4 => rfl); intro w2 hb2 hx2 hs2; have X2 := Lib.hid hx2; have HW2 := Lib.hid hb2; have LI := Lib.hid hx2.load_id; have HM2 := Lib.hid (HMM.out.below hb2 (Nat.le_refl _)); have LK := HM2.out.look HVX.out.len HVX.out.1.2; rw [HXA.out] at LK; dsimp only [Option.getD_none, Option.getD_some, Option.isSome_none, Option.isSome_some] at LK; clear hx2 hb2 hs2) | ((with_reducible refine wpList_load_by (o := ⟨some 18, .load 31 (.tmp 17), _, _, _, _⟩) ?e1 31 (.tmp 17) ?e2 ⟨wr.heap.size, 0, none⟩ ?e3 _ LI.out ?_); (case e1 => rfl); (case e2 => rfl); (case e3 => rfl)) | ((with_reducible refine wpList_store_newx (o := ⟨none, .store 36 (.tmp 6) (.tmp 20), _, _, _, _⟩) (w := w2) ?e1 (.tmp 6) (.tmp 20) ?e2 w2.heap.size ?e0 ?e3 rcA0 ?e4 ZO.out ?_); (case e1 => rfl); (case e2 => rfl); (case e0 => rfl); (case e3 => rfl); (case e4 => rfl); intro w3 hb3 hx3 hs3; have X3 := Lib.hid (X2.out.below hb3 X2.out.lt); have O3 := Lib.hid hx3; have HM3 := Lib.hid (HM2.out.below hb3 (Nat.le_refl _)); have HB3 := Lib.hid (HBB.out.trans ((HW2.out.trans (hb3.mono HW2.out.size)).mono HBB.out.size)); have HV3 := Lib.hid ((HVX.out.below HW2.out (Nat.le_refl _)).below hb3 (Nat.le_refl _)); have HO := Lib.hid (fun (w9 : World) (hS : Below w3.heap.size w3 w9) => own_any x w9 (HV3.out.below hS (Nat.le_refl _)) (by have := HXL.out; omega)); unfold OwnPost at HO; clear hx3 hb3 hs3 LK))
    refine wp_region_held_drew (S := fun w' => XAt w' wr.heap.size x ∧ XAt w' w2.heap.size rcA0) (by kernel_rfl) ⟨X3.out, O3.out⟩ (fun hS => ?_)
    refine wpHv (i := 0) (oi := ⟨some 24, _, _, _, _, _⟩) (v := ?_) rfl ?_ hS ?_; rotate_left; (focus (intro w9 hSw; (try dsimp only at hSw); go_simp; try with_reducible rfl)); simp only [Act.put, Z2, Z3, Z4]
    refine wpHv (i := 1) (oi := ⟨some 25, _, _, _, _, _⟩) (v := ?_) rfl ?_ hS ?_; rotate_left; (focus (intro w9 hSw; (try dsimp only at hSw); go_simp; try with_reducible rfl)); simp only [Act.put, Z2, Z3, Z4]
    refine wpHv (i := 2) (oi := ⟨some 26, _, _, _, _, _⟩) (v := (.agg (bvals x.R.z))) rfl ?_ hS ?_; (focus (intro w9 hSw; (try dsimp only at hSw); exact exec_load_by 31 _ rfl ⟨wr.heap.size, 0, none⟩ rfl hSw.1.load_id)); simp only [Act.put, Z2, Z3, Z4]
    refine wpHv (i := 3) (oi := ⟨some 27, _, _, _, _, _⟩) (v := (.agg x.cells)) rfl ?_ hS ?_; (focus (intro w9 hSw; (try dsimp only at hSw); exact exec_load_by 36 _ rfl ⟨wr.heap.size, 0, none⟩ rfl hSw.1.load)); simp only [Act.put, Z2, Z3, Z4]
    refine wpAnyH_ready (rs := [4]) (by kernel_rfl) (by simp) (AllReadyH.cons (o := ⟨some 28, _, _, _, _, _⟩) rfl (fun K hK => ?_) AllReadyH.nil)
    go_simp
    refine (HO.out _ (Below.refl w3.heap.size w3).drew).mono ?_
    rintro e x0 ⟨y, rfl, hyR, hy, hb0⟩
    have hbx : Below w3.heap.size w3 x0 := ((Below.refl w3.heap.size w3).drew).trans (hb0.mono (Nat.le_refl _))
    clear hS
    refine hK.out _ _ ⟨X3.out.below hbx X3.out.lt, O3.out.below hbx O3.out.lt⟩ (fun hS => ?_)
    clear hK K
    have YZ : y.R.z = x.R.z := by rw [hyR]
    have YR : y.R = bone (bat (es.map (·.R)) x.R.z) x.R := by rw [xat_bat, HXA.out]; exact hyR
    have YM : y.R.may = true := by rw [hyR]; exact HMX0.out
    have HMX := Lib.hid ((HM3.out.below hbx (Nat.le_refl _)))
    have HBW := Lib.hid (HB3.out.trans (hbx.mono HB3.out.size))
    obtain ⟨w5, hrun, hm5, hg5⟩ := HMX.out.store (by omega) hy
    rw [show y.R.z = x.R.z from YZ] at hrun
    have HRUN := Lib.hid hrun
    have HM5 := Lib.hid hm5
    have HB5 := Lib.hid (HBW.out.grown hg5 HBW.out.size (fun k e => by cases e; exact Nat.le_refl _))
    have HEQ5 : Hid ((xput es y).map (·.R) = ((xs.take (k + 1)).map (·.R)).foldl mput []) := Lib.hid (by rw [HGS.out, ← HEQ.out]; exact xput_mput HMX.out.keys (r := x.R) YZ.symm YR)
    have HMAY5 : Hid (∀ x ∈ xput es y, x.R.may = true) := Lib.hid (fun u hu => by
     rcases xput_mem hu with rfl | hu
     ·exact YM
     ·exact HMAY.out u hu)
    have HS5 := Lib.hid (And.intro (hS.1.kept_map hg5 HMX.out) (hS.2.kept_map hg5 HMX.out))
    clear hrun hm5 hg5 hy hyR hb0 hbx YZ YR YM
    refine wpAnyH_ready (rs := [5]) (by kernel_rfl) (by simp) (AllReadyH.cons (o := ⟨none, _, _, _, _, _⟩) rfl (fun K hK => ?_) AllReadyH.nil)
    have hrun := HRUN.out
    go_simp
    refine hK.out _ _ HS5.out (fun _ => ?_)
    clear hK K hS hrun
    refine wpAnyH_done (by kernel_rfl) ?_ _
    go_wp2
    go_roundw
    case rel => exact ⟨k + 1, by omega, by go_num, _, HM5.out, HEQ5.out, HMAY5.out, HB5.out⟩
    case measure => simp [intOf]; omega
   | some o =>
    have HXA := Lib.hid hxat
    have HOM := Lib.hid (xat_some hxat).1
    have HOZ := Lib.hid (xat_some hxat).2
    have ZO := Lib.hid (HMM.out.rv o HOM.out).len
    have HJN := Lib.hid (join_eq (HMAY.out o HOM.out) HMX0.out HOZ.out)
    clear hxat
    go_wp2_with (first | ((with_reducible refine wpList_load_by (o := ⟨some 14, .load 36 (.tmp 13), _, _, _, _⟩) ?e1 36 (.tmp 13) ?e2 ⟨b0, ox, none⟩ ?e3 _ LX.out ?_); (case e1 => rfl); (case e2 => rfl); (case e3 => rfl)) | ((with_reducible refine wpList_store_newx (o := ⟨none, .store 36 (.tmp 5) (.tmp 14), _, _, _, _⟩) (w := wr) ?e1 (.tmp 5) (.tmp 14) ?e2 wr.heap.size ?e0 ?e3 x ?e4 ZX.out ?_); (case e1 => rfl); (case e2 => rfl); (case e0 => rfl); (case e3 => rfl); (case e4 => rfl); intro w2 hb2 hx2 hs2; have X2 := Lib.hid hx2; have HW2 := Lib.hid hb2; have LI := Lib.hid hx2.load_id; have HM2 := Lib.hid (HMM.out.below hb2 (Nat.le_refl _)); have LK := HM2.out.look HVX.out.len HVX.out.1.2; rw [HXA.out] at LK; dsimp only [Option.getD_none, Option.getD_some, Option.isSome_none, Option.isSome_some] at LK; clear hx2 hb2 hs2) | ((with_reducible refine wpList_load_by (o := ⟨some 18, .load 31 (.tmp 17), _, _, _, _⟩) ?e1 31 (.tmp 17) ?e2 ⟨wr.heap.size, 0, none⟩ ?e3 _ LI.out ?_); (case e1 => rfl); (case e2 => rfl); (case e3 => rfl)) | ((with_reducible refine wpList_store_newx (o := ⟨none, .store 36 (.tmp 6) (.tmp 20), _, _, _, _⟩) (w := w2) ?e1 (.tmp 6) (.tmp 20) ?e2 w2.heap.size ?e0 ?e3 o ?e4 ZO.out ?_); (case e1 => rfl); (case e2 => rfl); (case e0 => rfl); (case e3 => rfl); (case e4 => rfl); intro w3 hb3 hx3 hs3; have X3 := Lib.hid (X2.out.below hb3 X2.out.lt); have O3 := Lib.hid hx3; have HM3 := Lib.hid (HM2.out.below hb3 (Nat.le_refl _)); have HB3 := Lib.hid (HBB.out.trans ((HW2.out.trans (hb3.mono HW2.out.size)).mono HBB.out.size)); have HV3 := Lib.hid ((HVX.out.below HW2.out (Nat.le_refl _)).below hb3 (Nat.le_refl _)); have HJ := Lib.hid (fun (w9 : World) (hS : Below w3.heap.size w3 w9) => xjoin_any o x w9 (HLA.out _ (HB3.out.trans (hS.mono HB3.out.size))) (HM3.out.rv o HOM.out |>.below hS (Nat.le_refl _)) (HV3.out.below hS (Nat.le_refl _))); rw [HJN.out] at HJ; dsimp only [Option.getD_some, Option.isSome_some] at HJ; clear hx3 hb3 hs3 LK))
    refine wp_region_held_drew (S := fun w' => XAt w' wr.heap.size x ∧ XAt w' w2.heap.size o) (by kernel_rfl) ⟨X3.out, O3.out⟩ (fun hS => ?_)
    refine wpHv (i := 0) (oi := ⟨some 30, _, _, _, _, _⟩) (v := ?_) rfl ?_ hS ?_; rotate_left; (focus (intro w9 hSw; (try dsimp only at hSw); go_simp; try with_reducible rfl)); simp only [Act.put, Z2, Z3, Z4]
    refine wpHv (i := 1) (oi := ⟨some 31, _, _, _, _, _⟩) (v := ?_) rfl ?_ hS ?_; rotate_left; (focus (intro w9 hSw; (try dsimp only at hSw); go_simp; try with_reducible rfl)); simp only [Act.put, Z2, Z3, Z4]
    refine wpHv (i := 2) (oi := ⟨some 32, _, _, _, _, _⟩) (v := (.agg (bvals x.R.z))) rfl ?_ hS ?_; (focus (intro w9 hSw; (try dsimp only at hSw); exact exec_load_by 31 _ rfl ⟨wr.heap.size, 0, none⟩ rfl hSw.1.load_id)); simp only [Act.put, Z2, Z3, Z4]
    refine wpHv (i := 3) (oi := ⟨some 33, _, _, _, _, _⟩) (v := (.agg o.cells)) rfl ?_ hS ?_; (focus (intro w9 hSw; (try dsimp only at hSw); exact exec_load_by 36 _ rfl ⟨w2.heap.size, 0, none⟩ rfl hSw.2.load)); simp only [Act.put, Z2, Z3, Z4]
    refine wpHv (i := 4) (oi := ⟨some 34, _, _, _, _, _⟩) (v := (.agg x.cells)) rfl ?_ hS ?_; (focus (intro w9 hSw; (try dsimp only at hSw); exact exec_load_by 36 _ rfl ⟨wr.heap.size, 0, none⟩ rfl hSw.1.load)); simp only [Act.put, Z2, Z3, Z4]
    refine wpAnyH_ready (rs := [5]) (by kernel_rfl) (by simp) (AllReadyH.cons (o := ⟨some 35, _, _, _, _, _⟩) rfl (fun K hK => ?_) AllReadyH.nil)
    go_simp
    refine (HJ.out _ (Below.refl w3.heap.size w3).drew).mono ?_
    rintro e x0 ⟨y, rfl, hyR, hy, hb0⟩
    have hbx : Below w3.heap.size w3 x0 := ((Below.refl w3.heap.size w3).drew).trans (hb0.mono (Nat.le_refl _))
    clear hS
    refine hK.out _ _ ⟨X3.out.below hbx X3.out.lt, O3.out.below hbx O3.out.lt⟩ (fun hS => ?_)
    clear hK K
    have YZ : y.R.z = x.R.z := by rw [hyR, jn_z]; exact HOZ.out
    have YR : y.R = bone (bat (es.map (·.R)) x.R.z) x.R := by rw [xat_bat, HXA.out]; exact hyR
    have YM : y.R.may = true := by rw [hyR]; exact jn_may (HMAY.out o HOM.out) HMX0.out
    have HMX := Lib.hid ((HM3.out.below hbx (Nat.le_refl _)))
    have HBW := Lib.hid (HB3.out.trans (hbx.mono HB3.out.size))
    obtain ⟨w5, hrun, hm5, hg5⟩ := HMX.out.store (by omega) hy
    rw [show y.R.z = x.R.z from YZ] at hrun
    have HRUN := Lib.hid hrun
    have HM5 := Lib.hid hm5
    have HB5 := Lib.hid (HBW.out.grown hg5 HBW.out.size (fun k e => by cases e; exact Nat.le_refl _))
    have HEQ5 : Hid ((xput es y).map (·.R) = ((xs.take (k + 1)).map (·.R)).foldl mput []) := Lib.hid (by rw [HGS.out, ← HEQ.out]; exact xput_mput HMX.out.keys (r := x.R) YZ.symm YR)
    have HMAY5 : Hid (∀ x ∈ xput es y, x.R.may = true) := Lib.hid (fun u hu => by
     rcases xput_mem hu with rfl | hu
     ·exact YM
     ·exact HMAY.out u hu)
    have HS5 := Lib.hid (And.intro (hS.1.kept_map hg5 HMX.out) (hS.2.kept_map hg5 HMX.out))
    clear hrun hm5 hg5 hy hyR hb0 hbx YZ YR YM
    refine wpHv (i := 6) (oi := ⟨some 29, _, _, _, _, _⟩) (v := ?_) rfl ?_ hS ?_; rotate_left; (focus (intro w9 hSw; (try dsimp only at hSw); go_simp; try with_reducible rfl)); simp only [Act.put, Z2, Z3, Z4]
    refine wpHv (i := 7) (oi := ⟨some 36, _, _, _, _, _⟩) (v := ?_) rfl ?_ hS ?_; rotate_left; (focus (intro w9 hSw; (try dsimp only at hSw); go_simp; try with_reducible rfl)); simp only [Act.put, Z2, Z3, Z4]
    refine wpHv (i := 8) (oi := ⟨some 37, _, _, _, _, _⟩) (v := ?_) rfl ?_ hS ?_; rotate_left; (focus (intro w9 hSw; (try dsimp only at hSw); go_simp; try with_reducible rfl)); simp only [Act.put, Z2, Z3, Z4]
    refine wpAnyH_ready (rs := [9]) (by kernel_rfl) (by simp) (AllReadyH.cons (o := ⟨none, _, _, _, _, _⟩) rfl (fun K hK => ?_) AllReadyH.nil)
    have hrun := HRUN.out
    go_simp
    refine hK.out _ _ HS5.out (fun _ => ?_)
    clear hK K hS hrun
    refine wpAnyH_done (by kernel_rfl) ?_ _
    go_wp2
    go_roundw
    case rel => exact ⟨k + 1, by omega, by go_num, _, HM5.out, HEQ5.out, HMAY5.out, HB5.out⟩
    case measure => simp [intOf]; omega
  ·obtain rfl : k = len := by omega
   rw [List.take_of_length_le (by rw [HLN.out]; exact Nat.le_refl _)] at heq
   have HEQ := Lib.hid heq
   have HMM := Lib.hid hM
   have HBB := Lib.hid hb
   clear heq hmay hM hb
   go_wp2
   go_ret
   exact ⟨_, _, _, rfl, Nat.le_refl _, HMM.out, HEQ.out, HBB.out⟩
end
end Go.Proofs.YtnlhkpmgbpfjmaaGreatDoor
