import Derived.Test.YtkjimhlpbgeagaaGreatDoorF0
import Derived.Test.YtkjimhlpbgeagaaGreatDoorF15
import Derived.Test.YtkjimhlpbgeagaaGreatDoorF14
/-
  What the functions that a law of this layer reaches answer, part 21. Nothing that was there is written.
-/
namespace Go.Proofs.YtkjimhlpbgeagaaGreatDoor
set_option linter.unusedVariables false
set_option linter.unusedSimpArgs false
section
open Go.RowKit WM
set_option maxRecDepth 100000
def Tag (t : TypeId) (w : World) (A : Option Addr) : Prop := ∀ p, A = some p → ∃ cur, w.heap[p.block]? = some (.cells cur t)
def NoT (ts : List TypeId) (w : World) (row : Option Nat) : Prop := ∀ g, row = some g → ∀ t ∈ ts, ∀ c, w.heap[g]? ≠ some (.cells c t)
theorem NoT.of {ts : List TypeId} {w : World} {g : Nat} {cur : Array Value} {t : TypeId} (h : w.heap[g]? = some (.cells cur t)) (ht : t ∉ ts) : NoT ts w (some g) := fun g' e t' ht' c hc => by
 obtain rfl := Option.some.inj e
 rw [h] at hc
 simp only [Option.some.injEq, Obj.cells.injEq] at hc
 exact ht (hc.2.1 ▸ ht')
theorem NoT.own {ts : List TypeId} {w : World} {base size n : Nat} {t : TypeId} {v : Value} {xs : List Value} (h : w.ownsRow base t size v n xs) (ht : t ∉ ts) : NoT ts w v.ownBlock := by
 rcases h.2 with ⟨rfl, _⟩ | ⟨g, cap, cur, rfl, _, hg, _⟩
 ·exact fun g e => by simp [Value.ownBlock] at e
 ·exact NoT.of hg ht
theorem NoT.sub {ts us : List TypeId} {w : World} {row : Option Nat} (h : NoT ts w row) (hu : ∀ t ∈ us, t ∈ ts) : NoT us w row := fun g e t ht => h g e t (hu t ht)
theorem Tag.below {t : TypeId} {w w' : World} {A : Option Addr} (h : Tag t w A) (hb : Below w.heap.size w w') : Tag t w' A := fun p e => by
 obtain ⟨cur, hc⟩ := h p e
 exact ⟨cur, (hb.block _ (Array.getElem?_eq_some_iff.1 hc).1).trans hc⟩
theorem Tag.kept {t : TypeId} {w w' : World} {A : Option Addr} {row : Option Nat} (h : Tag t w A) (hg : w.grownBy w' row) (hr : NoT [t] w row) : Tag t w' A := fun p e => by
 obtain ⟨cur, hc⟩ := h p e
 exact ⟨cur, (hg.block _ (Array.getElem?_eq_some_iff.1 hc).1 (fun e2 => hr _ e2.symm t (List.mem_singleton.2 rfl) cur hc)).trans hc⟩
theorem Tag.own {w : World} {base n c size : Nat} {t : TypeId} {A : Option Addr} {xs : List Value} (h : w.ownsRow base t size (.slice A n c) n xs) : Tag t w A := by
 intro p e
 rcases h.2 with ⟨h1, _⟩ | ⟨g, cap, cur, h1, _, hg, _⟩
 ·simp only [Value.slice.injEq] at h1
  rw [h1.1] at e; cases e
 ·simp only [Value.slice.injEq] at h1
  rw [h1.1] at e
  cases e
  exact ⟨cur, hg⟩
theorem Kind.row_kept {α : Type} {K : Kind α} {t : TypeId} {w w' : World} {A : Option Addr} {c : Nat} {xs : List α} {row : Option Nat} (h : K.row w A c xs) (ht : Tag t w A) (hg : w.grownBy w' row) (hr : NoT [t] w row) (hk : ∀ x ∈ xs, K.ok w' x) : K.row w' A c xs := by
 obtain ⟨h1, h2, h3, h4, h5⟩ := h
 refine ⟨h1, h2, h3, fun h0 => ?_, hk⟩
 obtain ⟨b, off, hA, hb, hc⟩ := h4 h0
 obtain ⟨cur, hcur⟩ := ht _ hA
 have hs := hg.block b hb (fun e2 => hr _ e2.symm t (List.mem_singleton.2 rfl) cur hcur)
 exact ⟨b, off, hA, Nat.lt_of_lt_of_le hb hg.size, fun i hi => Kind.at_same (hc i hi) hs⟩
structure TKind (α : Type) where
 K : Kind α
 tag : World → α → Prop
 ts : List TypeId
 below : ∀ {w w' : World} {x : α}, tag w x → Below w.heap.size w w' → tag w' x
 kept : ∀ {w w' : World} {x : α} {row : Option Nat}, K.ok w x → tag w x → w.grownBy w' row → NoT ts w row → K.ok w' x ∧ tag w' x
theorem KSig_kept {w w' : World} {A : Option Addr} {c : Nat} {xs : List Sg} {row : Option Nat} (h : KSig.row w A c xs) (ht : Tag 102 w A) (hg : w.grownBy w' row) (hr : NoT [102] w row) : KSig.row w' A c xs := Kind.row_kept h ht hg hr h.2.2.2.2
theorem EnA.kept {w w' : World} {x : EnA} {row : Option Nat} (h : x.Ok w) (ht : Tag 102 w x.A) (hg : w.grownBy w' row) (hr : NoT [102] w row) : x.Ok w' ∧ Tag 102 w' x.A :=
 ⟨⟨h.1, h.2.1, h.2.2.1, h.2.2.2.1, h.2.2.2.2.1, h.2.2.2.2.2.1, KSig_kept h.2.2.2.2.2.2 ht hg hr⟩, ht.kept hg hr⟩
def TEn : TKind EnA := { K := KEn, tag := fun w x => Tag 102 w x.A, ts := [102], below := fun h hb => Tag.below h hb, kept := fun h ht hg hr => EnA.kept h ht hg hr }
def LnA.T (w : World) (x : LnA) : Prop := Tag 46 w x.A ∧ ∀ e ∈ x.es, Tag 102 w e.A
theorem LnA.kept {w w' : World} {x : LnA} {row : Option Nat} (h : x.Ok w) (ht : x.T w) (hg : w.grownBy w' row) (hr : NoT [102, 46] w row) : x.Ok w' ∧ x.T w' := by
 have h1 : NoT [102] w row := hr.sub fun t ht => by rw [List.mem_singleton.1 ht]; exact List.mem_cons_self
 have h2 : NoT [46] w row := hr.sub fun t ht => by rw [List.mem_singleton.1 ht]; exact List.mem_cons_of_mem _ List.mem_cons_self
 have key : ∀ e ∈ x.es, e.Ok w' ∧ Tag 102 w' e.A := fun e he => EnA.kept (h.2.2.2.2.2.2.2.2 e he) (ht.2 e he) hg h1
 exact ⟨⟨h.1, h.2.1, h.2.2.1, h.2.2.2.1, Kind.row_kept h.2.2.2.2 ht.1 hg h2 fun e he => (key e he).1⟩, ht.1.kept hg h2, fun e he => (key e he).2⟩
theorem LnA.T_below {w w' : World} {x : LnA} (h : x.T w) (hb : Below w.heap.size w w') : x.T w' := ⟨h.1.below hb, fun e he => (h.2 e he).below hb⟩
def TLn : TKind LnA := { K := KLn, tag := fun w x => x.T w, ts := [102, 46], below := fun h hb => LnA.T_below h hb, kept := fun h ht hg hr => LnA.kept h ht hg hr }
structure RJ {α : Type} (T : TKind α) (te tc : TypeId) (bl base : Nat) (pre : List Value) (v : Value) (xs : List α) (W : World) : Prop where
 blk : W.heap[bl]? = some (.cells (pre ++ [v]).toArray tc)
 own : W.ownsRow base te T.K.n v xs.length (xs.flatMap T.K.cs)
 ok : ∀ x ∈ xs, T.K.ok W x ∧ T.tag W x
 lt : bl < base
 le : base ≤ W.heap.size
section
variable {α : Type} {T : TKind α} {te tc : TypeId} {bl base : Nat} {pre : List Value} {v v' : Value} {xs : List α} {y : α} {W W' : World}
theorem RJ.below (h : RJ T te tc bl base pre v xs W) (hb : Below W.heap.size W W') : RJ T te tc bl base pre v xs W' :=
 ⟨(hb.block _ (Array.getElem?_eq_some_iff.1 h.blk).1).trans h.blk, own_below h.own hb, fun x hx => ⟨T.K.below (h.ok x hx).1 hb, T.below (h.ok x hx).2 hb⟩, h.lt, Nat.le_trans h.le hb.size⟩
theorem RJ.alloc (h : RJ T te tc bl base pre v xs W) (o : Obj) : RJ T te tc bl base pre v xs (W.alloc o) := h.below ((Below.refl _ _).alloc (Nat.le_refl _) o)
theorem RJ.drew (h : RJ T te tc bl base pre v xs W) : RJ T te tc bl base pre v xs W.drew := h.below ((Below.refl _ _).drew)
theorem RJ.cell (h : RJ T te tc bl base pre v xs W) {p : Nat} (hp : p = pre.length) : W.cell? ⟨bl, p, none⟩ = some v := by
 subst hp
 rw [cell_of_row _ _ _ _ _ _ h.blk, List.getElem?_toArray, List.getElem?_append_right (Nat.le_refl _), Nat.sub_self]
 rfl
structure RM {α : Type} (T : TKind α) (te tc : TypeId) (bl base : Nat) (pre : List Value) (v v' : Value) (xs : List α) (W : World) : Prop where
 blk : W.heap[bl]? = some (.cells (pre ++ [v]).toArray tc)
 own : W.ownsRow base te T.K.n v' xs.length (xs.flatMap T.K.cs)
 ok : ∀ x ∈ xs, T.K.ok W x ∧ T.tag W x
 lt : bl < base
 le : base ≤ W.heap.size
theorem RJ.grown (h : RJ T te tc bl base pre v xs W) (hy : T.K.ok W y ∧ T.tag W y) (hO : W'.ownsRow base te T.K.n v' (xs.length + 1) ((xs ++ [y]).flatMap T.K.cs)) (hG : W.grownBy W' v.ownBlock) (he : te ∉ T.ts) : RM T te tc bl base pre v v' (xs ++ [y]) W' := by
 refine ⟨(hG.block _ (Array.getElem?_eq_some_iff.1 h.blk).1 (fun e => ?_)).trans h.blk, by rw [List.length_append]; exact hO, fun x hx => ?_, h.lt, Nat.le_trans h.le hG.size⟩
 ·have := own_base h.own e.symm
  have := h.lt
  omega
 ·rcases List.mem_append.1 hx with hx | hx
  ·exact T.kept (h.ok x hx).1 (h.ok x hx).2 hG (NoT.own h.own he)
  ·rw [List.mem_singleton.1 hx]
   exact T.kept hy.1 hy.2 hG (NoT.own h.own he)
theorem RM.cell (h : RM T te tc bl base pre v v' xs W) {p : Nat} (hp : p = pre.length) : W.cell? ⟨bl, p, none⟩ = some v := by
 subst hp
 rw [cell_of_row _ _ _ _ _ _ h.blk, List.getElem?_toArray, List.getElem?_append_right (Nat.le_refl _), Nat.sub_self]
 rfl
theorem RM.fz (h : RM T te tc bl base pre v v' xs W) (j : Nat) : W.frozen? ⟨bl, j, none⟩ = false := frozen_of_row _ _ _ _ _ h.blk
theorem grownBy_setCell9 (W : World) (b j : Nat) (u : Value) : W.grownBy (W.setCell ⟨b, j, none⟩ u) (some b) :=
 ⟨by simp [World.setCell], by simp [World.setCell], by simp [World.setCell], by simp, fun k _ hk => Below.heap_setCell _ _ _ _ (fun e => hk (by rw [e]))⟩
theorem RM.store (h : RM T te tc bl base pre v v' xs W) (hc : tc ∉ T.ts) {p : Nat} (hp : p = pre.length) : RJ T te tc bl base pre v' xs (W.setCell ⟨bl, p, none⟩ v') := by
 subst hp
 have hg := grownBy_setCell9 W bl pre.length v'
 refine ⟨?_, h.own.kept hg ?_, fun x hx => T.kept (h.ok x hx).1 (h.ok x hx).2 hg (NoT.of h.blk hc), h.lt, Nat.le_trans h.le hg.size⟩
 ·rw [heap_setCell_same _ _ _ _ _ _ h.blk]
  congr 2
  simp
 ·cases ho : v'.ownBlock with
  | none => exact .inl rfl
  | some g =>
   refine .inr fun e => ?_
   have := own_base h.own ho
   have := h.lt
   have := Option.some.inj e
   omega
theorem RJ.other {q : Nat} {c : Array Value} {t : TypeId} (h : RJ T te tc bl base pre v xs W) (hq : W.heap[q]? = some (.cells c t)) (ht : t ≠ te) (hG : W.grownBy W' v.ownBlock) : W'.heap[q]? = some (.cells c t) := by
 refine (hG.block _ (Array.getElem?_eq_some_iff.1 hq).1 (fun e => ?_)).trans hq
 rcases h.own.2 with ⟨rfl, _⟩ | ⟨g, cap, cur, rfl, _, hg, _⟩
 ·simp [Value.ownBlock] at e
 ·obtain rfl : q = g := by simpa [Value.ownBlock] using e
  rw [hq] at hg
  simp only [Option.some.injEq, Obj.cells.injEq] at hg
  exact ht hg.2.1
theorem RM.other {q : Nat} {c : Array Value} {t : TypeId} (h : RM T te tc bl base pre v v' xs W) {p : Nat} (hq : W.heap[q]? = some (.cells c t)) (hne : q ≠ bl) : (W.setCell ⟨bl, p, none⟩ v').heap[q]? = some (.cells c t) := (Below.heap_setCell _ _ _ _ hne).trans hq
end
def enC (no n r len : Int) (ds : List Int) (A : Option Addr) (m c : Nat) : List Value := .int .i64 no :: .int .i64 n :: .int .i64 r :: .int .i64 len :: (ds.map (Value.int .u8) ++ [.slice A m c])
def lnP (z : List Int) (n r : Int) : List Value := z.map (Value.int .u8) ++ [.int .i64 n, .int .i64 r]
def mnP (z : List Int) : List Value := z.map (Value.int .u8)
theorem lnP_len {z : List Int} (h : z.length = 16) (n r : Int) : 18 = (lnP z n r).length := by simp [lnP, h]
theorem mnP_len {z : List Int} (h : z.length = 32) : 32 = (mnP z).length := by simp [mnP, h]
theorem ln_cs (x : LnA) : KLn.cs x = lnP x.z x.n x.r ++ [.slice x.A x.es.length x.c] := by
 show x.z.map (Value.int .u8) ++ [.int .i64 x.n, .int .i64 x.r, .slice x.A x.es.length x.c] = _
 unfold lnP
 rw [List.append_assoc]
 rfl
theorem built_en {ds : List Int} (h : ds.length = 32) (no n r len : Int) (A : Option Addr) (m c : Nat) : Tryz.prog.built 46 [(0, .int .i64 no), (1, .agg #[.int .i64 n, .int .i64 r]), (2, .int .i64 len), (3, .agg (bvals ds)), (4, .slice A m c)] = some (enC no n r len ds A m c).toArray := by
 obtain ⟨a0, a1, a2, a3, a4, a5, a6, a7, a8, a9, a10, a11, a12, a13, a14, a15, a16, a17, a18, a19, a20, a21, a22, a23, a24, a25, a26, a27, a28, a29, a30, a31, rfl⟩ := list32 h
 kernel_rfl
theorem build_en {x : EnA} (h : x.e.ds.length = 32) (w : World) : (Instr.build 46 #[(0, .int .i64 x.e.no), (1, .agg #[.int .i64 x.e.n, .int .i64 x.e.r]), (2, .int .i64 x.e.len), (3, .agg (bvals x.e.ds)), (4, .slice x.A x.e.bs.length x.c)]).run Tryz.prog w = .ok (.agg (KEn.cs x).toArray) w := run_build w _ _ _ (built_en h _ _ _ _ _ _ _)
theorem built_ln {z : List Int} (h : z.length = 16) (n r : Int) : Tryz.prog.built 35 [(0, .agg (bvals z)), (1, .agg #[.int .i64 n, .int .i64 r])] = some (lnP z n r ++ [Value.slice none 0 0]).toArray := by
 obtain ⟨a, b, c, d, e, f, g, i, j, k, l, m, n', o, p, q, rfl⟩ := list16 h
 kernel_rfl
theorem build_ln {z : List Int} (h : z.length = 16) (n r : Int) (w : World) : (Instr.build 35 #[(0, .agg (bvals z)), (1, .agg #[.int .i64 n, .int .i64 r])]).run Tryz.prog w = .ok (.agg (lnP z n r ++ [Value.slice none 0 0]).toArray) w := run_build w _ _ _ (built_ln h n r)
theorem built_mn {z : List Int} (h : z.length = 32) : Tryz.prog.built 26 [(0, .agg (bvals z))] = some (mnP z ++ [Value.slice none 0 0]).toArray := by
 obtain ⟨a0, a1, a2, a3, a4, a5, a6, a7, a8, a9, a10, a11, a12, a13, a14, a15, a16, a17, a18, a19, a20, a21, a22, a23, a24, a25, a26, a27, a28, a29, a30, a31, rfl⟩ := list32 h
 kernel_rfl
theorem build_mn {z : List Int} (h : z.length = 32) (w : World) : (Instr.build 26 #[(0, .agg (bvals z))]).run Tryz.prog w = .ok (.agg (mnP z ++ [Value.slice none 0 0]).toArray) w := run_build w _ _ _ (built_mn h)
theorem size_pre {t : TypeId} {pre : List Value} {n : Nat} {v : Value} (h : (Tryz.prog.info? t).map (·.size) = some (n + 1)) (hp : n = pre.length) : (Tryz.prog.info? t).map (·.size) = some (pre ++ [v]).toArray.size := by
 rw [h, List.size_toArray, List.length_append, hp]
 rfl
theorem lnP_one (z : List Int) (n r : Int) {v : Value} (hv : v.oneCell' = true) : (lnP z n r ++ [v]).toArray.all (·.oneCell') = true := by
 rw [Array.all_eq_true_iff_forall_mem]
 intro u hu
 simp only [lnP, List.mem_toArray, List.mem_append, List.mem_cons, List.not_mem_nil, or_false] at hu
 rcases hu with (hu | rfl | rfl) | rfl
 ·exact byte_ones _ u hu
 ·rfl
 ·rfl
 ·exact hv
theorem mnP_one (z : List Int) {v : Value} (hv : v.oneCell' = true) : (mnP z ++ [v]).toArray.all (·.oneCell') = true := by
 rw [Array.all_eq_true_iff_forall_mem]
 intro u hu
 simp only [mnP, List.mem_toArray, List.mem_append, List.mem_cons, List.not_mem_nil, or_false] at hu
 rcases hu with hu | rfl
 ·exact byte_ones _ u hu
 ·exact hv
structure Fr (bl : Nat) (W0 : World) (bf : Nat) (C : Array Value) (t : TypeId) (X : World) : Prop where
 b : Below bl W0 X
 o : X.heap[bf]? = some (.cells C t)
theorem Fr.below {bl bf : Nat} {W0 X Y : World} {C : Array Value} {t : TypeId} (h : Fr bl W0 bf C t X) (hbl : bl ≤ W0.heap.size) (hb : Below X.heap.size X Y) : Fr bl W0 bf C t Y :=
 ⟨h.b.trans (hb.mono (Nat.le_trans hbl h.b.size)), (hb.block _ (Array.getElem?_eq_some_iff.1 h.o).1).trans h.o⟩
section
variable {α : Type} {T : TKind α} {te tc t : TypeId} {bl base bf p : Nat} {pre : List Value} {v v' : Value} {xs : List α} {W0 X Y : World} {C : Array Value}
theorem RJ.fr (J : RJ T te tc bl base pre v xs X) (h : Fr bl W0 bf C t X) (ht : t ≠ te) (hG : X.grownBy Y v.ownBlock) : Fr bl W0 bf C t Y :=
 ⟨h.b.grown hG (Nat.le_of_lt (Nat.lt_of_lt_of_le J.lt J.le)) (fun g hg => by have := own_base J.own hg; have := J.lt; omega), J.other h.o ht hG⟩
theorem RM.fr (M : RM T te tc bl base pre v v' xs X) (h : Fr bl W0 bf C t X) (hne : bf ≠ bl) : Fr bl W0 bf C t (X.setCell ⟨bl, p, none⟩ v') := ⟨h.b.setCell (Nat.le_refl _) _, M.other h.o hne⟩
end
end
end Go.Proofs.YtkjimhlpbgeagaaGreatDoor
