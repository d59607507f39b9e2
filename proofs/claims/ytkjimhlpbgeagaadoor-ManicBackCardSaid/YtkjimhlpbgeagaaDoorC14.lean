import Derived.Test.YtkjimhlpbgeagaaDoorC0
import Derived.Test.YtkjimhlpbgeagaaDoorC13
import Derived.Test.YtkjimhlpbgeagaaDoorC10
import Derived.Test.YtkjimhlpbgeagaaDoorC11
import Derived.Test.YtkjimhlpbgeagaaDoorC9
import Derived.Test.YtkjimhlpbgeagaaDoorC8
import Derived.Test.YtkjimhlpbgeagaaDoorC1
import Derived.Test.YtkjimhlpbgeagaaDoorC6
import Derived.Test.YtkjimhlpbgeagaaDoorC7
import Derived.BigQuiet
import Derived.Deep.RegionHeld3
/-
  What the functions that a law of this layer reaches answer, part 14. Nothing that was there is written.
-/
namespace Go.Proofs.YtkjimhlpbgeagaaDoor
set_option linter.unusedVariables false
set_option linter.unusedSimpArgs false
section
open Go.RowKit WM
set_option maxRecDepth 100000
def fewME (x : LnA) : Bool := decide (x.es.length ≤ 12) && x.es.all fun e => decide (e.e.bs.length ≤ 40)
theorem mfew_A (m : MnA) : mfew m.m = (decide (m.ls.length ≤ 14) && m.ls.all fewME) := by
 simp [mfew, MnA.m, LnA.x, List.all_map, Function.comp_def]
 rfl
theorem MnAt.new (w : World) (m : MnA) : MnAt (w.alloc (.cells m.cs.toArray 26)) w.heap.size m := heap_alloc_new w _
theorem fewM_drop {ls : List LnA} {k : Nat} (hk : k < ls.length) : (ls.drop k).all fewME = (fewME (ls.getD k lnA0) && (ls.drop (k + 1)).all fewME) := by
 rw [List.drop_eq_getElem_cons hk, List.all_cons, List.getD_eq_getElem?_getD, List.getElem?_eq_getElem hk]
 rfl
def fewMB (e : EnA) : Bool := decide (e.e.bs.length ≤ 40)
theorem fewM_dropE {es : List EnA} {k : Nat} (hk : k < es.length) : (es.drop k).all fewMB = (fewMB (es.getD k enA0) && (es.drop (k + 1)).all fewMB) := by
 rw [List.drop_eq_getElem_cons hk, List.all_cons, List.getD_eq_getElem?_getD, List.getElem?_eq_getElem hk]
 rfl
set_option maxHeartbeats 8000000 in
theorem rfew12_any (m : MnA) (w : World) (h : m.Ok w) : Calls Tryd.prog 7 #[m.v] w fun e w' => e = .returned (.bool (mfew m.m)) ∧ Below w.heap.size w w' := by
 rw [mfew_A]
 have hmn := MnAt.new w m
 obtain ⟨w1, hw1⟩ : ∃ w1, w1 = w.alloc (.cells m.cs.toArray 26) := ⟨_, rfl⟩
 rw [← hw1] at hmn
 have hb1 : Below w.heap.size w w1 := by rw [hw1]; exact (Below.refl _ _).alloc (Nat.le_refl _) _
 have h1 := MnA.below h (hb1.mono (Nat.le_refl _))
 have HB1 := Lib.hid hb1
 have HC := Lib.hid (fun X (hX : Below w1.heap.size w1 X) => (hmn.below hX hmn.lt).c32 h1.1)
 have HR := Lib.hid (fun h0 => ln_row h1.2.2 h0)
 have HOK := Lib.hid (fun k (hk : k < m.ls.length) => show LnA.Ok w1 (m.ls.getD k lnA0) from Kind.row_ok h1.2.2 hk)
 have hv : m.v = .agg m.cs.toArray := rfl
 have c1 := HC.out w1 (Below.refl _ _)
 rw [hv]
 have HV0 := Lib.hid (show (decide (m.ls.length ≤ 14) && m.ls.all fewME) = (decide (m.ls.length ≤ 14) && (m.ls.drop 0).all fewME) from rfl)
 generalize (decide (m.ls.length ≤ 14) && m.ls.all fewME) = V at *
 generalize m.cs.toArray = E at *
 obtain ⟨base, A, c, ls⟩ := m
 dsimp only at *
 have HFD := Lib.hid (fun k (hk : k < ls.length) => fewM_drop hk)
 generalize hn : ls.length = n at *
 have HN := Lib.hid hn
 clear h h1 hmn hv hb1 hn
 subst hw1
 go_enter Tryd.func7, Tryd.ntmps7
 by_cases t0 : (14 : Int) < (n : Int)
 ·have HF := Lib.hid (show V = false by rw [HV0.out, decide_eq_false (p := n ≤ 14) (by omega)]; rfl)
  go_wp2
  go_ret
  exact ⟨by rw [HF.out]; try rfl, HB1.out⟩
 have HV1 := Lib.hid (show V = (ls.drop 0).all fewME by rw [HV0.out, decide_eq_true (p := n ≤ 14) (by omega), Bool.true_and])
 clear HV0
 go_wp2
 clear c1
 generalize w.alloc (.cells E 26) = w1 at *
 go_loopw [3] (fun i wr => ∃ k : Nat, k ≤ n ∧ i = .int .i64 k ∧ Below w1.heap.size w1 wr ∧ V = (ls.drop k).all fewME) (fun i _ => n - (intOf i).toNat)
 case atStart => exact ⟨0, Nat.zero_le _, rfl, Below.refl _ _, HV1.out⟩
 case round =>
  obtain ⟨k, hk, rfl, hb, hf⟩ := hrel
  have HBB := Lib.hid hb
  have B9 := Lib.hid (HB1.out.trans (hb.mono HB1.out.size))
  have cc1 := HC.out wr hb
  by_cases hlt : k < n
  ·have t1 : (k : Int) < (n : Int) := by omega
   obtain ⟨b1, off1, hA1, hb1w, hx1, hi1⟩ := HR.out (by omega)
   have ix1 := hi1 k hlt k rfl
   rw [← hA1] at ix1
   have hok := HOK.out k hlt
   have s18 := (hb.cell (p := ⟨b1, off1 + k * 19 + 18, none⟩) hb1w).trans (ln_c18 (hx1 k hlt) hok.1)
   have HS18 := Lib.hid (fun X (hX : Below w1.heap.size w1 X) => (hX.cell (p := ⟨b1, off1 + k * 19 + 18, none⟩) hb1w).trans (ln_c18 (hx1 k hlt) hok.1))
   rw [HFD.out k hlt] at hf
   generalize ls.getD k lnA0 = x at *
   have HE := Lib.hid (fun h0 => en_row hok.2.2.2.2 h0)
   have HEO := Lib.hid (fun j (hj : j < x.es.length) => show EnA.Ok w1 (x.es.getD j enA0) from Kind.row_ok hok.2.2.2.2 hj)
   obtain ⟨z, q, r, Ae, ce, es⟩ := x
   dsimp only at s18 HS18 HE HEO
   have hfe : fewME ⟨z, q, r, Ae, ce, es⟩ = (decide (es.length ≤ 12) && es.all fewMB) := rfl
   rw [hfe] at hf
   have HFE := Lib.hid (fun j (hj : j < es.length) => fewM_dropE hj)
   generalize hm : es.length = M at *
   have HM := Lib.hid hm
   generalize hrst : (ls.drop (k + 1)).all fewME = rest at *
   have HRST := Lib.hid hrst
   have HFF := Lib.hid hf
   clear hx1 hi1 hA1 hok hf hb hfe hm hrst
   by_cases t2 : (12 : Int) < (M : Int)
   ·have HF := Lib.hid (show V = false by rw [HFF.out, decide_eq_false (p := M ≤ 12) (by omega)]; rfl)
    go_wp2
    go_ret
    exact ⟨by rw [HF.out]; try rfl, B9.out⟩
   have HF0 := Lib.hid (show V = ((es.drop 0).all fewMB && rest) by rw [HFF.out, decide_eq_true (p := M ≤ 12) (by omega)]; rfl)
   go_wp2
   clear cc1 s18
   go_loopw [4] (fun i wr2 => ∃ j : Nat, j ≤ M ∧ i = .int .i64 j ∧ Below w1.heap.size w1 wr2 ∧ V = ((es.drop j).all fewMB && rest)) (fun i _ => M - (intOf i).toNat)
   case atStart => exact ⟨0, Nat.zero_le _, rfl, HBB.out, HF0.out⟩
   case round =>
    obtain ⟨j, hj, rfl, hb2, hf2⟩ := hrel
    have HB2 := Lib.hid hb2
    have B10 := Lib.hid (HB1.out.trans (hb2.mono HB1.out.size))
    have cc1 := HC.out _ hb2
    have s18 := HS18.out _ hb2
    by_cases hjt : j < M
    ·have t3 : (j : Int) < (M : Int) := by omega
     obtain ⟨b2, off2, hA2, hb2w, hx2, hi2⟩ := HE.out (by omega)
     have ix2 := hi2 j hjt j rfl
     rw [← hA2] at ix2
     have hokE := HEO.out j hjt
     have s36 := (hb2.cell (p := ⟨b2, off2 + j * 37 + 36, none⟩) hb2w).trans (en_c36 (hx2 j hjt) hokE.2.2.2.2.1)
     rw [HFE.out j hjt] at hf2
     generalize es.getD j enA0 = y at *
     have hfy : fewMB y = decide (y.e.bs.length ≤ 40) := rfl
     rw [hfy] at hf2
     have HF2 := Lib.hid hf2
     clear hx2 hi2 hA2 hokE hf2 hb2 hfy
     by_cases t4 : (40 : Int) < (y.e.bs.length : Int)
     ·have HF := Lib.hid (show V = false by rw [HF2.out, decide_eq_false (p := y.e.bs.length ≤ 40) (by omega)]; rfl)
      go_wp2
      go_ret
      exact ⟨by rw [HF.out]; try rfl, B10.out⟩
     ·have HF := Lib.hid (show V = ((es.drop (j + 1)).all fewMB && rest) by rw [HF2.out, decide_eq_true (p := y.e.bs.length ≤ 40) (by omega), Bool.true_and])
      go_wp2
      go_roundw
      case rel => exact ⟨j + 1, by omega, by go_num, HB2.out, HF.out⟩
      case measure => simp [intOf]; omega
    ·obtain rfl : j = M := by omega
     have t3 : ¬ (j : Int) < (j : Int) := by omega
     have HF := Lib.hid (show V = rest by rw [hf2, List.drop_eq_nil_of_le (by rw [HM.out]; exact Nat.le_refl _)]; rfl)
     clear hf2 hb2
     go_wp2
     go_roundw
     case rel => exact ⟨k + 1, by omega, by go_num, HB2.out, by rw [HRST.out]; exact HF.out⟩
     case measure => simp [intOf]; omega
  ·obtain rfl : k = n := by omega
   have t1 : ¬ (k : Int) < (k : Int) := by omega
   have HF := Lib.hid (show V = true by rw [hf, List.drop_eq_nil_of_le (by rw [HN.out]; exact Nat.le_refl _)]; rfl)
   clear hf hb
   go_wp2
   go_ret
   exact ⟨by rw [HF.out]; try rfl, B9.out⟩
end
section
open Go.RowKit WM
set_option maxRecDepth 100000
def prevA (ls : List LnA) (k : Nat) : Option (List Int) := if k = 0 then none else some (ls.getD (k - 1) lnA0).z
theorem lsOk_step {ls : List LnA} {k : Nat} (hk : k < ls.length) : lsOk (prevA ls k) ((ls.drop k).map (·.x)) = (lnOk (ls.getD k lnA0).x && (riseOk (prevA ls k) (ls.getD k lnA0).z && lsOk (prevA ls (k + 1)) ((ls.drop (k + 1)).map (·.x)))) := by
 rw [List.drop_eq_getElem_cons hk, List.map_cons]
 have h : ls.getD k lnA0 = ls[k] := by rw [List.getD_eq_getElem?_getD, List.getElem?_eq_getElem hk]; rfl
 have h2 : prevA ls (k + 1) = some ls[k].z := by unfold prevA; rw [if_neg (by omega), Nat.add_sub_cancel, h]
 rw [h, h2]
 simp only [lsOk]
 rw [Bool.and_assoc]
 rfl
def lastA (es : List EnA) (j : Nat) : Int := if j = 0 then -1 else (es.getD (j - 1) enA0).e.no
theorem esOk_step {n r : Int} {es : List EnA} {j : Nat} (hj : j < es.length) : esOk n r (lastA es j) ((es.drop j).map (·.e)) = (enOk n r (lastA es j) (es.getD j enA0).e && esOk n r (lastA es (j + 1)) ((es.drop (j + 1)).map (·.e))) := by
 rw [List.drop_eq_getElem_cons hj, List.map_cons]
 have h : es.getD j enA0 = es[j] := by rw [List.getD_eq_getElem?_getD, List.getElem?_eq_getElem hj]; rfl
 have h2 : lastA es (j + 1) = es[j].e.no := by unfold lastA; rw [if_neg (by omega), Nat.add_sub_cancel, h]
 rw [h, h2]
 rfl
theorem ln_size {x : LnA} {w : World} (h : x.Ok w) : (Tryd.prog.info? 49).map (·.size) = some (KLn.cs x).toArray.size := by
 rw [List.size_toArray, show (KLn.cs x).length = 19 from LnA.len h]
 obtain ⟨i, hi, _, hs, _⟩ := info_parts infoLn
 rw [hi]
 exact congrArg some hs
theorem ln_ones (x : LnA) : (KLn.cs x).toArray.all (·.oneCell') = true := by
 rw [Array.all_eq_true_iff_forall_mem]
 intro u hu
 exact LnA.one x u (List.mem_toArray.1 hu)
theorem lnA0_size : (KLn.cs lnA0).toArray.size = 19 := by decide
end
section
open Go.RowKit WM
set_option maxRecDepth 100000
theorem MnA.one (x : MnA) (u : Value) (hu : u ∈ x.cs) : u.oneCell' = true := by
 unfold MnA.cs at hu
 rcases List.mem_append.1 hu with h | h
 ·exact byte_ones _ _ h
 ·rw [List.mem_singleton] at h
  rw [h]
  rfl
def KMn : Kind MnA := { n := 33, pos := by decide, cs := MnA.cs, d := mnA0, ok := fun w x => x.Ok w, len := fun h => MnA.len h, one := MnA.one, below := fun h hb => MnA.below h hb }
theorem load_mn {w : World} {b : Nat} {m : MnA} (h : MnAt w b m) (hx : m.Ok w) : (loadVar 26 ⟨b, 0, none⟩).run Tryd.prog w = .ok m.v w :=
 Kind.at_load (K := KMn) (Kind.at_blk (K := KMn) (t := 26) h) (MnA.len hx) Tryd.underlying26 rfl (by obtain ⟨i, hi, _, hs, _⟩ := info_parts infoMn; rw [hi]; exact congrArg some hs)
theorem en_size {x : EnA} {w : World} (h : x.Ok w) : (Tryd.prog.info? 52).map (·.size) = some (KEn.cs x).toArray.size := by
 rw [List.size_toArray, show (KEn.cs x).length = 37 from EnA.len h]
 obtain ⟨i, hi, _, hs, _⟩ := info_parts infoEn
 rw [hi]
 exact congrArg some hs
theorem en_ones (x : EnA) : (KEn.cs x).toArray.all (·.oneCell') = true := by
 rw [Array.all_eq_true_iff_forall_mem]
 intro u hu
 exact EnA.one x u (List.mem_toArray.1 hu)
theorem enA0_size : (KEn.cs enA0).toArray.size = 37 := by decide
end
section
open Go.RowKit WM
set_option maxRecDepth 100000
def Tag (t : TypeId) (w : World) (A : Option Addr) : Prop := ∀ p, A = some p → ∃ cur, w.heap[p.block]? = some (.cells cur t)
def NoT (ts : List TypeId) (w : World) (row : Option Nat) : Prop := ∀ g, row = some g → ∀ t ∈ ts, ∀ c, w.heap[g]? ≠ some (.cells c t)
theorem NoT.of {ts : List TypeId} {w : World} {g : Nat} {cur : Array Value} {t : TypeId} (h : w.heap[g]? = some (.cells cur t)) (ht : t ∉ ts) : NoT ts w (some g) := fun g' e t' ht' c hc => by
 obtain rfl := Option.some.inj e
 rw [h] at hc
 simp only [Option.some.injEq, Obj.cells.injEq] at hc
 exact ht (hc.2.1 ▸ ht')
theorem NoT.own {ts : List TypeId} {w : World} {base size n : Nat} {t : TypeId} {v : Value} {xs : List Value} (h : w.ownsRow base t size v n xs) (ht : t ∉ ts) : NoT ts w v.ownBlock := by
 rcases h.2 with ⟨rfl, _⟩ | ⟨g, cap, cur, rfl, _, hg, _⟩
 ·exact fun g e => by simp [Value.ownBlock] at e
 ·exact NoT.of hg ht
theorem NoT.sub {ts us : List TypeId} {w : World} {row : Option Nat} (h : NoT ts w row) (hu : ∀ t ∈ us, t ∈ ts) : NoT us w row := fun g e t ht => h g e t (hu t ht)
theorem Tag.below {t : TypeId} {w w' : World} {A : Option Addr} (h : Tag t w A) (hb : Below w.heap.size w w') : Tag t w' A := fun p e => by
 obtain ⟨cur, hc⟩ := h p e
 exact ⟨cur, (hb.block _ (Array.getElem?_eq_some_iff.1 hc).1).trans hc⟩
theorem Tag.kept {t : TypeId} {w w' : World} {A : Option Addr} {row : Option Nat} (h : Tag t w A) (hg : w.grownBy w' row) (hr : NoT [t] w row) : Tag t w' A := fun p e => by
 obtain ⟨cur, hc⟩ := h p e
 exact ⟨cur, (hg.block _ (Array.getElem?_eq_some_iff.1 hc).1 (fun e2 => hr _ e2.symm t (List.mem_singleton.2 rfl) cur hc)).trans hc⟩
theorem Tag.own {w : World} {base n c size : Nat} {t : TypeId} {A : Option Addr} {xs : List Value} (h : w.ownsRow base t size (.slice A n c) n xs) : Tag t w A := by
 intro p e
 rcases h.2 with ⟨h1, _⟩ | ⟨g, cap, cur, h1, _, hg, _⟩
 ·simp only [Value.slice.injEq] at h1
  rw [h1.1] at e; cases e
 ·simp only [Value.slice.injEq] at h1
  rw [h1.1] at e
  cases e
  exact ⟨cur, hg⟩
theorem Kind.row_kept {α : Type} {K : Kind α} {t : TypeId} {w w' : World} {A : Option Addr} {c : Nat} {xs : List α} {row : Option Nat} (h : K.row w A c xs) (ht : Tag t w A) (hg : w.grownBy w' row) (hr : NoT [t] w row) (hk : ∀ x ∈ xs, K.ok w' x) : K.row w' A c xs := by
 obtain ⟨h1, h2, h3, h4, h5⟩ := h
 refine ⟨h1, h2, h3, fun h0 => ?_, hk⟩
 obtain ⟨b, off, hA, hb, hc⟩ := h4 h0
 obtain ⟨cur, hcur⟩ := ht _ hA
 have hs := hg.block b hb (fun e2 => hr _ e2.symm t (List.mem_singleton.2 rfl) cur hcur)
 exact ⟨b, off, hA, Nat.lt_of_lt_of_le hb hg.size, fun i hi => Kind.at_same (hc i hi) hs⟩
structure TKind (α : Type) where
 K : Kind α
 tag : World → α → Prop
 ts : List TypeId
 below : ∀ {w w' : World} {x : α}, tag w x → Below w.heap.size w w' → tag w' x
 kept : ∀ {w w' : World} {x : α} {row : Option Nat}, K.ok w x → tag w x → w.grownBy w' row → NoT ts w row → K.ok w' x ∧ tag w' x
theorem KSig_kept {w w' : World} {A : Option Addr} {c : Nat} {xs : List Sg} {row : Option Nat} (h : KSig.row w A c xs) (ht : Tag 107 w A) (hg : w.grownBy w' row) (hr : NoT [107] w row) : KSig.row w' A c xs := Kind.row_kept h ht hg hr h.2.2.2.2
theorem EnA.kept {w w' : World} {x : EnA} {row : Option Nat} (h : x.Ok w) (ht : Tag 107 w x.A) (hg : w.grownBy w' row) (hr : NoT [107] w row) : x.Ok w' ∧ Tag 107 w' x.A :=
 ⟨⟨h.1, h.2.1, h.2.2.1, h.2.2.2.1, h.2.2.2.2.1, h.2.2.2.2.2.1, KSig_kept h.2.2.2.2.2.2 ht hg hr⟩, ht.kept hg hr⟩
def TEn : TKind EnA := { K := KEn, tag := fun w x => Tag 107 w x.A, ts := [107], below := fun h hb => Tag.below h hb, kept := fun h ht hg hr => EnA.kept h ht hg hr }
def LnA.T (w : World) (x : LnA) : Prop := Tag 52 w x.A ∧ ∀ e ∈ x.es, Tag 107 w e.A
theorem LnA.kept {w w' : World} {x : LnA} {row : Option Nat} (h : x.Ok w) (ht : x.T w) (hg : w.grownBy w' row) (hr : NoT [107, 52] w row) : x.Ok w' ∧ x.T w' := by
 have h1 : NoT [107] w row := hr.sub fun t ht => by rw [List.mem_singleton.1 ht]; exact List.mem_cons_self
 have h2 : NoT [52] w row := hr.sub fun t ht => by rw [List.mem_singleton.1 ht]; exact List.mem_cons_of_mem _ List.mem_cons_self
 have key : ∀ e ∈ x.es, e.Ok w' ∧ Tag 107 w' e.A := fun e he => EnA.kept (h.2.2.2.2.2.2.2.2 e he) (ht.2 e he) hg h1
 exact ⟨⟨h.1, h.2.1, h.2.2.1, h.2.2.2.1, Kind.row_kept h.2.2.2.2 ht.1 hg h2 fun e he => (key e he).1⟩, ht.1.kept hg h2, fun e he => (key e he).2⟩
theorem LnA.T_below {w w' : World} {x : LnA} (h : x.T w) (hb : Below w.heap.size w w') : x.T w' := ⟨h.1.below hb, fun e he => (h.2 e he).below hb⟩
def TLn : TKind LnA := { K := KLn, tag := fun w x => x.T w, ts := [107, 52], below := fun h hb => LnA.T_below h hb, kept := fun h ht hg hr => LnA.kept h ht hg hr }
structure RJ {α : Type} (T : TKind α) (te tc : TypeId) (bl base : Nat) (pre : List Value) (v : Value) (xs : List α) (W : World) : Prop where
 blk : W.heap[bl]? = some (.cells (pre ++ [v]).toArray tc)
 own : W.ownsRow base te T.K.n v xs.length (xs.flatMap T.K.cs)
 ok : ∀ x ∈ xs, T.K.ok W x ∧ T.tag W x
 lt : bl < base
 le : base ≤ W.heap.size
section
variable {α : Type} {T : TKind α} {te tc : TypeId} {bl base : Nat} {pre : List Value} {v v' : Value} {xs : List α} {y : α} {W W' : World}
theorem RJ.below (h : RJ T te tc bl base pre v xs W) (hb : Below W.heap.size W W') : RJ T te tc bl base pre v xs W' :=
 ⟨(hb.block _ (Array.getElem?_eq_some_iff.1 h.blk).1).trans h.blk, own_below h.own hb, fun x hx => ⟨T.K.below (h.ok x hx).1 hb, T.below (h.ok x hx).2 hb⟩, h.lt, Nat.le_trans h.le hb.size⟩
theorem RJ.alloc (h : RJ T te tc bl base pre v xs W) (o : Obj) : RJ T te tc bl base pre v xs (W.alloc o) := h.below ((Below.refl _ _).alloc (Nat.le_refl _) o)
theorem RJ.drew (h : RJ T te tc bl base pre v xs W) : RJ T te tc bl base pre v xs W.drew := h.below ((Below.refl _ _).drew)
theorem RJ.cell (h : RJ T te tc bl base pre v xs W) {p : Nat} (hp : p = pre.length) : W.cell? ⟨bl, p, none⟩ = some v := by
 subst hp
 rw [cell_of_row _ _ _ _ _ _ h.blk, List.getElem?_toArray, List.getElem?_append_right (Nat.le_refl _), Nat.sub_self]
 rfl
structure RM {α : Type} (T : TKind α) (te tc : TypeId) (bl base : Nat) (pre : List Value) (v v' : Value) (xs : List α) (W : World) : Prop where
 blk : W.heap[bl]? = some (.cells (pre ++ [v]).toArray tc)
 own : W.ownsRow base te T.K.n v' xs.length (xs.flatMap T.K.cs)
 ok : ∀ x ∈ xs, T.K.ok W x ∧ T.tag W x
 lt : bl < base
 le : base ≤ W.heap.size
theorem RJ.grown (h : RJ T te tc bl base pre v xs W) (hy : T.K.ok W y ∧ T.tag W y) (hO : W'.ownsRow base te T.K.n v' (xs.length + 1) ((xs ++ [y]).flatMap T.K.cs)) (hG : W.grownBy W' v.ownBlock) (he : te ∉ T.ts) : RM T te tc bl base pre v v' (xs ++ [y]) W' := by
 refine ⟨(hG.block _ (Array.getElem?_eq_some_iff.1 h.blk).1 (fun e => ?_)).trans h.blk, by rw [List.length_append]; exact hO, fun x hx => ?_, h.lt, Nat.le_trans h.le hG.size⟩
 ·have := own_base h.own e.symm
  have := h.lt
  omega
 ·rcases List.mem_append.1 hx with hx | hx
  ·exact T.kept (h.ok x hx).1 (h.ok x hx).2 hG (NoT.own h.own he)
  ·rw [List.mem_singleton.1 hx]
   exact T.kept hy.1 hy.2 hG (NoT.own h.own he)
theorem RM.cell (h : RM T te tc bl base pre v v' xs W) {p : Nat} (hp : p = pre.length) : W.cell? ⟨bl, p, none⟩ = some v := by
 subst hp
 rw [cell_of_row _ _ _ _ _ _ h.blk, List.getElem?_toArray, List.getElem?_append_right (Nat.le_refl _), Nat.sub_self]
 rfl
theorem RM.fz (h : RM T te tc bl base pre v v' xs W) (j : Nat) : W.frozen? ⟨bl, j, none⟩ = false := frozen_of_row _ _ _ _ _ h.blk
theorem grownBy_setCell9 (W : World) (b j : Nat) (u : Value) : W.grownBy (W.setCell ⟨b, j, none⟩ u) (some b) :=
 ⟨by simp [World.setCell], by simp [World.setCell], by simp [World.setCell], by simp, fun k _ hk => Below.heap_setCell _ _ _ _ (fun e => hk (by rw [e]))⟩
theorem RM.store (h : RM T te tc bl base pre v v' xs W) (hc : tc ∉ T.ts) {p : Nat} (hp : p = pre.length) : RJ T te tc bl base pre v' xs (W.setCell ⟨bl, p, none⟩ v') := by
 subst hp
 have hg := grownBy_setCell9 W bl pre.length v'
 refine ⟨?_, h.own.kept hg ?_, fun x hx => T.kept (h.ok x hx).1 (h.ok x hx).2 hg (NoT.of h.blk hc), h.lt, Nat.le_trans h.le hg.size⟩
 ·rw [heap_setCell_same _ _ _ _ _ _ h.blk]
  congr 2
  simp
 ·cases ho : v'.ownBlock with
  | none => exact .inl rfl
  | some g =>
   refine .inr fun e => ?_
   have := own_base h.own ho
   have := h.lt
   have := Option.some.inj e
   omega
theorem RJ.other {q : Nat} {c : Array Value} {t : TypeId} (h : RJ T te tc bl base pre v xs W) (hq : W.heap[q]? = some (.cells c t)) (ht : t ≠ te) (hG : W.grownBy W' v.ownBlock) : W'.heap[q]? = some (.cells c t) := by
 refine (hG.block _ (Array.getElem?_eq_some_iff.1 hq).1 (fun e => ?_)).trans hq
 rcases h.own.2 with ⟨rfl, _⟩ | ⟨g, cap, cur, rfl, _, hg, _⟩
 ·simp [Value.ownBlock] at e
 ·obtain rfl : q = g := by simpa [Value.ownBlock] using e
  rw [hq] at hg
  simp only [Option.some.injEq, Obj.cells.injEq] at hg
  exact ht hg.2.1
theorem RM.other {q : Nat} {c : Array Value} {t : TypeId} (h : RM T te tc bl base pre v v' xs W) {p : Nat} (hq : W.heap[q]? = some (.cells c t)) (hne : q ≠ bl) : (W.setCell ⟨bl, p, none⟩ v').heap[q]? = some (.cells c t) := (Below.heap_setCell _ _ _ _ hne).trans hq
end
def enC (no n r len : Int) (ds : List Int) (A : Option Addr) (m c : Nat) : List Value := .int .i64 no :: .int .i64 n :: .int .i64 r :: .int .i64 len :: (ds.map (Value.int .u8) ++ [.slice A m c])
def lnP (z : List Int) (n r : Int) : List Value := z.map (Value.int .u8) ++ [.int .i64 n, .int .i64 r]
def mnP (z : List Int) : List Value := z.map (Value.int .u8)
theorem lnP_len {z : List Int} (h : z.length = 16) (n r : Int) : 18 = (lnP z n r).length := by simp [lnP, h]
theorem mnP_len {z : List Int} (h : z.length = 32) : 32 = (mnP z).length := by simp [mnP, h]
theorem ln_cs (x : LnA) : KLn.cs x = lnP x.z x.n x.r ++ [.slice x.A x.es.length x.c] := by
 show x.z.map (Value.int .u8) ++ [.int .i64 x.n, .int .i64 x.r, .slice x.A x.es.length x.c] = _
 unfold lnP
 rw [List.append_assoc]
 rfl
theorem built_en {ds : List Int} (h : ds.length = 32) (no n r len : Int) (A : Option Addr) (m c : Nat) : Tryd.prog.built 52 [(0, .int .i64 no), (1, .agg #[.int .i64 n, .int .i64 r]), (2, .int .i64 len), (3, .agg (bvals ds)), (4, .slice A m c)] = some (enC no n r len ds A m c).toArray := by
 obtain ⟨a0, a1, a2, a3, a4, a5, a6, a7, a8, a9, a10, a11, a12, a13, a14, a15, a16, a17, a18, a19, a20, a21, a22, a23, a24, a25, a26, a27, a28, a29, a30, a31, rfl⟩ := list32 h
 kernel_rfl
theorem build_en {x : EnA} (h : x.e.ds.length = 32) (w : World) : (Instr.build 52 #[(0, .int .i64 x.e.no), (1, .agg #[.int .i64 x.e.n, .int .i64 x.e.r]), (2, .int .i64 x.e.len), (3, .agg (bvals x.e.ds)), (4, .slice x.A x.e.bs.length x.c)]).run Tryd.prog w = .ok (.agg (KEn.cs x).toArray) w := run_build w _ _ _ (built_en h _ _ _ _ _ _ _)
theorem built_ln {z : List Int} (h : z.length = 16) (n r : Int) : Tryd.prog.built 49 [(0, .agg (bvals z)), (1, .agg #[.int .i64 n, .int .i64 r])] = some (lnP z n r ++ [Value.slice none 0 0]).toArray := by
 obtain ⟨a, b, c, d, e, f, g, i, j, k, l, m, n', o, p, q, rfl⟩ := list16 h
 kernel_rfl
theorem build_ln {z : List Int} (h : z.length = 16) (n r : Int) (w : World) : (Instr.build 49 #[(0, .agg (bvals z)), (1, .agg #[.int .i64 n, .int .i64 r])]).run Tryd.prog w = .ok (.agg (lnP z n r ++ [Value.slice none 0 0]).toArray) w := run_build w _ _ _ (built_ln h n r)
theorem built_mn {z : List Int} (h : z.length = 32) : Tryd.prog.built 26 [(0, .agg (bvals z))] = some (mnP z ++ [Value.slice none 0 0]).toArray := by
 obtain ⟨a0, a1, a2, a3, a4, a5, a6, a7, a8, a9, a10, a11, a12, a13, a14, a15, a16, a17, a18, a19, a20, a21, a22, a23, a24, a25, a26, a27, a28, a29, a30, a31, rfl⟩ := list32 h
 kernel_rfl
theorem build_mn {z : List Int} (h : z.length = 32) (w : World) : (Instr.build 26 #[(0, .agg (bvals z))]).run Tryd.prog w = .ok (.agg (mnP z ++ [Value.slice none 0 0]).toArray) w := run_build w _ _ _ (built_mn h)
theorem size_pre {t : TypeId} {pre : List Value} {n : Nat} {v : Value} (h : (Tryd.prog.info? t).map (·.size) = some (n + 1)) (hp : n = pre.length) : (Tryd.prog.info? t).map (·.size) = some (pre ++ [v]).toArray.size := by
 rw [h, List.size_toArray, List.length_append, hp]
 rfl
theorem lnP_one (z : List Int) (n r : Int) {v : Value} (hv : v.oneCell' = true) : (lnP z n r ++ [v]).toArray.all (·.oneCell') = true := by
 rw [Array.all_eq_true_iff_forall_mem]
 intro u hu
 simp only [lnP, List.mem_toArray, List.mem_append, List.mem_cons, List.not_mem_nil, or_false] at hu
 rcases hu with (hu | rfl | rfl) | rfl
 ·exact byte_ones _ u hu
 ·rfl
 ·rfl
 ·exact hv
theorem mnP_one (z : List Int) {v : Value} (hv : v.oneCell' = true) : (mnP z ++ [v]).toArray.all (·.oneCell') = true := by
 rw [Array.all_eq_true_iff_forall_mem]
 intro u hu
 simp only [mnP, List.mem_toArray, List.mem_append, List.mem_cons, List.not_mem_nil, or_false] at hu
 rcases hu with hu | rfl
 ·exact byte_ones _ u hu
 ·exact hv
structure Fr (bl : Nat) (W0 : World) (bf : Nat) (C : Array Value) (t : TypeId) (X : World) : Prop where
 b : Below bl W0 X
 o : X.heap[bf]? = some (.cells C t)
theorem Fr.below {bl bf : Nat} {W0 X Y : World} {C : Array Value} {t : TypeId} (h : Fr bl W0 bf C t X) (hbl : bl ≤ W0.heap.size) (hb : Below X.heap.size X Y) : Fr bl W0 bf C t Y :=
 ⟨h.b.trans (hb.mono (Nat.le_trans hbl h.b.size)), (hb.block _ (Array.getElem?_eq_some_iff.1 h.o).1).trans h.o⟩
section
variable {α : Type} {T : TKind α} {te tc t : TypeId} {bl base bf p : Nat} {pre : List Value} {v v' : Value} {xs : List α} {W0 X Y : World} {C : Array Value}
theorem RJ.fr (J : RJ T te tc bl base pre v xs X) (h : Fr bl W0 bf C t X) (ht : t ≠ te) (hG : X.grownBy Y v.ownBlock) : Fr bl W0 bf C t Y :=
 ⟨h.b.grown hG (Nat.le_of_lt (Nat.lt_of_lt_of_le J.lt J.le)) (fun g hg => by have := own_base J.own hg; have := J.lt; omega), J.other h.o ht hG⟩
theorem RM.fr (M : RM T te tc bl base pre v v' xs X) (h : Fr bl W0 bf C t X) (hne : bf ≠ bl) : Fr bl W0 bf C t (X.setCell ⟨bl, p, none⟩ v') := ⟨h.b.setCell (Nat.le_refl _) _, M.other h.o hne⟩
end
end
section
open Go.RowKit WM
set_option maxRecDepth 100000
def TSg : TKind Sg := { K := KSig, tag := fun _ _ => True, ts := [], below := fun _ _ => trivial, kept := fun h _ _ _ => ⟨h, trivial⟩ }
def MRdK {α β : Type} (T : TKind α) (cv : α → β) (w : World) (q : Nat) (x : β × MS) (e : Ending) (w' : World) : Prop := ∃ y, e = .returned (T.K.v y) ∧ cv y = x.1 ∧ T.K.ok w' y ∧ T.tag w' y ∧ MRd w' q x.2 ∧ w.grownBy w' (some q)
structure RQ {α : Type} (T : TKind α) (te tc : TypeId) (bl : Nat) (pre : List Value) (w : World) (q : Nat) (CR : Array Value) (TR : TypeId) (s : MS) (v u : Value) (xs : List α) (X : World) : Prop where
 rd : MRd X q s
 res : X.heap[w.heap.size]? = some (.cells CR TR)
 blk : X.heap[bl]? = some (.cells (pre ++ [v]).toArray tc)
 own : X.ownsRow (bl + 1) te T.K.n u xs.length (xs.flatMap T.K.cs)
 ok : ∀ x ∈ xs, T.K.ok X x ∧ T.tag X x
 grown : w.grownBy X (some q)
 qlt : q < w.heap.size
 blt : w.heap.size < bl
section
variable {α : Type} {T : TKind α} {te tc : TypeId} {bl : Nat} {pre : List Value} {w X Y : World} {q : Nat} {CR : Array Value} {TR : TypeId} {s t : MS} {v u v' : Value} {xs : List α} {y : α}
theorem MRd.noT {ts : List TypeId} (h : MRd X q s) (ht : 65 ∉ ts) : NoT ts X (some q) := by
 obtain ⟨A, len, cap, h, _⟩ := h
 exact NoT.of h ht
theorem RQ.lt (h : RQ T te tc bl pre w q CR TR s v u xs X) : bl < X.heap.size := (Array.getElem?_eq_some_iff.1 h.blk).1
theorem RQ.below (h : RQ T te tc bl pre w q CR TR s v u xs X) (hb : Below X.heap.size X Y) : RQ T te tc bl pre w q CR TR s v u xs Y :=
 ⟨h.rd.kept (row := none) (mrd_below hb (Nat.le_refl _)) (fun k e => by cases e), (hb.block _ (Array.getElem?_eq_some_iff.1 h.res).1).trans h.res, (hb.block _ h.lt).trans h.blk, own_below h.own hb, fun x hx => ⟨T.K.below (h.ok x hx).1 hb, T.below (h.ok x hx).2 hb⟩, mrd_trans h.grown (mrd_below hb (Nat.le_refl _)), h.qlt, h.blt⟩
theorem RQ.alloc (h : RQ T te tc bl pre w q CR TR s v u xs X) (o : Obj) : RQ T te tc bl pre w q CR TR s v u xs (X.alloc o) := h.below ((Below.refl _ _).alloc (Nat.le_refl _) o)
theorem RQ.drew (h : RQ T te tc bl pre w q CR TR s v u xs X) : RQ T te tc bl pre w q CR TR s v u xs X.drew := h.below ((Below.refl _ _).drew)
theorem RQ.call (h : RQ T te tc bl pre w q CR TR s v u xs X) (hr : MRd Y q t) (hg : X.grownBy Y (some q)) (ht : 65 ∉ T.ts) : RQ T te tc bl pre w q CR TR t v u xs Y := by
 have hq := h.qlt
 have hb := h.blt
 refine ⟨hr, (hg.block _ (Array.getElem?_eq_some_iff.1 h.res).1 (fun e => by have := Option.some.inj e; omega)).trans h.res, (hg.block _ h.lt (fun e => by have := Option.some.inj e; omega)).trans h.blk, h.own.kept hg ?_, fun x hx => T.kept (h.ok x hx).1 (h.ok x hx).2 hg (h.rd.noT ht), mrd_trans h.grown hg, hq, hb⟩
 cases ho : u.ownBlock with
 | none => exact .inl rfl
 | some g => exact .inr fun e => by have := own_base h.own ho; have := Option.some.inj e; omega
theorem RQ.app (h : RQ T te tc bl pre w q CR TR s v v xs X) (hy : T.K.ok X y ∧ T.tag X y) (hO : Y.ownsRow (bl + 1) te T.K.n u (xs.length + 1) ((xs ++ [y]).flatMap T.K.cs)) (hG : X.grownBy Y v.ownBlock) (he : te ∉ T.ts) : RQ T te tc bl pre w q CR TR s v u (xs ++ [y]) Y := by
 have hq := h.qlt
 have hb := h.blt
 have hne : ∀ k, k ≤ bl → some k ≠ v.ownBlock := fun k hk e => by have := own_base h.own e.symm; omega
 refine ⟨h.rd.kept hG (fun k e => by have := own_base h.own e; omega), (hG.block _ (Array.getElem?_eq_some_iff.1 h.res).1 (hne _ (by omega))).trans h.res, (hG.block _ h.lt (hne _ (Nat.le_refl _))).trans h.blk, by rw [List.length_append]; exact hO, fun x hx => ?_, mrd_new h.grown hG (fun g e => by have := own_base h.own e; omega), hq, hb⟩
 rcases List.mem_append.1 hx with hx | hx
 ·exact T.kept (h.ok x hx).1 (h.ok x hx).2 hG (NoT.own h.own he)
 ·rw [List.mem_singleton.1 hx]
  exact T.kept hy.1 hy.2 hG (NoT.own h.own he)
theorem RQ.cell (h : RQ T te tc bl pre w q CR TR s v u xs X) {p : Nat} (hp : p = pre.length) : X.cell? ⟨bl, p, none⟩ = some v := by
 subst hp
 rw [cell_of_row _ _ _ _ _ _ h.blk, List.getElem?_toArray, List.getElem?_append_right (Nat.le_refl _), Nat.sub_self]
 rfl
theorem RQ.fz (h : RQ T te tc bl pre w q CR TR s v u xs X) (j : Nat) : X.frozen? ⟨bl, j, none⟩ = false := frozen_of_row _ _ _ _ _ h.blk
theorem RQ.store (h : RQ T te tc bl pre w q CR TR s v u xs X) (hc : tc ∉ T.ts) {p : Nat} (hp : p = pre.length) : RQ T te tc bl pre w q CR TR s u u xs (X.setCell ⟨bl, p, none⟩ u) := by
 subst hp
 have hq := h.qlt
 have hb := h.blt
 have hg := grownBy_setCell9 X bl pre.length u
 refine ⟨h.rd.kept hg (fun k e => by have := Option.some.inj e; omega), (hg.block _ (Array.getElem?_eq_some_iff.1 h.res).1 (fun e => by have := Option.some.inj e; omega)).trans h.res, ?_, h.own.kept hg ?_, fun x hx => T.kept (h.ok x hx).1 (h.ok x hx).2 hg (NoT.of h.blk hc), mrd_new h.grown hg (fun g e => by have := Option.some.inj e; omega), hq, hb⟩
 ·rw [heap_setCell_same _ _ _ _ _ _ h.blk]
  congr 2
  simp
 ·cases ho : u.ownBlock with
  | none => exact .inl rfl
  | some g => exact .inr fun e => by have := own_base h.own ho; have := Option.some.inj e; omega
end
theorem wf_smallM {n : Int} (h0 : -9223372036854775808 ≤ n) (h1 : n ≤ 9223372036854775807) : (Lit.int .i64 n).wf = true := by simp [Lit.wf, IntKind.min, IntKind.max, IntKind.bits, IntKind.signed]; omega
theorem mrep_stepM {β : Type} {f : MS → β × MS} {n k : Nat} (h : k < n) (s : MS) (l : List β) : mrep f (n - k) s l = mrep f (n - (k + 1)) (f s).2 (l ++ [(f s).1]) := by
 rw [show n - k = (n - (k + 1)) + 1 by omega]
 rfl
theorem blocksM_any (n : Int) (w : World) (h0 : 0 ≤ n) (h1 : n ≤ 200) : Calls Tryd.prog 70 #[.int .i64 n] w fun e w' => e = .returned (.int .i64 (nblk n : Int)) ∧ w = w' := by
 by_cases h : n < 24
 ·rw [show (nblk n : Int) = 0 by unfold nblk; rw [if_pos h]; rfl]
  go_enter Tryd.func70, Tryd.ntmps70
  go_wp2
  go_ret
  exact ⟨rfl, rfl⟩
 ·rw [show (nblk n : Int) = n / 8 by unfold nblk; rw [if_neg h]; omega]
  have hq : Int.tdiv n 8 = n / 8 := Int.tdiv_eq_ediv_of_nonneg (by omega)
  have hw9 : IntKind.i64.wrap (n / 8) = n / 8 := IntWalk.i64_in _ (by omega)
  go_enter Tryd.func70, Tryd.ntmps70
  go_wp2
  go_ret
  exact ⟨rfl, rfl⟩
end
end Go.Proofs.YtkjimhlpbgeagaaDoor
