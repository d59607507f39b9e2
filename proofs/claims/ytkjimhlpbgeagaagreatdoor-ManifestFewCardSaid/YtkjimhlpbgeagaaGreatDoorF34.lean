import Derived.Test.YtkjimhlpbgeagaaGreatDoorF0
import Derived.Test.YtkjimhlpbgeagaaGreatDoorF13
import Derived.Test.YtkjimhlpbgeagaaGreatDoorF33
import Derived.Lib.SmallJoins
import Derived.Test.YtkjimhlpbgeagaaGreatDoorF2
import Derived.Test.YtkjimhlpbgeagaaGreatDoorF11
import Derived.Test.YtkjimhlpbgeagaaGreatDoorF24
/-
  What the functions that a law of this layer reaches answer, part 34. Nothing that was there is written.
-/
namespace Go.Proofs.YtkjimhlpbgeagaaGreatDoor
set_option linter.unusedVariables false
set_option linter.unusedSimpArgs false
section
open Go.ChangeShapes Go.WideShapes Go.ChangeAt Go.RowKit Go.Deep WM
set_option maxRecDepth 40000
section
variable {H : Type} {enc : TypeId × Value → H} {W : World}
theorem trod_struct5 {P : Program} {base : Nat} {spare : Nat → Bool} {held : Bool} {t : TypeId} {f0 f1 f2 f3 f4 : Field} {fuel : Nat} {cs : List Value} {x : DataW H × List MemPlace} (ht : P.underlying t = some (.struct #[f0, f1, f2, f3, f4])) (h : DataW.trod enc P W base spare held fuel t cs = some x) :
  ∃ y0 y1 y2 y3 y4 n, DataW.trod enc P W base spare held n f0.type ((cs.drop f0.offset).take (P.cellsOf f0.type)) = some y0 ∧
   DataW.trod enc P W base spare held n f1.type ((cs.drop f1.offset).take (P.cellsOf f1.type)) = some y1 ∧ DataW.trod enc P W base spare held n f2.type ((cs.drop f2.offset).take (P.cellsOf f2.type)) = some y2 ∧
   DataW.trod enc P W base spare held n f3.type ((cs.drop f3.offset).take (P.cellsOf f3.type)) = some y3 ∧ DataW.trod enc P W base spare held n f4.type ((cs.drop f4.offset).take (P.cellsOf f4.type)) = some y4 := by
 obtain ⟨xs, n, _, rfl, hl, hlen, hf⟩ := DataW.trod_struct ht h
 match xs, hlen with
 | [y0, y1, y2, y3, y4], _ => exact ⟨y0, y1, y2, y3, y4, n, by simpa using hf 0 f0 rfl, by simpa using hf 1 f1 rfl, by simpa using hf 2 f2 rfl, by simpa using hf 3 f3 rfl, by simpa using hf 4 f4 rfl⟩
theorem row_trod {α : Type} (K : Kind α) {ts te : TypeId} (ht : Tryz.prog.underlying ts = some (.slice te)) (hk : Tryz.prog.cellsOf te = K.n)
  (hel : ∀ {fuel : Nat} {l : List Value} {x : DataW H × List MemPlace}, l.length = K.n → DataW.trod enc Tryz.prog W 0 (fun _ => true) true fuel te l = some x → ∃ e : α, l = K.cs e ∧ K.ok W e)
  {fuel : Nat} {cs : List Value} {x : DataW H × List MemPlace} (h : DataW.trod enc Tryz.prog W 0 (fun _ => true) true fuel ts cs = some x) : ∃ (xs : List α) (A : Option Addr) (c : Nat), cs = [.slice A xs.length c] ∧ K.row W A c xs := by
 obtain ⟨A, len, c, rfl⟩ := Joins.slice_form ht h
 obtain ⟨xs, rfl, hr⟩ := open_rowK K ht hk hel h
 exact ⟨xs, A, c, rfl, hr⟩
theorem split_at {l : List Value} {k n : Nat} (h : l.length = k + n) : l = l.take k ++ l.drop k ∧ (l.take k).length = k ∧ (l.drop k).length = n := ⟨(List.take_append_drop k l).symm, by rw [List.length_take]; omega, by rw [List.length_drop]; omega⟩
theorem en_trod {fuel : Nat} {l : List Value} {x : DataW H × List MemPlace} (hl : l.length = 37) (hf : DataW.trod enc Tryz.prog W 0 (fun _ => true) true fuel 46 l = some x) : ∃ e : EnA, l = KEn.cs e ∧ KEn.ok W e := by
 have k1 : Tryz.prog.cellsOf 3 = 1 := by kernel_rfl
 have k2 : Tryz.prog.cellsOf 32 = 2 := by kernel_rfl
 have k32 : Tryz.prog.cellsOf 23 = 32 := by kernel_rfl
 have ks : Tryz.prog.cellsOf 44 = 1 := by kernel_rfl
 obtain ⟨y0, y1, y2, y3, y4, m, h0, h1, h2, h3, h4⟩ := trod_struct5 Tryz.underlying46 hf
 dsimp only at h0 h1 h2 h3 h4
 rw [k1] at h0 h2
 rw [k2] at h1
 rw [k32] at h3
 rw [ks] at h4
 match l, hl with
 | c0 :: c1 :: c2 :: c3 :: cs, hl =>
  obtain ⟨e1, e2, e3⟩ := split_at (l := cs) (k := 32) (n := 1) (by simpa using hl)
  simp only [List.drop_succ_cons, List.drop_zero, List.take_succ_cons, List.take_zero] at h0 h1 h2 h3 h4
  rw [List.take_of_length_le (by rw [e3]; exact Nat.le_refl _)] at h4
  obtain ⟨n0, q0, _, w0⟩ := DataW.trod_int Tryz.underlying3 h0
  obtain ⟨n1, n2, rfl, rfl, w1, w2⟩ := st_trod h1
  obtain ⟨n3, q3, _, w3⟩ := DataW.trod_int Tryz.underlying3 h2
  simp at q0 q3
  subst q0 q3
  obtain ⟨z, hz, hz32, hb⟩ := bytes_trod Tryz.underlying23 Tryz.underlying5 (by kernel_rfl) k32 h3
  obtain ⟨bs, A, c, hs, hr⟩ := row_trod KSig Tryz.underlying44 (by kernel_rfl) (fun hl hf => sig_trod hl hf) h4
  refine ⟨⟨⟨n0, n1, n2, n3, z, bs⟩, A, c⟩, ?_, w0, w1, w2, w3, hz32, hb, hr⟩
  rw [e1, hz, hs]
  rfl
theorem ln_trod {fuel : Nat} {l : List Value} {x : DataW H × List MemPlace} (hl : l.length = 19) (hf : DataW.trod enc Tryz.prog W 0 (fun _ => true) true fuel 35 l = some x) : ∃ e : LnA, l = KLn.cs e ∧ KLn.ok W e := by
 have k16 : Tryz.prog.cellsOf 30 = 16 := by kernel_rfl
 have k2 : Tryz.prog.cellsOf 32 = 2 := by kernel_rfl
 have ks : Tryz.prog.cellsOf 33 = 1 := by kernel_rfl
 obtain ⟨y0, y1, y2, m, _, _, h0, h1, h2⟩ := trod_struct3 Tryz.underlying35 hf
 dsimp only at h0 h1 h2
 rw [k16, List.drop_zero] at h0
 rw [k2] at h1
 rw [ks] at h2
 obtain ⟨e1, e2, e3⟩ := split_at (l := l) (k := 16) (n := 3) hl
 have e4 : l.drop 18 = (l.drop 16).drop 2 := by rw [List.drop_drop]
 rw [e4] at h2
 generalize l.drop 16 = t at *
 match t, e3 with
 | [c0, c1, c2], _ =>
  simp only [List.drop_succ_cons, List.drop_zero, List.take_succ_cons, List.take_zero] at h1 h2
  obtain ⟨z, hz, hz16, hb⟩ := id_trod h0
  obtain ⟨n1, n2, rfl, rfl, w1, w2⟩ := st_trod h1
  obtain ⟨es, A, c, hs, hr⟩ := row_trod KEn Tryz.underlying33 (by kernel_rfl) (fun hl hf => en_trod hl hf) h2
  refine ⟨⟨z, n1, n2, A, c, es⟩, ?_, hz16, hb, w1, w2, hr⟩
  rw [e1, hz]
  simp at hs
  rw [hs]
  rfl
theorem open_mn {r : Reach} {b0 : Nat} {v : Value} {d : DataW H} {p : List MemPlace}
  (hv : Value.okWide Tryz.prog W r b0 26 v) (h : DataW.Trod enc Tryz.prog W 0 (fun _ => true) true 26 v d p) : ∃ m : MnA, v = m.v ∧ m.Ok W := by
 obtain ⟨cs, rfl, hsz⟩ := okWide_struct Tryz.underlying26 hv
 have hsz : cs.size = 33 := hsz.trans (by kernel_rfl)
 obtain ⟨fuel, hf⟩ := h
 have hf : DataW.trod enc Tryz.prog W 0 (fun _ => true) true fuel 26 cs.toList = some (d, p) := by simpa [Value.cells] using hf
 have k32 : Tryz.prog.cellsOf 23 = 32 := by kernel_rfl
 have ks : Tryz.prog.cellsOf 24 = 1 := by kernel_rfl
 obtain ⟨y0, y1, m, _, _, h0, h1⟩ := trod_struct2 Tryz.underlying26 hf
 dsimp only at h0 h1
 rw [k32, List.drop_zero] at h0
 rw [ks] at h1
 obtain ⟨e1, e2, e3⟩ := split_at (l := cs.toList) (k := 32) (n := 1) (by rw [Array.length_toList, hsz])
 rw [List.take_of_length_le (by rw [e3]; exact Nat.le_refl _)] at h1
 obtain ⟨z, hz, hz32, hb⟩ := bytes_trod Tryz.underlying23 Tryz.underlying5 (by kernel_rfl) k32 h0
 obtain ⟨ls, A, c, hs, hr⟩ := row_trod KLn Tryz.underlying24 (by kernel_rfl) (fun hl hf => ln_trod hl hf) h1
 refine ⟨⟨z, A, c, ls⟩, ?_, hz32, hb, hr⟩
 have : cs = (cs.toList).toArray := by simp
 rw [this, e1, hz, hs]
 rfl
end
end
section
open Go.RowKit WM
def lastP : Option (List Int) → List Ln → Option (List Int)
 | p, [] => p
 | _, x :: xs => lastP (some x.z) xs
theorem lsOk_append : ∀ (xs : List Ln) (p : Option (List Int)) (ys : List Ln), lsOk p (xs ++ ys) = (lsOk p xs && lsOk (lastP p xs) ys)
 | [], p, ys => by
  rw [List.nil_append, show lsOk p [] = true by cases p <;> rfl, Bool.true_and]
  rfl
 | x :: xs, p, ys => by
  rw [List.cons_append, lsOk, lsOk, lsOk_append xs (some x.z) ys, lastP, Bool.and_assoc (lnOk x && riseOk p x.z)]
theorem lastP_snoc : ∀ (xs : List Ln) (p : Option (List Int)) (x : Ln), lastP p (xs ++ [x]) = some x.z
 | [], _, _ => rfl
 | y :: xs, p, x => lastP_snoc xs (some y.z) x
theorem lsOk_one (p : Option (List Int)) (x : Ln) : lsOk p [x] = (lnOk x && riseOk p x.z) := by
 rw [lsOk, show lsOk (some x.z) [] = true from rfl, Bool.and_true]
theorem mmay_less {b : List Int} {ls : List Ln} {x : Ln} (h : mmay ⟨b, ls ++ [x]⟩ = true) : mmay ⟨b, ls⟩ = true := by
 unfold mmay at h ⊢
 dsimp only at h ⊢
 rw [lsOk_append, Bool.and_eq_true, Bool.and_eq_true, decide_eq_true_eq, List.length_append] at h
 rw [h.1.1, Bool.true_and, decide_eq_true_eq]
 omega
theorem mmay_twice (b : List Int) (ls : List Ln) (x : Ln) : mmay ⟨b, (ls ++ [x]) ++ [x]⟩ = false := by
 unfold mmay
 dsimp only
 rw [lsOk_append, lastP_snoc, lsOk_one, show riseOk (some x.z) x.z = lessL x.z x.z from rfl, show lessL x.z x.z = false by cases hl : lessL x.z x.z with | false => rfl | true => exact (lessL_not hl).symm.trans hl |>.symm]
 simp
theorem mmay_size {m : Mn} (h : mmay m = true) : m.ls.length ≤ 10 := by
 unfold mmay at h
 rw [Bool.and_eq_true, decide_eq_true_eq] at h
 exact h.2
theorem esOk_less {n r : Int} {e : En} : ∀ {es : List En} {m : Int}, esOk n r m (es ++ [e]) = true → esOk n r m es = true
 | [], _, _ => rfl
 | y :: es, m, h => by
  rw [List.cons_append, esOk, Bool.and_eq_true] at h
  rw [esOk, h.1, esOk_less h.2]
  rfl
theorem mmay_entry {b z : List Int} {ls : List Ln} {n r : Int} {es : List En} {e : En} (h : mmay ⟨b, ls ++ [⟨z, n, r, es ++ [e]⟩]⟩ = true) (hd : es ≠ [] ∨ ¬ (n = 0 ∧ r = 0)) : mmay ⟨b, ls ++ [⟨z, n, r, es⟩]⟩ = true := by
 unfold mmay at h ⊢
 dsimp only at h ⊢
 rw [lsOk_append, lsOk_one, Bool.and_eq_true, Bool.and_eq_true, Bool.and_eq_true, decide_eq_true_eq] at h
 obtain ⟨⟨h1, h2, h3⟩, h4⟩ := h
 have h5 : lnOk ⟨z, n, r, es⟩ = true := by
  unfold lnOk at h2 ⊢
  dsimp only at h2 ⊢
  rw [Bool.and_eq_true, Bool.and_eq_true] at h2
  rw [h2.1.1, esOk_less h2.2, decide_eq_false (show ¬ (es = [] ∧ n = 0 ∧ r = 0) from fun hh => by
   rcases hd with hd | hd
   ·exact hd hh.1
   ·exact hd hh.2)]
  rfl
 rw [lsOk_append, lsOk_one, h1, h5, show riseOk (lastP none ls) z = true from h3, Bool.true_and, Bool.true_and, Bool.true_and, decide_eq_true_eq]
 rw [List.length_append] at h4 ⊢
 exact h4
end
section
open Go.RowKit WM
set_option maxRecDepth 100000
theorem mn_set {w : World} {b : Nat} {m : MnA} (h : RowAt 26 w b m.cs.toArray) (hl : m.base.length = 32) (A : Option Addr) (c : Nat) (ls : List LnA) :
  RowAt 26 (w.setCell ⟨b, 32, none⟩ (.slice A ls.length c)) b (MnA.cs ⟨m.base, A, c, ls⟩).toArray := by
 have h9 : w.heap[b]? = some (.cells (m.base.map (Value.int .u8) ++ [Value.slice m.A m.ls.length m.c]).toArray 26) := h
 show (w.setCell ⟨b, 32, none⟩ (.slice A ls.length c)).heap[b]? = some (.cells (m.base.map (Value.int .u8) ++ [Value.slice A ls.length c]).toArray 26)
 rw [heap_setCell_same _ _ _ _ _ _ h9]
 congr 2
 simp [hl]
theorem ln_set {w : World} {b : Nat} {x : LnA} (h : RowAt 35 w b (KLn.cs x).toArray) (hl : x.z.length = 16) (A : Option Addr) (c : Nat) (es : List EnA) :
  RowAt 35 (w.setCell ⟨b, 18, none⟩ (.slice A es.length c)) b (KLn.cs ⟨x.z, x.n, x.r, A, c, es⟩).toArray := by
 have h9 : w.heap[b]? = some (.cells (x.z.map (Value.int .u8) ++ [Value.int .i64 x.n, .int .i64 x.r, Value.slice x.A x.es.length x.c]).toArray 35) := h
 show (w.setCell ⟨b, 18, none⟩ (.slice A es.length c)).heap[b]? = some (.cells (x.z.map (Value.int .u8) ++ [Value.int .i64 x.n, .int .i64 x.r, Value.slice A es.length c]).toArray 35)
 rw [heap_setCell_same _ _ _ _ _ _ h9]
 congr 2
 simp [hl]
section
variable {α : Type} {K : Kind α} {P : Program} {ops : Array Oper} {o : Oper} {a : Act} {KK : Act → World → Prop} {Q : Exit → Act → World → Prop} {E : Prop}
theorem step_append_rowK {X : World} (hgd : o.guard = none) (s x : Operand) (t : TypeId)
  (ho : o.op = .call { callee := .builtin .append, args := #[s, x], argTypes := #[t, t] })
  (base : Nat) (e : TypeId) (i : TypeInfo) (zv : Value) (bytes : Nat) (ht : P.underlying t = some (.slice e)) (hi : P.info? e = some i) (hz : i.zero = some zv) (hsize : i.size = K.n) (hby : i.bytes = bytes) (hzs : zv.cells.size = K.n) (hb9 : bytes ≤ 1000)
  (v : Value) (n : Nat) (gs : List α) (hs : a.eval s = v) (hown : X.ownsRow base e K.n v n (gs.flatMap K.cs))
  (A : Option Addr) (m c : Nat) (fs : List α) (hx : a.eval x = .slice A m c) (hr : K.row X A c fs) (hl : fs.length = m) (hp : 0 < m) (hlen : n + m ≤ 10000000) (hbase : base ≤ X.heap.size)
  (h : ∀ v' w', w'.ownsRow base e K.n v' (n + m) ((gs ++ fs).flatMap K.cs) → X.grownBy w' v.ownBlock → KK (a.put o.dst v') w') :
  if Region.wanted o (yielded ops a.tmps) = true then Oper.wp P o a X KK Q else E := by
 have hw : Region.wanted o (yielded ops a.tmps) = true := by simp [Region.wanted, hgd]
 rw [if_pos hw]
 obtain ⟨h1, h2, h3, h4, h5⟩ := hr
 obtain ⟨b, off, rfl, _, hc⟩ := h4 (by omega)
 refine wp_append_own _ s x t ho base e i zv K.n bytes ht hi hz hsize hby hzs K.pos v n _ hs hown ⟨b, off, none⟩ m c (fs.flatMap K.cs) hx (by rw [Kind.flat_len (fun x hxx => h5 x hxx), hl]) (fun j u hj => ?_) (Kind.flat_one fs) (by simp only [maxLen]; omega) (Nat.le_trans (Nat.mul_le_mul hlen hb9) (by omega)) hbase ?_
 ·have hjl := (List.getElem?_eq_some_iff.1 hj).1
  rw [Kind.flat_len h5] at hjl
  have hij : j = j / K.n * K.n + j % K.n := by rw [Nat.mul_comm]; exact (Nat.div_add_mod j K.n).symm
  have hi' : j / K.n < fs.length := Nat.div_lt_of_lt_mul (by rw [Nat.mul_comm]; exact hjl)
  have hm := Nat.mod_lt j K.pos
  rw [hij, Kind.flat_at h5 hi' hm] at hj
  have hq := hc (j / K.n) hi' (j % K.n) hm
  rw [Addr.add_lit]
  rw [Nat.add_assoc, ← hij] at hq
  exact hq.trans hj
 ·intro v' w' g1 g2 _
  exact h v' w' (by rw [List.flatMap_append]; exact g1) g2
end
theorem row_one {α : Type} {K : Kind α} {X : World} {te : TypeId} {x : α} (hx : (K.cs x).length = K.n) (hok : K.ok (X.alloc (.cells (K.cs x).toArray te)) x) : K.row (X.alloc (.cells (K.cs x).toArray te)) (some ⟨X.heap.size, 0, none⟩) 1 [x] := by
 refine ⟨Nat.le_refl _, by simp only [maxLen]; omega, (fun h => by cases h), fun _ => ⟨X.heap.size, 0, rfl, by rw [World.size_alloc]; omega, fun i hi => ?_⟩, fun y hy => by rw [List.mem_singleton.1 hy]; exact hok⟩
 have h0 : i = 0 := by simpa using hi
 subst h0
 intro j hj
 rw [cell_of_row _ _ _ _ _ _ (heap_alloc_new X _), List.getElem?_toArray]
 simp
section
variable {P : Program} {ops : Array Oper} {rest : List Oper} {o : Oper} {a : Act} {w w' : World} {Q : Exit → Act → World → Prop}
theorem wpList_store_run (hgd : o.guard = none) (ty : TypeId) (x y : Operand) (hop : o.op = .store ty x y) (ad : Addr) (v : Value) (hx : a.eval x = .pointer (some ad)) (hy : a.eval y = v) (hst : (storeVar ty ad v).run P w = .ok () w')
  (hK : wpList P ops Q rest (a.put o.dst undef) w') : wpList P ops Q (o :: rest) a w :=
 BigFrame.wpList_want (by simp [Region.wanted, hgd]) fun _ hK' => by
  unfold Oper.wp
  rw [exec_store_run ty x y hop ad hx hy hst]
  exact hK' _ _ hK
end
theorem store_mnL {w : World} {b : Nat} {m : MnA} (h : RowAt 26 w b m.cs.toArray) (hl : m.base.length = 32) (A : Option Addr) (n c : Nat) :
  (storeVar 24 ⟨b, 32, none⟩ (.slice A n c)).run Tryz.prog w = .ok () (w.setCell ⟨b, 32, none⟩ (.slice A n c)) := by
 have g0 := MnAt.c32 (show MnAt w b m from h) hl
 have gf : w.frozen? ⟨b, 32, none⟩ = false := frozen_of_row _ _ _ _ _ h
 go_simp
theorem store_lnF {w : World} {b : Nat} {x : LnA} (h : RowAt 35 w b (KLn.cs x).toArray) (hl : x.z.length = 16) (A : Option Addr) (n c : Nat) :
  (storeVar 33 ⟨b, 18, none⟩ (.slice A n c)).run Tryz.prog w = .ok () (w.setCell ⟨b, 18, none⟩ (.slice A n c)) := by
 have g0 := ln_c18 (Kind.at_blk (K := KLn) (x := x) h) hl
 rw [Nat.zero_add] at g0
 have gf : w.frozen? ⟨b, 18, none⟩ = false := frozen_of_row _ _ _ _ _ h
 go_simp
theorem snoc_getD {α : Type} {l : List α} {d : α} {n : Nat} (h : l.length = n + 1) : l = l.take n ++ [l.getD n d] := by
 have h1 : n < l.length := by omega
 rw [List.getD_eq_getElem?_getD, List.getElem?_eq_getElem h1]
 show l = l.take n ++ [l[n]]
 rw [← List.take_succ_eq_append_getElem h1, List.take_of_length_le (by omega)]
theorem mmay_twiceA {m : MnA} {n : Nat} (h : m.ls.length = n + 1) (A : Option Addr) (c : Nat) : mmay (MnA.m ⟨m.base, A, c, m.ls ++ [m.ls.getD n lnA0]⟩) = false := by
 show mmay ⟨m.base, (m.ls ++ [m.ls.getD n lnA0]).map (·.x)⟩ = false
 have h1 := snoc_getD (d := lnA0) h
 generalize m.ls.getD n lnA0 = x at *
 rw [h1, List.map_append, List.map_append]
 exact mmay_twice _ _ _
theorem mmay_lessA {m : MnA} {n : Nat} (h : m.ls.length = n + 1) (hm : mmay m.m = true) (A : Option Addr) (c : Nat) : mmay (MnA.m ⟨m.base, A, c, m.ls.take n⟩) = true := by
 have hm' : mmay ⟨m.base, m.ls.map (·.x)⟩ = true := hm
 show mmay ⟨m.base, (m.ls.take n).map (·.x)⟩ = true
 rw [snoc_getD (d := lnA0) h, List.map_append] at hm'
 exact mmay_less hm'
theorem mmay_entryA {m : MnA} {n k : Nat} (h : m.ls.length = n + 1) (hm : mmay m.m = true) (hk : (m.ls.getD n lnA0).es.length = k + 1) (hd : 0 < k ∨ ¬ ((m.ls.getD n lnA0).n = 0 ∧ (m.ls.getD n lnA0).r = 0)) (A B : Option Addr) (c d : Nat) :
  mmay (MnA.m ⟨m.base, A, c, m.ls.take n ++ [⟨(m.ls.getD n lnA0).z, (m.ls.getD n lnA0).n, (m.ls.getD n lnA0).r, B, d, (m.ls.getD n lnA0).es.take k⟩]⟩) = true := by
 have hm' : mmay ⟨m.base, m.ls.map (·.x)⟩ = true := hm
 have h1 := snoc_getD (d := lnA0) h
 generalize m.ls.getD n lnA0 = x at *
 show mmay ⟨m.base, (m.ls.take n ++ [(⟨x.z, x.n, x.r, B, d, x.es.take k⟩ : LnA)]).map (·.x)⟩ = true
 rw [h1, List.map_append] at hm'
 rw [List.map_append]
 have h2 := snoc_getD (d := enA0) hk
 have h3 : x.x = ⟨x.z, x.n, x.r, (x.es.take k).map (·.e) ++ [(x.es.getD k enA0).e]⟩ := by
  show (⟨x.z, x.n, x.r, x.es.map (·.e)⟩ : Ln) = _
  congr 1
  have h4 := congrArg (List.map (·.e)) h2
  rw [List.map_append] at h4
  exact h4
 have h5 : mmay ⟨m.base, (m.ls.take n).map (·.x) ++ [x.x]⟩ = true := hm'
 rw [h3] at h5
 refine mmay_entry h5 (hd.imp (fun h0 => ?_) id)
 intro he
 have := congrArg List.length he
 rw [List.length_map, List.length_take, List.length_nil] at this
 omega
end
end Go.Proofs.YtkjimhlpbgeagaaGreatDoor
