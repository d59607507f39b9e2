import Derived.Test.YtkjimhlpbgeagaaDoorC0
import Derived.Test.YtkjimhlpbgeagaaDoorC9
import Derived.Test.YtkjimhlpbgeagaaDoorC26
import Derived.Lib.SmallJoins
import Derived.Test.YtkjimhlpbgeagaaDoorC14
import Derived.Laws.OwnMore
/-
  What the functions that a law of this layer reaches answer, part 27. Nothing that was there is written.
-/
namespace Go.Proofs.YtkjimhlpbgeagaaDoor
set_option linter.unusedVariables false
set_option linter.unusedSimpArgs false
section
open Go.ChangeShapes Go.WideShapes Go.ChangeAt Go.RowKit Go.Deep WM
set_option maxRecDepth 40000
section
variable {H : Type} {enc : TypeId × Value → H} {W : World}
theorem trod_struct5 {P : Program} {base : Nat} {spare : Nat → Bool} {held : Bool} {t : TypeId} {f0 f1 f2 f3 f4 : Field} {fuel : Nat} {cs : List Value} {x : DataW H × List MemPlace} (ht : P.underlying t = some (.struct #[f0, f1, f2, f3, f4])) (h : DataW.trod enc P W base spare held fuel t cs = some x) :
  ∃ y0 y1 y2 y3 y4 n, DataW.trod enc P W base spare held n f0.type ((cs.drop f0.offset).take (P.cellsOf f0.type)) = some y0 ∧
   DataW.trod enc P W base spare held n f1.type ((cs.drop f1.offset).take (P.cellsOf f1.type)) = some y1 ∧ DataW.trod enc P W base spare held n f2.type ((cs.drop f2.offset).take (P.cellsOf f2.type)) = some y2 ∧
   DataW.trod enc P W base spare held n f3.type ((cs.drop f3.offset).take (P.cellsOf f3.type)) = some y3 ∧ DataW.trod enc P W base spare held n f4.type ((cs.drop f4.offset).take (P.cellsOf f4.type)) = some y4 := by
 obtain ⟨xs, n, _, rfl, hl, hlen, hf⟩ := DataW.trod_struct ht h
 match xs, hlen with
 | [y0, y1, y2, y3, y4], _ => exact ⟨y0, y1, y2, y3, y4, n, by simpa using hf 0 f0 rfl, by simpa using hf 1 f1 rfl, by simpa using hf 2 f2 rfl, by simpa using hf 3 f3 rfl, by simpa using hf 4 f4 rfl⟩
theorem row_trod {α : Type} (K : Kind α) {ts te : TypeId} (ht : Tryd.prog.underlying ts = some (.slice te)) (hk : Tryd.prog.cellsOf te = K.n)
  (hel : ∀ {fuel : Nat} {l : List Value} {x : DataW H × List MemPlace}, l.length = K.n → DataW.trod enc Tryd.prog W 0 (fun _ => true) true fuel te l = some x → ∃ e : α, l = K.cs e ∧ K.ok W e)
  {fuel : Nat} {cs : List Value} {x : DataW H × List MemPlace} (h : DataW.trod enc Tryd.prog W 0 (fun _ => true) true fuel ts cs = some x) : ∃ (xs : List α) (A : Option Addr) (c : Nat), cs = [.slice A xs.length c] ∧ K.row W A c xs := by
 obtain ⟨A, len, c, rfl⟩ := Joins.slice_form ht h
 obtain ⟨xs, rfl, hr⟩ := open_rowK K ht hk hel h
 exact ⟨xs, A, c, rfl, hr⟩
theorem split_at {l : List Value} {k n : Nat} (h : l.length = k + n) : l = l.take k ++ l.drop k ∧ (l.take k).length = k ∧ (l.drop k).length = n := ⟨(List.take_append_drop k l).symm, by rw [List.length_take]; omega, by rw [List.length_drop]; omega⟩
theorem en_trod {fuel : Nat} {l : List Value} {x : DataW H × List MemPlace} (hl : l.length = 37) (hf : DataW.trod enc Tryd.prog W 0 (fun _ => true) true fuel 52 l = some x) : ∃ e : EnA, l = KEn.cs e ∧ KEn.ok W e := by
 have k1 : Tryd.prog.cellsOf 3 = 1 := by kernel_rfl
 have k2 : Tryd.prog.cellsOf 46 = 2 := by kernel_rfl
 have k32 : Tryd.prog.cellsOf 23 = 32 := by kernel_rfl
 have ks : Tryd.prog.cellsOf 50 = 1 := by kernel_rfl
 obtain ⟨y0, y1, y2, y3, y4, m, h0, h1, h2, h3, h4⟩ := trod_struct5 Tryd.underlying52 hf
 dsimp only at h0 h1 h2 h3 h4
 rw [k1] at h0 h2
 rw [k2] at h1
 rw [k32] at h3
 rw [ks] at h4
 match l, hl with
 | c0 :: c1 :: c2 :: c3 :: cs, hl =>
  obtain ⟨e1, e2, e3⟩ := split_at (l := cs) (k := 32) (n := 1) (by simpa using hl)
  simp only [List.drop_succ_cons, List.drop_zero, List.take_succ_cons, List.take_zero] at h0 h1 h2 h3 h4
  rw [List.take_of_length_le (by rw [e3]; exact Nat.le_refl _)] at h4
  obtain ⟨n0, q0, _, w0⟩ := DataW.trod_int Tryd.underlying3 h0
  obtain ⟨n1, n2, rfl, rfl, w1, w2⟩ := st_trod h1
  obtain ⟨n3, q3, _, w3⟩ := DataW.trod_int Tryd.underlying3 h2
  simp at q0 q3
  subst q0 q3
  obtain ⟨z, hz, hz32, hb⟩ := bytes_trod Tryd.underlying23 Tryd.underlying5 (by kernel_rfl) k32 h3
  obtain ⟨bs, A, c, hs, hr⟩ := row_trod KSig Tryd.underlying50 (by kernel_rfl) (fun hl hf => sig_trod hl hf) h4
  refine ⟨⟨⟨n0, n1, n2, n3, z, bs⟩, A, c⟩, ?_, w0, w1, w2, w3, hz32, hb, hr⟩
  rw [e1, hz, hs]
  rfl
theorem ln_trod {fuel : Nat} {l : List Value} {x : DataW H × List MemPlace} (hl : l.length = 19) (hf : DataW.trod enc Tryd.prog W 0 (fun _ => true) true fuel 49 l = some x) : ∃ e : LnA, l = KLn.cs e ∧ KLn.ok W e := by
 have k16 : Tryd.prog.cellsOf 44 = 16 := by kernel_rfl
 have k2 : Tryd.prog.cellsOf 46 = 2 := by kernel_rfl
 have ks : Tryd.prog.cellsOf 47 = 1 := by kernel_rfl
 obtain ⟨y0, y1, y2, m, _, _, h0, h1, h2⟩ := trod_struct3 Tryd.underlying49 hf
 dsimp only at h0 h1 h2
 rw [k16, List.drop_zero] at h0
 rw [k2] at h1
 rw [ks] at h2
 obtain ⟨e1, e2, e3⟩ := split_at (l := l) (k := 16) (n := 3) hl
 have e4 : l.drop 18 = (l.drop 16).drop 2 := by rw [List.drop_drop]
 rw [e4] at h2
 generalize l.drop 16 = t at *
 match t, e3 with
 | [c0, c1, c2], _ =>
  simp only [List.drop_succ_cons, List.drop_zero, List.take_succ_cons, List.take_zero] at h1 h2
  obtain ⟨z, hz, hz16, hb⟩ := id_trod h0
  obtain ⟨n1, n2, rfl, rfl, w1, w2⟩ := st_trod h1
  obtain ⟨es, A, c, hs, hr⟩ := row_trod KEn Tryd.underlying47 (by kernel_rfl) (fun hl hf => en_trod hl hf) h2
  refine ⟨⟨z, n1, n2, A, c, es⟩, ?_, hz16, hb, w1, w2, hr⟩
  rw [e1, hz]
  simp at hs
  rw [hs]
  rfl
theorem open_mn {r : Reach} {b0 : Nat} {v : Value} {d : DataW H} {p : List MemPlace}
  (hv : Value.okWide Tryd.prog W r b0 26 v) (h : DataW.Trod enc Tryd.prog W 0 (fun _ => true) true 26 v d p) : ∃ m : MnA, v = m.v ∧ m.Ok W := by
 obtain ⟨cs, rfl, hsz⟩ := okWide_struct Tryd.underlying26 hv
 have hsz : cs.size = 33 := hsz.trans (by kernel_rfl)
 obtain ⟨fuel, hf⟩ := h
 have hf : DataW.trod enc Tryd.prog W 0 (fun _ => true) true fuel 26 cs.toList = some (d, p) := by simpa [Value.cells] using hf
 have k32 : Tryd.prog.cellsOf 23 = 32 := by kernel_rfl
 have ks : Tryd.prog.cellsOf 24 = 1 := by kernel_rfl
 obtain ⟨y0, y1, m, _, _, h0, h1⟩ := trod_struct2 Tryd.underlying26 hf
 dsimp only at h0 h1
 rw [k32, List.drop_zero] at h0
 rw [ks] at h1
 obtain ⟨e1, e2, e3⟩ := split_at (l := cs.toList) (k := 32) (n := 1) (by rw [Array.length_toList, hsz])
 rw [List.take_of_length_le (by rw [e3]; exact Nat.le_refl _)] at h1
 obtain ⟨z, hz, hz32, hb⟩ := bytes_trod Tryd.underlying23 Tryd.underlying5 (by kernel_rfl) k32 h0
 obtain ⟨ls, A, c, hs, hr⟩ := row_trod KLn Tryd.underlying24 (by kernel_rfl) (fun hl hf => ln_trod hl hf) h1
 refine ⟨⟨z, A, c, ls⟩, ?_, hz32, hb, hr⟩
 have : cs = (cs.toList).toArray := by simp
 rw [this, e1, hz, hs]
 rfl
end
end
section
open Go.RowKit Go.Shelf WM
set_option maxRecDepth 100000
theorem mn_good {w : World} {m : MnA} (h : m.Ok w) : mnGood m.m := ⟨h.1, h.2.1, fun x hx => by
 obtain ⟨y, hy, rfl⟩ := List.mem_map.1 hx
 have hl : LnA.Ok w y := h.2.2.2.2.2.2 y hy
 refine ⟨hl.1, hl.2.1, fun e he => ?_⟩
 obtain ⟨f, hf, rfl⟩ := List.mem_map.1 he
 have hk : EnA.Ok w f := hl.2.2.2.2.2.2.2.2 f hf
 exact ⟨hk.2.2.2.2.1, hk.2.2.2.2.2.1, fun b hb => hk.2.2.2.2.2.2.2.2.2.2 b hb⟩⟩
theorem wf_bound {m : MnA} (h : mnWf m.m) : ∀ x ∈ m.ls, ∀ y ∈ x.es, y.e.bs.length ≤ 1000000 := fun x hx y hy => by
 have h1 := h.2.2.2 x.x (List.mem_map_of_mem (f := fun y : LnA => y.x) hx)
 have h2 := h1.2.2.2.2 y.e (List.mem_map_of_mem (f := fun y : EnA => y.e) hy)
 rw [h2.2.2.2.2.2.2.2.1]
 have h3 := h2.2.2.2.2.1
 unfold nblk
 split <;> omega
theorem own_setM {w : World} {base g n c : Nat} {zs : List Int} (h : w.ownsRow base 5 1 (.slice (some ⟨g, 0, none⟩) n c) n (zs.map (Value.int .u8))) (i : Nat) (x : Int) :
  (w.setCell ⟨g, i, none⟩ (.int .u8 x)).ownsRow base 5 1 (.slice (some ⟨g, 0, none⟩) n c) n ((zs.set i x).map (Value.int .u8)) := by
 rw [List.map_set]
 exact (h.stored i _).1
theorem own_formM {w : World} {base n : Nat} {v : Value} {zs : List Int} (h : w.ownsRow base 5 1 v n (zs.map (Value.int .u8))) (hn : 0 < n) : ∃ g c, v = .slice (some ⟨g, 0, none⟩) n c ∧ base ≤ g ∧ n ≤ c ∧ c ≤ maxLen := by
 rcases h.2 with ⟨_, h1⟩ | ⟨g, cap, cur, h1, h2, h3, h4, h5, _⟩
 ·omega
 ·exact ⟨g, cap, h1, h2, h4, h5⟩
theorem bs_cell {w : World} {b o n c : Nat} {zs : List Int} {j : Nat} (h : BsAt w (some ⟨b, o, none⟩) n c zs) (hj : j < zs.length) : w.cell? ⟨b, o + j, none⟩ = some (.int .u8 (zs.getD j 0)) := by
 obtain ⟨b1, o1, e, _, hc⟩ := h.1 (fun e => by rw [e] at hj; simp at hj)
 cases e
 exact hc j hj
theorem str_eq' {xs ys : List Int} (hx : AllBytes xs) (hy : AllBytes ys) {b : Bool} (h : decide (xs = ys) = b) : ((strOfNums xs).toList == (strOfNums ys).toList) = b := (str_eq hx hy).trans h
end
end Go.Proofs.YtkjimhlpbgeagaaDoor
