import Derived.Test.YtkjimhlpbgeagaaDoorC0
import Derived.Test.YtkjimhlpbgeagaaDoorC4
import Derived.Test.YtkjimhlpbgeagaaDoorC9
import Derived.Test.YtkjimhlpbgeagaaDoorC1
import Derived.Test.YtkjimhlpbgeagaaDoorC12
import Derived.WalkLawsBesides
import Derived.BigQuiet
import Derived.Laws.CopyOwn
import Derived.Test.YtkjimhlpbgeagaaDoorC8
/-
  What the functions that a law of this layer reaches answer, part 13. Nothing that was there is written.
-/
namespace Go.Proofs.YtkjimhlpbgeagaaDoor
set_option linter.unusedVariables false
set_option linter.unusedSimpArgs false
section
open Go.RowKit WM
set_option maxRecDepth 100000
def MRd (w : World) (q : Nat) (s : MS) : Prop := ∃ A len cap, w.heap[q]? = some (.cells #[.slice A len cap, .bool s.2] 65) ∧ Byt w q A s.1 ∧ s.1.length = len ∧ len ≤ cap ∧ cap ≤ maxLen ∧ AllBytes s.1
section
variable {w w' : World} {q : Nat} {s : MS}
theorem MRd.lt (h : MRd w q s) : q < w.heap.size := by
 obtain ⟨A, len, cap, h, _⟩ := h
 exact (Array.getElem?_eq_some_iff.1 h).1
theorem MRd.kept {row : Option Nat} (h : MRd w q s) (hg : w.grownBy w' row) (hr : ∀ k, row = some k → q < k) : MRd w' q s := by
 have hq := h.lt
 obtain ⟨A, len, cap, h, h1, h2⟩ := h
 refine ⟨A, len, cap, (hg.block q hq (fun e => by have := hr q e.symm; omega)).trans h, h1.move fun p hp => World.cell?_of_block (hg.block p.block (by omega) (fun e => by have := hr _ e.symm; omega)), h2⟩
end
theorem mrd_trans {a b c : World} {row : Option Nat} (h : a.grownBy b row) (k : b.grownBy c row) : a.grownBy c row :=
 ⟨k.os.trans h.os, k.tape.trans h.tape, k.output.trans h.output, Nat.le_trans h.size k.size, fun i hi hne => (k.block i (Nat.lt_of_lt_of_le hi h.size) hne).trans (h.block i hi hne)⟩
theorem mrd_new {a b c : World} {row row' : Option Nat} (h : a.grownBy b row) (k : b.grownBy c row') (hr : ∀ g, row' = some g → a.heap.size ≤ g) : a.grownBy c row :=
 ⟨k.os.trans h.os, k.tape.trans h.tape, k.output.trans h.output, Nat.le_trans h.size k.size, fun i hi hne => (k.block i (Nat.lt_of_lt_of_le hi h.size) (fun e => by have := hr i e.symm; omega)).trans (h.block i hi hne)⟩
theorem mrd_below {a b : World} {B : Nat} {row : Option Nat} (h : Below B a b) (hB : a.heap.size ≤ B) : a.grownBy b row :=
 ⟨h.os, h.tape, h.output, h.size, fun i hi _ => h.block i (by omega)⟩
theorem mrd_row {a : World} {b : Nat} {cs : Array Value} : a.grownBy (a.setRow b cs) (some b) :=
 ⟨rfl, rfl, rfl, by simp, fun k _ hk => setRow_other a b k _ (fun e => hk (by rw [e]))⟩
theorem mrd_put0 {w : World} {q : Nat} {u v : Value} (h : w.heap[q]? = some (.cells #[u, v] 65)) (x : Value) : (w.setCell ⟨q, 0, none⟩ x).heap[q]? = some (.cells #[x, v] 65) := by
 rw [heap_setCell_same _ _ _ _ _ _ h]
 rfl
theorem mrd_put1 {w : World} {q : Nat} {u v : Value} (h : w.heap[q]? = some (.cells #[u, v] 65)) (x : Value) : (w.setCell ⟨q, 1, none⟩ x).heap[q]? = some (.cells #[u, x] 65) := by
 rw [heap_setCell_same _ _ _ _ _ _ h]
 rfl
theorem mrd_set (w : World) (q j : Nat) (v : Value) : w.grownBy (w.setCell ⟨q, j, none⟩ v) (some q) := by
 refine ⟨rfl, rfl, rfl, ?_, fun k _ hk => Below.heap_setCell _ _ _ k (fun e => hk (by rw [e]))⟩
 exact ((Below.refl 0 w).setCell (p := ⟨q, j, none⟩) (Nat.zero_le _) v).size
def MRdPost (w : World) (q : Nat) (v : Value) (s : MS) (e : Ending) (w' : World) : Prop := e = .returned v ∧ MRd w' q s ∧ w.grownBy w' (some q)
theorem mpass_yes (q k : Nat) (s : MS) (w : World) (h : MRd w q s) (hk : k ≤ s.1.length) :
  Calls Tryd.prog 54 #[.pointer (some ⟨q, 0, none⟩), .int .i64 k, .bool true] w (MRdPost w q (.tuple #[]) (s.1.drop k, s.2)) := by
 obtain ⟨A, len, cap, hq, hby, hl, hlc, hm, hall⟩ := h
 have c0 : w.cell? ⟨q, 0, none⟩ = some (.slice A len cap) := by rw [cell_of_row _ _ _ _ _ _ hq]; rfl
 have f0 : w.frozen? ⟨q, 0, none⟩ = false := frozen_of_row _ _ _ _ _ hq
 have hsl := sl_l A len cap k (by omega) (k : Int) rfl
 have hD := hby.drop (k := k) (cap := cap) (by omega)
 generalize (if cap = k then A else A.map (·.add k)) = A2 at hsl hD
 have HR : Hid (MRd (w.setCell ⟨q, 0, none⟩ (.slice A2 (len - k) (cap - k))) q (s.1.drop k, s.2)) := Lib.hid ⟨A2, len - k, cap - k, mrd_put0 hq _, hD.move fun p hp => World.cell?_of_block ((mrd_set w q 0 _).block _ (by have := (Array.getElem?_eq_some_iff.1 hq).1; omega) (fun e => by have := Option.some.inj e; omega)), by rw [List.length_drop, hl], by omega, by omega, all_drop hall k⟩
 clear hq hby hl hall hD
 go_enter Tryd.func54, Tryd.ntmps54
 go_wp2
 go_end0
 exact ⟨rfl, HR.out, mrd_set _ _ _ _⟩
theorem mpass_no (q : Nat) (m : Int) (s : MS) (w : World) (h : MRd w q s) :
  Calls Tryd.prog 54 #[.pointer (some ⟨q, 0, none⟩), .int .i64 m, .bool false] w (MRdPost w q (.tuple #[]) ([], false)) := by
 obtain ⟨A, len, cap, hq, hby, hl, hlc, hm, hall⟩ := h
 have f0 : w.frozen? ⟨q, 0, none⟩ = false := frozen_of_row _ _ _ _ _ hq
 have c0 : w.cell? ⟨q, 0, none⟩ = some (.slice A len cap) := by rw [cell_of_row _ _ _ _ _ _ hq]; rfl
 have hq1 := mrd_put0 hq (.slice none 0 0)
 have c1 : (w.setCell ⟨q, 0, none⟩ (.slice none 0 0)).cell? ⟨q, 1, none⟩ = some (.bool s.2) := by rw [cell_of_row _ _ _ _ _ _ hq1]; rfl
 have d1 : w.cell? ⟨q, 1, none⟩ = some (.bool s.2) := by rw [cell_of_row _ _ _ _ _ _ hq]; rfl
 have f1 : (w.setCell ⟨q, 0, none⟩ (.slice none 0 0)).frozen? ⟨q, 1, none⟩ = false := frozen_of_row _ _ _ _ _ hq1
 have g1 : w.frozen? ⟨q, 1, none⟩ = false := frozen_of_row _ _ _ _ _ hq
 have HR : Hid (MRd ((w.setCell ⟨q, 0, none⟩ (.slice none 0 0)).setCell ⟨q, 1, none⟩ (.bool false)) q ([], false)) := Lib.hid ⟨none, 0, 0, mrd_put1 hq1 _, fun h => absurd rfl h, rfl, Nat.le_refl _, by decide, fun z hz => by cases hz⟩
 clear hq hq1 hby hl hall
 go_enter Tryd.func54, Tryd.ntmps54
 go_wp2
 refine bodyPost_ret (v := .tuple #[]) (by simp [results, Tryd.results54]) rfl ?_
 exact ⟨rfl, HR.out, mrd_trans (mrd_set _ _ _ _) (mrd_set _ _ _ _)⟩
set_option maxHeartbeats 1000000 in
theorem mnumber_any (q : Nat) (most : Nat) (s : MS) (w : World) (h : MRd w q s) (hm9 : most ≤ 1000) :
  Calls Tryd.prog 39 #[.pointer (some ⟨q, 0, none⟩), .int .i64 most] w (MRdPost w q (.int .i64 (mnum most s).1) (mnum most s).2) := by
 have h' := h
 obtain ⟨A, len, cap, hq, hby, hl, hlc, hm, hall⟩ := h
 have c0 : w.cell? ⟨q, 0, none⟩ = some (.slice A len cap) := by rw [cell_of_row _ _ _ _ _ _ hq]; rfl
 have HG := Lib.hid (get_any A len cap s.1 w hby hl hall (by omega))
 have hcv : IntKind.u64.wrap (most : Int) = (most : Int) := IntWalk.u64_in _ (by omega)
 cases hd : dec s.1 with
 | none =>
  have HV := Lib.hid (show mnum most s = (0, ([], false)) by unfold mnum; rw [hd])
  rw [hd] at HG
  unfold getV at HG
  have HP := Lib.hid (mpass_no q 0 s w h')
  clear hq hby hl hall h' hd
  go_enter Tryd.func39, Tryd.ntmps39
  go_wp2_with fail
  refine HG.out.mono ?_
  rintro e w1 ⟨rfl, rfl⟩
  go_wp2_with fail
  refine HP.out.mono ?_
  rintro e w2 ⟨rfl, hr, hg⟩
  have HR := Lib.hid hr
  have HGG := Lib.hid hg
  clear hr hg c0
  go_wp2
  go_ret
  show MRdPost _ _ _ _ _ _
  rw [HV.out]
  exact ⟨rfl, HR.out, HGG.out⟩
 | some p =>
  obtain ⟨n, k⟩ := p
  obtain ⟨d1, d2, d3, d4, d5⟩ := dec_some hall hd
  rw [hd] at HG
  unfold getV at HG
  by_cases hn : n ≤ most
  ·have HV := Lib.hid (show mnum most s = (n, (s.1.drop k, s.2)) by unfold mnum; rw [hd]; simp only [if_pos hn])
   have HP := Lib.hid (mpass_yes q k s w h' d2)
   have hcv2 : IntKind.i64.wrap n = n := IntWalk.i64_in _ (by omega)
   clear hq hby hl hall h' hd d1 d2 d3 d5
   go_enter Tryd.func39, Tryd.ntmps39
   go_wp2_with fail
   refine HG.out.mono ?_
   rintro e w1 ⟨rfl, rfl⟩
   go_wp2_with fail
   refine HP.out.mono ?_
   rintro e w2 ⟨rfl, hr, hg⟩
   have HR := Lib.hid hr
   have HGG := Lib.hid hg
   clear hr hg c0
   go_wp2
   go_ret
   show MRdPost _ _ _ _ _ _
   rw [HV.out]
   exact ⟨rfl, HR.out, HGG.out⟩
  ·have HV := Lib.hid (show mnum most s = (0, ([], false)) by unfold mnum; rw [hd]; simp only [if_neg hn])
   have HP0 : ∀ b : Bool, b = false → Calls Tryd.prog 54 #[.pointer (some ⟨q, 0, none⟩), .int .i64 k, .bool b] w (MRdPost w q (.tuple #[]) ([], false)) := fun b hb => by subst hb; exact mpass_no q k s w h'
   have HP := Lib.hid (HP0 (decide (n ≤ most)) (decide_eq_false hn))
   have HDD := Lib.hid (decide_eq_false hn)
   clear HP0
   clear hq hby hl hall h' hd d1 d2 d3 d5
   go_enter Tryd.func39, Tryd.ntmps39
   go_wp2_with fail
   refine HG.out.mono ?_
   rintro e w1 ⟨rfl, rfl⟩
   go_wp2_with fail
   refine HP.out.mono ?_
   rintro e w2 ⟨rfl, hr, hg⟩
   have HR := Lib.hid hr
   have HGG := Lib.hid hg
   clear hr hg c0
   have hdd := HDD.out
   go_wp2
   go_ret
   show MRdPost _ _ _ _ _ _
   rw [HV.out]
   exact ⟨rfl, HR.out, HGG.out⟩
structure Out2 (w w' : World) (q b : Nat) : Prop where
 os : w'.os = w.os
 tape : w'.tape = w.tape
 output : w'.output = w.output
 size : w.heap.size ≤ w'.heap.size
 block : ∀ i, i < w.heap.size → i ≠ q → i ≠ b → w'.heap[i]? = w.heap[i]?
theorem Out2.grown {w0 w w' : World} {q b : Nat} (h : Out2 w w' q b) (g : w0.grownBy w (some q)) (hb : w0.heap.size ≤ b) : w0.grownBy w' (some q) :=
 ⟨h.os.trans g.os, h.tape.trans g.tape, h.output.trans g.output, Nat.le_trans g.size h.size, fun i hi hne => (h.block i (Nat.lt_of_lt_of_le hi g.size) (fun e => hne (by rw [e])) (by omega)).trans (g.block i hi hne)⟩
theorem splice_fil (k : Nat) (l : List Int) (b : Bool) (R : List Value) : splice ((List.replicate k (0 : Int)).map (Value.int .u8) ++ R) 0 ((l.take k).map (Value.int .u8)) = (mfil k (l, b)).1.map (Value.int .u8) ++ R := by
 unfold splice mfil
 rw [List.take_zero, List.nil_append, Nat.zero_add, List.map_append, List.append_assoc, List.length_map, List.length_take]
 congr 1
 rw [List.drop_append_of_le_length (by rw [List.length_map, List.length_replicate]; omega), ← List.map_drop, List.drop_replicate]
 congr 3
 dsimp only
 omega
def FillPost (w : World) (q b k : Nat) (s : MS) (R : List Value) (T : TypeId) (e : Ending) (w' : World) : Prop := e = .returned (.tuple #[]) ∧ MRd w' q (mfil k s).2 ∧ w'.heap[b]? = some (.cells ((mfil k s).1.map (Value.int .u8) ++ R).toArray T) ∧ Out2 w w' q b
set_option maxHeartbeats 4000000 in
theorem mfill_any (q b k : Nat) (s : MS) (R : List Value) (T : TypeId) (w : World) (h : MRd w q s) (hqb : q < b) (hb : b + 1 = w.heap.size) (hk : k ≤ 1000) (hc : w.heap[b]? = some (.cells ((List.replicate k (0 : Int)).map (Value.int .u8) ++ R).toArray T)) :
  Calls Tryd.prog 53 #[.pointer (some ⟨q, 0, none⟩), .slice (some ⟨b, 0, none⟩) k k] w (FillPost w q b k s R T) := by
 have h' := h
 obtain ⟨A, len, cap, hq, hby, hl, hlc, hm, hall⟩ := h
 have c0 : w.cell? ⟨q, 0, none⟩ = some (.slice A len cap) := by rw [cell_of_row _ _ _ _ _ _ hq]; rfl
 obtain ⟨cs, hcs⟩ : ∃ cs, cs = (s.1.take k).map (Value.int .u8) := ⟨_, rfl⟩
 have HSP := Lib.hid (splice_fil k s.1 s.2 R)
 rw [← hcs] at HSP
 have hlen : cs.length = Nat.min len k := by rw [hcs, List.length_map, List.length_take, hl]; exact Nat.min_comm _ _
 have HN := Lib.hid hlen
 have HPOS := Lib.hid (show 0 < cs.length → (some (⟨b, 0, none⟩ : Addr)) = some ⟨b, 0, none⟩ ∧ ∃ ad, A = some ad ∧ ∀ j v, cs[j]? = some v → w.cell? (ad.add j) = some v from fun h0 => by
  refine ⟨rfl, ?_⟩
  obtain ⟨b0, o0, hA, hb0, hcc⟩ := hby (fun e => by rw [hcs, e] at h0; simp at h0)
  refine ⟨⟨b0, o0, none⟩, hA, fun j v hj => ?_⟩
  have hjl := (List.getElem?_eq_some_iff.1 hj).1
  rw [hcs, List.length_map, List.length_take] at hjl
  rw [hcs, List.getElem?_map, List.getElem?_take_of_lt (by omega), List.getElem?_eq_getElem (by omega), Option.map_some] at hj
  rw [Addr.add_lit, hcc j (by omega), List.getD_eq_getElem?_getD, List.getElem?_eq_getElem (by omega)]
  exact hj)
 have HC := Lib.hid hc
 have HFIT := Lib.hid (show 0 + cs.length ≤ ((List.replicate k (0 : Int)).map (Value.int .u8) ++ R).length by rw [List.length_append, List.length_map, List.length_replicate, hlen]; have := Nat.min_le_right len k; show 0 + min len k ≤ _; omega)
 have HONE := Lib.hid (show ∀ v ∈ cs, v.oneCell' = true from fun v hv => by rw [hcs] at hv; exact byte_ones _ v hv)
 have HBW := Lib.hid (Below.refl b w)
 have HE : Hid (Tryd.prog.underlying 27 = some (.slice 5) ∧ (Tryd.prog.info? 5).map (·.size) = some 1) := Lib.hid ⟨Tryd.underlying27, by kernel_rfl⟩
 have HS1 : Hid (∀ w1 w2 : World, Below b w w1 → w1.grownBy w2 (some q) → w1.heap[b]? = some (.cells ((mfil k s).1.map (Value.int .u8) ++ R).toArray T) → MRd w2 q (mfil k s).2 → FillPost w q b k s R T (.returned (.tuple #[])) w2) := Lib.hid (fun w1 w2 g1 g2 g3 g4 => ⟨rfl, g4, (g2.block b (Nat.lt_of_lt_of_le (by omega) g1.size) (fun e => by have := Option.some.inj e; omega)).trans g3, ⟨g2.os.trans g1.os, g2.tape.trans g1.tape, g2.output.trans g1.output, Nat.le_trans g1.size g2.size, fun i hi h1 h2 => (g2.block i (Nat.lt_of_lt_of_le hi g1.size) (fun e => h1 (Option.some.inj e))).trans (g1.block i (by omega))⟩⟩)
 have HRD := Lib.hid (fun (w1 : World) (g1 : Below b w w1) => show MRd w1 q s from ⟨A, len, cap, (g1.block q hqb).trans hq, hby.below (g1.mono (by omega)), hl, hlc, hm, hall⟩)
 have HL := Lib.hid hl
 clear hq hby hl hlc hall hc h' hcs hqb hb hk
 by_cases hkl : k ≤ len
 ·have hck : cs.length = k := by rw [hlen]; exact Nat.min_eq_right hkl
  have HCK := Lib.hid hck
  have HV := Lib.hid (show (mfil k s).2 = (s.1.drop k, s.2) by unfold mfil; dsimp only; rw [if_pos (by rw [HL.out]; exact hkl)])
  have HP := Lib.hid (fun (w1 : World) (g1 : MRd w1 q s) => mpass_yes q k s w1 g1 (by rw [HL.out]; exact hkl))
  rw [← HV.out] at HP
  clear hlen hck
  go_enter Tryd.func53, Tryd.ntmps53
  go_wp2_with ((with_reducible refine wpList_copy_splice (o := ⟨some 10, _, _, _, _, _⟩) rfl (.tmp 5) (.tmp 9) 27 27 ?e1 5 HE.out.1 HE.out.2 _ _ k k len cap ?e2 ?e3 b 0 _ T HC.out cs HN.out HPOS.out HFIT.out HONE.out b w HBW.out (Nat.le_refl _) ?_); (case e1 => rfl); (case e2 => rfl); (case e3 => rfl); intro w2 hg2 hb2; rw [HSP.out] at hg2; have G2 := Lib.hid hb2; have R2 := Lib.hid (HRD.out w2 hb2); rw [HCK.out]; clear hb2)
  refine (HP.out _ R2.out).mono ?_
  rintro e w3 ⟨rfl, hr, hg⟩
  have HFIN := Lib.hid (HS1.out w2 w3 G2.out hg hg2.out hr)
  clear hr hg c0
  go_wp2
  first | exact HFIN.out | (go_end0; exact HFIN.out)
 ·have hck : cs.length = len := by rw [hlen]; exact Nat.min_eq_left (by omega)
  have HCK := Lib.hid hck
  have HV := Lib.hid (show (mfil k s).2 = ([], false) by unfold mfil; dsimp only; rw [if_neg (by rw [HL.out]; exact hkl)])
  have HP := Lib.hid (fun (w1 : World) (g1 : MRd w1 q s) => mpass_no q len s w1 g1)
  rw [← HV.out] at HP
  have HT := Lib.hid (show (((len : Nat) : Int) == ((k : Nat) : Int)) = false from beq_eq_false_iff_ne.2 (by omega))
  clear hlen hck hkl
  go_enter Tryd.func53, Tryd.ntmps53
  go_wp2_with ((with_reducible refine wpList_copy_splice (o := ⟨some 10, _, _, _, _, _⟩) rfl (.tmp 5) (.tmp 9) 27 27 ?e1 5 HE.out.1 HE.out.2 _ _ k k len cap ?e2 ?e3 b 0 _ T HC.out cs HN.out HPOS.out HFIT.out HONE.out b w HBW.out (Nat.le_refl _) ?_); (case e1 => rfl); (case e2 => rfl); (case e3 => rfl); intro w2 hg2 hb2; rw [HSP.out] at hg2; have G2 := Lib.hid hb2; have R2 := Lib.hid (HRD.out w2 hb2); rw [HCK.out]; clear hb2)
  rw [HT.out]
  refine (HP.out _ R2.out).mono ?_
  rintro e w3 ⟨rfl, hr, hg⟩
  have HFIN := Lib.hid (HS1.out w2 w3 G2.out hg hg2.out hr)
  clear hr hg c0
  go_wp2
  first | exact HFIN.out | (go_end0; exact HFIN.out)
end
section
open Go.RowKit WM
set_option maxRecDepth 100000
structure MSt (w : World) (q : Nat) (s : MS) (C : Array Value) (T : TypeId) (X : World) : Prop where
 rd : MRd X q s
 res : X.heap[w.heap.size]? = some (.cells C T)
 grown : w.grownBy X (some q)
section
variable {w X Y : World} {q : Nat} {s t : MS} {C : Array Value} {T : TypeId}
theorem MRd.old (h : MRd w q s) (o : Obj) : MRd (w.alloc o) q s := h.kept (row := none) (mrd_below ((Below.refl _ _).alloc (Nat.le_refl _) _) (Nat.le_refl _)) (fun k e => by cases e)
theorem MSt.lt (h : MSt w q s C T X) : w.heap.size < X.heap.size := (Array.getElem?_eq_some_iff.1 h.res).1
theorem MSt.new (h : MRd w q s) (C : Array Value) (T : TypeId) : MSt w q s C T (w.alloc (.cells C T)) := ⟨h.old _, heap_alloc_new w _, mrd_below ((Below.refl _ _).alloc (Nat.le_refl _) _) (Nat.le_refl _)⟩
theorem MSt.old (h : MSt w q s C T X) (o : Obj) : MSt w q s C T (X.alloc o) := ⟨h.rd.old o, (((Below.refl X.heap.size X).alloc (Nat.le_refl _) o).block _ h.lt).trans h.res, mrd_new h.grown (mrd_below (row := none) ((Below.refl X.heap.size X).alloc (Nat.le_refl _) o) (Nat.le_refl _)) (fun g e => by cases e)⟩
theorem MSt.more (h : MSt w q s C T X) (hq : q < w.heap.size) (hr : MRd Y q t) (hg : X.grownBy Y (some q)) : MSt w q t C T Y :=
 ⟨hr, (hg.block _ h.lt (fun e => by have := Option.some.inj e; omega)).trans h.res, mrd_trans h.grown hg⟩
theorem MSt.fill (h : MSt w q s C T X) (hq : q < w.heap.size) {b : Nat} (hb : w.heap.size < b) (hr : MRd Y q t) (ho : Out2 X Y q b) : MSt w q t C T Y :=
 ⟨hr, (ho.block _ h.lt (by omega) (by omega)).trans h.res, ho.grown h.grown (by omega)⟩
theorem MSt.own (h : MSt w q s C T X) (hq : q < w.heap.size) {g : Nat} (hg : X.grownBy Y (some g)) (hwg : w.heap.size < g) : MSt w q s C T Y :=
 ⟨h.rd.kept hg (fun k e => by have := Option.some.inj e; omega), (hg.block _ h.lt (fun e => by have := Option.some.inj e; omega)).trans h.res, mrd_new h.grown hg (fun k e => by have := Option.some.inj e; omega)⟩
theorem MSt.put (h : MSt w q s C T X) (hq : q < w.heap.size) (hg : X.grownBy Y (some w.heap.size)) : MRd Y q s ∧ w.grownBy Y (some q) :=
 ⟨h.rd.kept hg (fun k e => by rw [← Option.some.inj e]; exact hq), mrd_new h.grown hg (fun g e => by rw [← Option.some.inj e]; exact Nat.le_refl _)⟩
theorem MRd.all (h : MRd w q s) : AllBytes s.1 := by
 obtain ⟨_, _, _, _, _, _, _, _, h⟩ := h
 exact h
end
theorem load_bvals {w : World} {b : Nat} {l : List Int} (h : w.heap[b]? = some (.cells (l.map (Value.int .u8) ++ []).toArray 23)) (hl : l.length = 32) : (loadVar 23 ⟨b, 0, none⟩).run Tryd.prog w = .ok (.agg (bvals l)) w := by
 rw [List.append_nil] at h
 exact run_loadVar_row w b 23 23 _ (0, 0) _ h Tryd.underlying23 rfl (by rw [sizeD]; show some 32 = some (l.map (Value.int .u8)).toArray.size; rw [List.size_toArray, List.length_map, hl])
theorem sl_digA (b : Nat) (w : World) : (Instr.sliceAt 23 (.pointer (some ⟨b, 0, none⟩)) none none none).run Tryd.prog w = .ok (.slice (some ⟨b, 0, none⟩) 32 32) w := by
 rw [run_sliceAt_array_all w 23 ⟨b, 0, none⟩ (show Tryd.prog.underlying 23 = some (.array (Tryd.prog.arrayLen 23) (Tryd.prog.elem 23)) by kernel_rfl)]
 rw [show Tryd.prog.elem 23 = 5 by kernel_rfl, show Tryd.prog.arrayLen 23 = 32 by kernel_rfl, sizeByte]
 simp [Result.andThen, slicedAt, Addr.add]
theorem sl_4A (b : Nat) (w : World) : (Instr.sliceAt 142 (.pointer (some ⟨b, 0, none⟩)) none none none).run Tryd.prog w = .ok (.slice (some ⟨b, 0, none⟩) 4 4) w := by
 rw [run_sliceAt_array_all w 142 ⟨b, 0, none⟩ (show Tryd.prog.underlying 142 = some (.array (Tryd.prog.arrayLen 142) (Tryd.prog.elem 142)) by kernel_rfl)]
 rw [show Tryd.prog.elem 142 = 5 by kernel_rfl, show Tryd.prog.arrayLen 142 = 4 by kernel_rfl, sizeByte]
 simp [Result.andThen, slicedAt, Addr.add]
set_option maxHeartbeats 4000000 in
theorem mdig_any (q : Nat) (s : MS) (w : World) (h : MRd w q s) : Calls Tryd.prog 38 #[.pointer (some ⟨q, 0, none⟩)] w (MRdPost w q (.agg (bvals (mfil 32 s).1)) (mfil 32 s).2) := by
 have HQ := Lib.hid h.lt
 have SA := Lib.hid ((MSt.new h (bvals z32k) 23).old (.cells (bvals z32k) 23))
 have hh : ((w.alloc (.cells (bvals z32k) 23)).alloc (.cells (bvals z32k) 23)).heap[w.heap.size + 1]? = some (.cells (bvals z32k) 23) := by
  have := heap_alloc_new (w.alloc (.cells (bvals z32k) 23)) (.cells (bvals z32k) 23)
  rw [World.size_alloc] at this
  exact this
 have HF := Lib.hid (mfill_any q (w.heap.size + 1) 32 s [] 23 _ SA.out.rd (by have := h.lt; omega) (by simp only [World.size_alloc]) (by decide) (show _ = some (Obj.cells ((List.replicate 32 (0 : Int)).map (Value.int .u8) ++ []).toArray 23) by rw [hh, List.append_nil]; rfl))
 unfold FillPost at HF
 have HLEN := Lib.hid (mfil_len 32 s)
 generalize mfil 32 s = x at *
 obtain ⟨l, s'⟩ := x
 dsimp only at HF HLEN ⊢
 have hz := zeroDk
 have hsl := sl_digA
 clear h hh
 go_enter Tryd.func38, Tryd.ntmps38
 go_wp2_with fail
 refine HF.out.mono ?_
 rintro e w3 ⟨rfl, hr, hc, ho⟩
 have S3 := Lib.hid (SA.out.fill HQ.out (Nat.lt_succ_self _) hr ho)
 have L3 := Lib.hid (load_bvals hc HLEN.out)
 have D3 := Lib.hid (show BRow w3 w.heap.size 23 z32k from S3.out.res)
 clear hr hc ho
 go_wp2_with (first | ((with_reducible refine wpList_load_at (o := ⟨some 7, .load 23 (.tmp 3), _, _, _, _⟩) ?e1 23 (.tmp 3) ?e2 ⟨w.heap.size + 1, 0, none⟩ ?e3 _ L3.out ?_); (case e1 => rfl); (case e2 => rfl); (case e3 => rfl)) | ((with_reducible refine wpList_store_digo (o := ⟨none, .store 23 (.tmp 2) (.tmp 7), _, _, _, _⟩) ?e1 (.tmp 2) (.tmp 7) ?e2 w.heap.size _ D3.out z32k_len ?e3 l HLEN.out ?e4 ?_); (case e1 => rfl); (case e2 => rfl); (case e3 => rfl); (case e4 => rfl); intro w9 hg9 hx9; have X9 := Lib.hid hx9; have P9 := Lib.hid (S3.out.put HQ.out hg9); clear hg9 hx9) | fail)
 refine bodyPost_ret (v := .agg (bvals l)) ?_ rfl ⟨rfl, P9.out.1, P9.out.2⟩
 exact res_digk Tryd.results38 rfl X9.out HLEN.out
set_option maxHeartbeats 4000000 in
theorem mwd_any (q : Nat) (s : MS) (w : World) (h : MRd w q s) : Calls Tryd.prog 75 #[.pointer (some ⟨q, 0, none⟩)] w (MRdPost w q (.int .u32 (mwd s).1) (mwd s).2) := by
 have HQ := Lib.hid h.lt
 have SA := Lib.hid (MSt.new h #[.int .u8 0, .int .u8 0, .int .u8 0, .int .u8 0] 142)
 have HF := Lib.hid (mfill_any q w.heap.size 4 s [] 142 _ SA.out.rd h.lt (by simp only [World.size_alloc]) (by decide) (show _ = some (Obj.cells ((List.replicate 4 (0 : Int)).map (Value.int .u8) ++ []).toArray 142) from SA.out.res))
 unfold FillPost at HF
 have HLEN := Lib.hid (mfil_len 4 s)
 have HALL := Lib.hid ((mfil_rds 4).ok s h.all).1.2
 unfold mwd
 generalize mfil 4 s = x at *
 obtain ⟨l, s'⟩ := x
 dsimp only at HF HLEN HALL ⊢
 have hsl := sl_4A
 have hz : ∀ w : World, (zeroValue 142).run Tryd.prog w = .ok (.agg #[.int .u8 0, .int .u8 0, .int .u8 0, .int .u8 0]) w := fun w => by
  simp [zeroValue, typeInfo, go_sem]
  rfl
 clear h
 go_enter Tryd.func75, Tryd.ntmps75
 go_wp2_with fail
 refine HF.out.mono ?_
 rintro e w3 ⟨rfl, hr, hc, ho⟩
 have R3 := Lib.hid hr
 have G3 := Lib.hid (ho.grown SA.out.grown (Nat.le_refl _))
 have HB : Byt w3 w3.heap.size (some ⟨w.heap.size, 0, none⟩) l := fun hn => ⟨w.heap.size, 0, rfl, Nat.lt_of_lt_of_le SA.out.lt ho.size, fun i hi => by
  rw [Nat.zero_add, cell_of_row _ _ _ _ _ _ hc, List.getElem?_toArray, List.append_nil, List.getElem?_map, List.getElem?_eq_getElem hi, List.getD_eq_getElem?_getD, List.getElem?_eq_getElem hi]
  rfl⟩
 have H4 := Lib.hid (four_yes (some ⟨w.heap.size, 0, none⟩) 4 l w3 HB HLEN.out HALL.out)
 clear hr hc ho HB
 go_wp2_with fail
 refine H4.out.mono ?_
 rintro e w4 ⟨rfl, rfl⟩
 go_wp2
 first | exact ⟨rfl, R3.out, G3.out⟩ | (go_ret; exact ⟨rfl, R3.out, G3.out⟩)
set_option maxHeartbeats 4000000 in
theorem mst_any (q : Nat) (s : MS) (w : World) (h : MRd w q s) : Calls Tryd.prog 55 #[.pointer (some ⟨q, 0, none⟩)] w (MRdPost w q (st (mst s).1.1 (mst s).1.2) (mst s).2) := by
 have HQ := Lib.hid h.lt
 have SA := Lib.hid (MSt.new h #[.int .i64 0, .int .i64 0] 46)
 obtain ⟨A, len, cap, hq, hby, hl, hlc, hm, hall⟩ := SA.out.rd
 have c0 : (w.alloc (.cells #[.int .i64 0, .int .i64 0] 46)).cell? ⟨q, 0, none⟩ = some (.slice A len cap) := by rw [cell_of_row _ _ _ _ _ _ hq]; rfl
 have HG := Lib.hid (stGet_any A len cap s.1 _ hby (Nat.le_of_lt SA.out.rd.lt) hl hall (by omega))
 cases hd : stGet s.1 with
 | none =>
  have HP := Lib.hid (fun X (hX : MRd X q s) => mpass_no q 0 s X hX)
  rw [← show (mst s).2 = ([], false) by unfold mst; rw [hd]] at HP
  have HV : Hid ((mst s).1 = (0, 0)) := Lib.hid (by unfold mst; rw [hd])
  rw [hd] at HG
  unfold stGetV st at HG
  clear h hq hby hl hlc hall hd
  go_enter Tryd.func55, Tryd.ntmps55
  go_wp2_with fail
  refine HG.out.mono ?_
  rintro e w1 ⟨rfl, hb1⟩
  have S1 := Lib.hid (SA.out.more HQ.out (SA.out.rd.kept (row := none) (mrd_below hb1 (Nat.le_refl _)) (fun k e => by cases e)) (mrd_below hb1 (Nat.le_refl _)))
  have S2 := Lib.hid (S1.out.old (.cells #[.int .i64 0, .int .i64 0] 46))
  have N2 := Lib.hid (StAt.new w1 0 0)
  have HW1 := Lib.hid S1.out.lt
  clear hb1 c0
  go_wp2_with fail
  refine (HP.out _ S2.out.rd).mono ?_
  rintro e w3 ⟨rfl, hr, hg⟩
  have S3 := Lib.hid (S2.out.more HQ.out hr hg)
  have n3 : StAt w3 w1.heap.size 0 0 := (hg.block _ N2.out.lt (fun e => by have := Option.some.inj e; have := HW1.out; have := HQ.out; omega)).trans N2.out
  have r3 : StAt w3 w.heap.size 0 0 := S3.out.res
  have a0 := n3.c0
  have a1 := n3.c1
  have b0 := r3.c0
  have b1 := r3.c1
  have f0 := r3.fz 0
  have f1 := r3.fz 1
  have S9 := Lib.hid (r3.put 0 0)
  have P9 := Lib.hid (S3.out.put HQ.out (mrd_trans (mrd_set w3 w.heap.size 0 (.int .i64 0)) (mrd_set _ w.heap.size 1 (.int .i64 0))))
  clear hr hg n3 r3
  go_wp2
  rw [HV.out]
  refine bodyPost_ret (v := st 0 0) ?_ rfl ⟨rfl, P9.out.1, P9.out.2⟩
  exact res_st Tryd.results55 rfl S9.out
 | some p =>
  obtain ⟨n, r, k⟩ := p
  have HK := Lib.hid (stGet_some hall hd).2.1
  have HP := Lib.hid (fun X (hX : MRd X q s) => mpass_yes q k s X hX HK.out)
  rw [← show (mst s).2 = (s.1.drop k, s.2) by unfold mst; rw [hd]] at HP
  have HV : Hid ((mst s).1 = (n, r)) := Lib.hid (by unfold mst; rw [hd])
  rw [hd] at HG
  unfold stGetV st at HG
  clear h hq hby hl hlc hall hd
  go_enter Tryd.func55, Tryd.ntmps55
  go_wp2_with fail
  refine HG.out.mono ?_
  rintro e w1 ⟨rfl, hb1⟩
  have S1 := Lib.hid (SA.out.more HQ.out (SA.out.rd.kept (row := none) (mrd_below hb1 (Nat.le_refl _)) (fun k e => by cases e)) (mrd_below hb1 (Nat.le_refl _)))
  have S2 := Lib.hid (S1.out.old (.cells #[.int .i64 n, .int .i64 r] 46))
  have N2 := Lib.hid (StAt.new w1 n r)
  have HW1 := Lib.hid S1.out.lt
  clear hb1 c0
  go_wp2_with fail
  refine (HP.out _ S2.out.rd).mono ?_
  rintro e w3 ⟨rfl, hr, hg⟩
  have S3 := Lib.hid (S2.out.more HQ.out hr hg)
  have n3 : StAt w3 w1.heap.size n r := (hg.block _ N2.out.lt (fun e => by have := Option.some.inj e; have := HW1.out; have := HQ.out; omega)).trans N2.out
  have r3 : StAt w3 w.heap.size 0 0 := S3.out.res
  have a0 := n3.c0
  have a1 := n3.c1
  have b0 := r3.c0
  have b1 := r3.c1
  have f0 := r3.fz 0
  have f1 := r3.fz 1
  have S9 := Lib.hid (r3.put n r)
  have P9 := Lib.hid (S3.out.put HQ.out (mrd_trans (mrd_set w3 w.heap.size 0 (.int .i64 n)) (mrd_set _ w.heap.size 1 (.int .i64 r))))
  clear hr hg n3 r3
  go_wp2
  rw [HV.out]
  refine bodyPost_ret (v := st n r) ?_ rfl ⟨rfl, P9.out.1, P9.out.2⟩
  exact res_st Tryd.results55 rfl S9.out
theorem step_storeM {P : Program} {X : World} {ops : Array Oper} {o : Oper} {a : Act} {KK : Act → World → Prop} {Q : Exit → Act → World → Prop} {E : Prop} (hgd : o.guard = none) (ty : TypeId) (x y : Operand) (ho : o.op = .store ty x y) (g : Nat) (cells : Array Value) (hx : a.eval x = .pointer (some ⟨g, 0, none⟩)) (hy : a.eval y = .agg cells)
  (t : TypeId) (old : Array Value) (hg : X.heap[g]? = some (.cells old t (0, 0))) (hi : (P.info? ty).map (·.size) = some cells.size) (hold : old.size = cells.size) (h1 : cells.all (·.oneCell') = true)
  (h : KK (a.put o.dst undef) (X.setRow g cells)) : if Region.wanted o (yielded ops a.tmps) = true then Oper.wp P o a X KK Q else E := by
 have hw : Region.wanted o (yielded ops a.tmps) = true := by simp [Region.wanted, hgd]
 rw [if_pos hw]
 unfold Oper.wp
 rw [exec_store_at ty x y ho g cells hx hy t old hg hi hold h1]
 exact h
set_option maxHeartbeats 4000000 in
theorem mblk_any (q : Nat) (s : MS) (w : World) (h : MRd w q s) : Calls Tryd.prog 71 #[.pointer (some ⟨q, 0, none⟩)] w (MRdPost w q (KSig.v (mblk s).1) (mblk s).2) := by
 have HQ := Lib.hid h.lt
 have SA := Lib.hid (MSt.new h (KSig.cs sgz).toArray 107)
 have HC1 := Lib.hid (fun X (hX : MRd X q s) => mwd_any q s X hX)
 have HC2 := Lib.hid (fun X (hX : MRd X q (mwd s).2) => mdig_any q (mwd s).2 X hX)
 have HOK := Lib.hid (mblk_rds.ok s h.all).1
 have HLEN := Lib.hid (mfil_len 32 (mwd s).2)
 unfold mblk at HOK ⊢
 generalize mwd s = x at *
 obtain ⟨n, s1⟩ := x
 dsimp only at HC1 HC2 HOK HLEN ⊢
 generalize mfil 32 s1 = x at *
 obtain ⟨l, s2⟩ := x
 dsimp only at HC1 HC2 HOK HLEN ⊢
 have HSZ := Lib.hid (sig_size HOK.out)
 have HSQ := Lib.hid (sig_same sgz_ok HOK.out)
 have hz := zeroSig
 rw [show KSig.v ⟨0, List.replicate 32 0⟩ = .agg (KSig.cs sgz).toArray from rfl] at hz
 have hzne : ¬ (KSig.cs sgz).toArray = #[] := by decide
 clear h
 go_enter Tryd.func71, Tryd.ntmps71
 go_wp2_with fail
 refine wp_region_held_drew (S := fun w' => True) (by kernel_rfl) trivial (fun hS => ?_)
 have S1 := Lib.hid (show MSt w q s (KSig.cs sgz).toArray 107 (World.drew (w.alloc (.cells (KSig.cs sgz).toArray 107))) from SA.out.more HQ.out (SA.out.rd.kept (row := none) (mrd_below ((Below.refl _ _).drew) (Nat.le_refl _)) (fun k e => by cases e)) (mrd_below ((Below.refl _ _).drew) (Nat.le_refl _)))
 generalize World.drew _ = X1 at *
 refine wpHv (i := 0) (oi := ⟨some 3, _, _, _, _, _⟩) (v := ?_) rfl ?_ hS ?_; rotate_left; (focus (intro w9 hSw; go_simp; try with_reducible rfl)); simp only [Act.put, Z2, Z3, Z4]
 refine wpHv (i := 1) (oi := ⟨some 4, _, _, _, _, _⟩) (v := ?_) rfl ?_ hS ?_; rotate_left; (focus (intro w9 hSw; go_simp; try with_reducible rfl)); simp only [Act.put, Z2, Z3, Z4]
 refine wpHv (i := 2) (oi := ⟨some 5, _, _, _, _, _⟩) (v := ?_) rfl ?_ hS ?_; rotate_left; (focus (intro w9 hSw; go_simp; try with_reducible rfl)); simp only [Act.put, Z2, Z3, Z4]
 refine wpHv (i := 4) (oi := ⟨some 7, _, _, _, _, _⟩) (v := ?_) rfl ?_ hS ?_; rotate_left; (focus (intro w9 hSw; go_simp; try with_reducible rfl)); simp only [Act.put, Z2, Z3, Z4]
 refine wpHv (i := 5) (oi := ⟨some 8, _, _, _, _, _⟩) (v := ?_) rfl ?_ hS ?_; rotate_left; (focus (intro w9 hSw; go_simp; try with_reducible rfl)); simp only [Act.put, Z2, Z3, Z4]
 refine wpHv (i := 6) (oi := ⟨some 9, _, _, _, _, _⟩) (v := ?_) rfl ?_ hS ?_; rotate_left; (focus (intro w9 hSw; go_simp; try with_reducible rfl)); simp only [Act.put, Z2, Z3, Z4]
 refine wpAnyH_ready (rs := [3]) (by kernel_rfl) (by simp) (AllReadyH.cons (o := ⟨some 6, _, _, _, _, _⟩) rfl (fun K hK => ?_) AllReadyH.nil)
 go_simp
 refine (HC1.out _ S1.out.rd).mono ?_
 rintro e X2 ⟨rfl, hr, hg⟩
 have S2 := Lib.hid (S1.out.more HQ.out hr hg)
 clear hr hg
 refine hK.out _ _ trivial (fun hS => ?_)
 clear hK K
 try simp only [Act.put, Z2, Z3, Z4]
 refine wpAnyH_ready (rs := [7]) (by kernel_rfl) (by simp) (AllReadyH.cons (o := ⟨some 10, _, _, _, _, _⟩) rfl (fun K hK => ?_) AllReadyH.nil)
 go_simp
 refine (HC2.out _ S2.out.rd).mono ?_
 rintro e X3 ⟨rfl, hr, hg⟩
 have S3 := Lib.hid (S2.out.more HQ.out hr hg)
 clear hr hg
 refine hK.out _ _ trivial (fun hS => ?_)
 clear hK K
 try simp only [Act.put, Z2, Z3, Z4]
 refine wpHv (i := 8) (oi := ⟨some 11, _, _, _, _, _⟩) (v := (KSig.v ⟨n, l⟩)) rfl ?_ hS ?_; (focus (intro w9 hSw; have q0 := build_sig (x := ⟨n, l⟩) HLEN.out w9; dsimp only at q0; exact exec_build_at 107 #[(0, .tmp 6), (1, .tmp 10)] rfl _ (by simp only [List.map_toArray, List.map_cons, List.map_nil]; rfl) q0)); simp only [Act.put, Z2, Z3, Z4]
 refine wpAnyH_ready (rs := [9]) (by kernel_rfl) (by simp) (AllReadyH.cons (o := ⟨none, _, _, _, _, _⟩) rfl (fun K hK => ?_) AllReadyH.nil)
 refine step_storeM (o := ⟨none, _, _, _, _, _⟩) rfl 107 (.tmp 2) (.tmp 11) rfl w.heap.size (KSig.cs ⟨n, l⟩).toArray rfl rfl 107 _ S3.out.res HSZ.out HSQ.out (sig_ones _) ?_
 have P9 := Lib.hid (S3.out.put HQ.out (Y := X3.setRow w.heap.size (KSig.cs ⟨n, l⟩).toArray) mrd_row)
 have R9 := Lib.hid (show (X3.setRow w.heap.size (KSig.cs ⟨n, l⟩).toArray).heap[w.heap.size]? = some (.cells (KSig.cs ⟨n, l⟩).toArray 107) from setRow_heap _ _ _ _ _ _ S3.out.res)
 refine hK.out _ _ trivial (fun hS => ?_)
 clear hK K
 try simp only [Act.put]
 refine wpAnyH_done (by kernel_rfl) ?_ _
 clear hS
 go_wp2
 refine bodyPost_ret (v := KSig.v ⟨n, l⟩) ?_ rfl ⟨rfl, P9.out.1, P9.out.2⟩
 exact results_cell_row Tryd.results71 _ _ w.heap.size 107 _ (0, 0) _ rfl R9.out Tryd.underlying107 rfl HSZ.out
end
section
open Go.RowKit WM
set_option maxRecDepth 100000
theorem enOk_eq (n r last : Int) (e : En) : enOk n r last e = (may e.n e.r && (stLess n r e.n e.r && (decide (last < e.no) && (decide (e.no < 8) && (decide (0 ≤ e.len) && (decide (e.len ≤ 200) && (if e.len < 24 then decide ((e.bs.length : Int) = 0) else decide ((e.bs.length : Int) = e.len / 8)))))))) := by
 unfold enOk
 rw [Bool.eq_iff_iff]
 simp only [Bool.and_eq_true, decide_eq_true_eq]
 by_cases h : e.len < 24
 ·rw [if_pos h, if_pos h]
  simp only [decide_eq_true_eq]
  constructor
  ·rintro ⟨⟨⟨a, b⟩, c, d, e, f⟩, g⟩; exact ⟨a, b, c, d, e, f, by omega⟩
  ·rintro ⟨a, b, c, d, e, f, g⟩; exact ⟨⟨⟨a, b⟩, c, d, e, f⟩, by omega⟩
 ·rw [if_neg h, if_neg h]
  simp only [decide_eq_true_eq]
  constructor
  ·rintro ⟨⟨⟨a, b⟩, c, d, e, f⟩, g⟩; exact ⟨a, b, c, d, e, f, g⟩
  ·rintro ⟨a, b, c, d, e, f, g⟩; exact ⟨⟨⟨a, b⟩, c, d, e, f⟩, g⟩
end
end Go.Proofs.YtkjimhlpbgeagaaDoor
