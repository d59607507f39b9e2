import Derived.Test.YtkjimhlpbgeagaaGreatDoorF0
import Derived.Test.YtkjimhlpbgeagaaGreatDoorF24
import Derived.Test.YtkjimhlpbgeagaaGreatDoorF21
import Derived.Lib.LazyBuf
import Derived.Test.YtkjimhlpbgeagaaGreatDoorF15
/-
  What the functions that a law of this layer reaches answer, part 25. Nothing that was there is written.
-/
namespace Go.Proofs.YtkjimhlpbgeagaaGreatDoor
set_option linter.unusedVariables false
set_option linter.unusedSimpArgs false
section
open Go.RowKit WM
set_option maxRecDepth 100000
set_option maxHeartbeats 2000000 in
theorem sclone_any (A : Option Addr) (len c : Nat) (xs : List Sg) (w : World) (hl : xs.length = len) (h : KSig.row w A c xs) (hs : len ≤ 1000000) :
  Calls Tryz.prog 42 #[.slice A len c] w (CloneP KSig 102 w xs) := by
 cases A with
 | none =>
  obtain ⟨h1, h2, h3, _⟩ := h
  have hc := h3 rfl
  subst hc
  have hn : xs = [] := List.eq_nil_of_length_eq_zero (by omega)
  subst hn
  simp at hl
  subst hl
  have HP : Hid (CloneP KSig 102 w [] (.returned (.slice none 0 0)) w) := Lib.hid ⟨_, rfl, World.ownsRow_nil _ _ _ _, Below.refl _ _⟩
  have heq : (binOp .eql 44 (.slice none 0 0) (.slice none 0 0)).run Tryz.prog w = .ok (.bool true) w := run_eql_slice_nil w _ 102 none 0 0 Tryz.underlying44
  go_enter Tryz.func42, Tryz.ntmps42
  go_wp2
  go_ret
  exact HP.out
 | some ad =>
  obtain ⟨i0, hi, hz0, hz1, hz2⟩ := info_parts infoSig
  have ho := World.ownsRow_made (base := w.heap.size) (size := KSig.n) (e := 102) w #[] 0 (Nat.le_refl _) (by decide) rfl
  have HA := Lib.hid (Kind.row_below h ((Below.refl w.heap.size w).alloc (Nat.le_refl _) (.cells #[] 102)) (Nat.le_refl _))
  have HL := Lib.hid hl
  have HB := Lib.hid ((Below.refl w.heap.size w).alloc (Nat.le_refl _) (.cells #[] 102))
  have HO := Lib.hid ho
  have heq : (binOp .eql 44 (.slice (some ad) len c) (.slice none 0 0)).run Tryz.prog w = .ok (.bool false) w := run_eql_slice_nil w _ 102 (some ad) len c Tryz.underlying44
  clear h hl ho
  go_enter Tryz.func42, Tryz.ntmps42
  go_wp2_with (at_builtin; refine wpList_append_K (K := KSig) _ rfl _ _ 44 rfl w.heap.size 102 i0 _ 36 Tryz.underlying44 hi hz0 hz1 hz2 (by decide) (by omega) _ 0 [] rfl HO.out (some ad) len c xs rfl HA.out HL.out (by omega) (by simp) ?_; intro v2 w2 ho2 hg2)
  go_ret
  exact ⟨v2, rfl, by have h := ho2; rw [Nat.zero_add, List.nil_append, ← HL.out] at h; exact h, HB.out.grown hg2 (by simp) (fun g hg => own_base HO.out hg)⟩
def enPre (e : En) : List Value := .int .i64 e.no :: .int .i64 e.n :: .int .i64 e.r :: .int .i64 e.len :: e.ds.map (Value.int .u8)
theorem en_cs (x : EnA) : KEn.cs x = enPre x.e ++ [.slice x.A x.e.bs.length x.c] := rfl
theorem enPre_len {e : En} (h : e.ds.length = 32) : 36 = (enPre e).length := by simp [enPre, h]
theorem res_en1 {fn : Func} {p : Tmp} (h : fn.results = #[.cell p 46]) {tmps : Array Value} {w : World} {g : Nat} {x : EnA} (hp : tmps.getD p undef = .pointer (some ⟨g, 0, none⟩)) (hs : KEn.blk 46 w g x) (hx : x.Ok w) :
  (results fn tmps).run Tryz.prog w = .ok (KEn.v x) w := by
 have hp' : tmps[p]?.getD undef = .pointer (some ⟨g, 0, none⟩) := by simpa using hp
 have hl := load_en (Kind.at_blk hs) hx
 simp [results, h, hp', asAddr, hl]
def OwnE (w : World) (e : En) (en : Ending) (w' : World) : Prop := ∃ y : EnA, en = .returned (KEn.v y) ∧ y.e = e ∧ y.Ok w' ∧ Tag 102 w' y.A ∧ Below w.heap.size w w'
set_option maxHeartbeats 4000000 in
theorem ownE_any (x : EnA) (w : World) (hx : x.Ok w) (hs : x.e.bs.length ≤ 1000000) : Calls Tryz.prog 24 #[KEn.v x] w (OwnE w x.e) := by
 have X0 := Kind.blk_old (Kind.blk_new (K := KEn) w x 46) (.cells (KEn.cs enA0).toArray 46)
 have R0 := Kind.blk_new (K := KEn) (w.alloc (.cells (KEn.cs x).toArray 46)) enA0 46
 rw [World.size_alloc] at R0
 have B0 := Lib.hid (((Below.refl w.heap.size w).alloc (Nat.le_refl _) (.cells (KEn.cs x).toArray 46)).alloc (by rw [World.size_alloc]; omega) (.cells (KEn.cs enA0).toArray 46))
 have k36 := en_c36 (Kind.at_blk X0) hx.2.2.2.2.1
 rw [Nat.zero_add] at k36
 have HC := Lib.hid (sclone_any x.A _ x.c x.e.bs _ rfl (Kind.row_below hx.2.2.2.2.2.2 B0.out (Nat.le_refl _)) hs)
 have HX := Lib.hid hx
 have XX := Lib.hid X0
 have RR := Lib.hid R0
 have hz := zeroEn
 rw [show KEn.v enA0 = .agg (KEn.cs enA0).toArray from rfl] at hz
 have hzne : ¬ (KEn.cs enA0).toArray = #[] := by decide
 have HP36 := Lib.hid (enPre_len hx.2.2.2.2.1)
 have hv : KEn.v x = .agg (KEn.cs x).toArray := rfl
 rw [hv]
 have HECS := Lib.hid (en_cs x)
 have HBK := Lib.hid (show ∀ X : World, KEn.blk 46 X w.heap.size x → X.heap[w.heap.size]? = some (.cells (enPre x.e ++ [Value.slice x.A x.e.bs.length x.c]).toArray 46) from fun X h => h)
 generalize (KEn.cs x).toArray = E at *
 obtain ⟨e, A, c⟩ := x
 dsimp only at *
 clear hx X0 R0 hs hv
 go_enter Tryz.func24, Tryz.ntmps24
 go_wp2_with fail
 refine HC.out.mono ?_
 rintro en w1 ⟨v1, rfl, ho1, hb1⟩
 have B1 := Lib.hid (B0.out.trans (hb1.mono B0.out.size))
 have X1 := Lib.hid (Kind.blk_below XX.out hb1 (Kind.blk_lt XX.out))
 have R1 := Lib.hid (Kind.blk_below RR.out hb1 (Kind.blk_lt RR.out))
 obtain ⟨A1, c1, rfl⟩ := own_slice ho1
 have SR := Lib.hid (Kind.row_own (K := KSig) ho1 HX.out.2.2.2.2.2.2.2.2.2.2)
 have ST := Lib.hid (Tag.own ho1)
 have g0 := en_c36 (Kind.at_blk X1.out) HX.out.2.2.2.2.1
 rw [Nat.zero_add] at g0
 have gf : w1.frozen? ⟨w.heap.size, 36, none⟩ = false := frozen_of_row _ _ _ _ _ X1.out
 have HB2 := grownBy_setCell9 w1 w.heap.size 36 (.slice A1 e.bs.length c1)
 have X2 := Lib.hid (show KEn.blk 46 (w1.setCell ⟨w.heap.size, 36, none⟩ (.slice A1 e.bs.length c1)) w.heap.size ⟨e, A1, c1⟩ from by
  unfold Kind.blk
  rw [heap_setCell_same _ _ _ _ _ _ (HBK.out w1 X1.out), show KEn.cs ⟨e, A1, c1⟩ = enPre e ++ [.slice A1 e.bs.length c1] from rfl]
  congr 2
  have h36 := HP36.out
  simp [h36])
 have Y2 := Lib.hid (EnA.kept (x := ⟨e, A1, c1⟩) ⟨HX.out.1, HX.out.2.1, HX.out.2.2.1, HX.out.2.2.2.1, HX.out.2.2.2.2.1, HX.out.2.2.2.2.2.1, SR.out⟩ ST.out HB2 (NoT.of X1.out (by decide)))
 have R2 := Lib.hid (show KEn.blk 46 (w1.setCell ⟨w.heap.size, 36, none⟩ (.slice A1 e.bs.length c1)) (w.heap.size + 1) enA0 from (Below.heap_setCell _ _ _ _ (by show w.heap.size + 1 ≠ w.heap.size; omega)).trans R1.out)
 have B2 := Lib.hid (B1.out.setCell (p := ⟨w.heap.size, 36, none⟩) (Nat.le_refl _) (.slice A1 e.bs.length c1))
 have LE := Lib.hid (load_en (Kind.at_blk X2.out) Y2.out.1)
 rw [show KEn.v ⟨e, A1, c1⟩ = .agg (KEn.cs ⟨e, A1, c1⟩).toArray from rfl] at LE
 have SZ := Lib.hid (en_size Y2.out.1)
 have SQ := Lib.hid (show (KEn.cs enA0).toArray.size = (KEn.cs ⟨e, A1, c1⟩).toArray.size by rw [enA0_size, List.size_toArray]; exact (EnA.len Y2.out.1).symm)
 have SO := Lib.hid (en_ones ⟨e, A1, c1⟩)
 have GS := grownBy_setRow (w1.setCell ⟨w.heap.size, 36, none⟩ (.slice A1 e.bs.length c1)) (w.heap.size + 1) (KEn.cs ⟨e, A1, c1⟩).toArray
 have Y3 := Lib.hid (EnA.kept Y2.out.1 Y2.out.2 GS (NoT.of R2.out (by decide)))
 have X3 := Lib.hid (show KEn.blk 46 ((w1.setCell ⟨w.heap.size, 36, none⟩ (.slice A1 e.bs.length c1)).setRow (w.heap.size + 1) (KEn.cs ⟨e, A1, c1⟩).toArray) (w.heap.size + 1) ⟨e, A1, c1⟩ from setRow_heap _ _ _ _ _ _ R2.out)
 have B3 := Lib.hid (below_setRow B2.out (show w.heap.size ≤ w.heap.size + 1 by omega) (KEn.cs ⟨e, A1, c1⟩).toArray)
 have NB := Lib.hid R2.out
 unfold Kind.blk at NB
 clear hb1 ho1 HB2 GS k36 hz hzne
 go_wp2_with (first | ((with_reducible refine wpList_load_at (o := ⟨some 7, .load 46 (.tmp 1), _, _, _, _⟩) ?e1 46 (.tmp 1) ?e2 ⟨w.heap.size, 0, none⟩ ?e3 _ LE.out ?_); (case e1 => rfl); (case e2 => rfl); (case e3 => rfl)) | ((with_reducible refine wpList_store_row (o := ⟨none, .store 46 (.tmp 2) (.tmp 7), _, _, _, _⟩) ?e1 46 (.tmp 2) (.tmp 7) ?e2 (w.heap.size + 1) (KEn.cs ⟨e, A1, c1⟩).toArray ?e3 ?e4 46 _ NB.out SZ.out SQ.out SO.out ?_); (case e1 => rfl); (case e2 => rfl); (case e3 => rfl); (case e4 => rfl)))
 refine bodyPost_ret (v := KEn.v ⟨e, A1, c1⟩) ?_ rfl ?_
 ·exact res_en1 Tryz.results24 rfl X3.out Y3.out.1
 ·exact ⟨_, rfl, rfl, Y3.out.1, Y3.out.2, B3.out⟩
end
section
open Go.RowKit WM
set_option maxRecDepth 100000
set_option maxHeartbeats 8000000 in
theorem plineIn_any (m : MnA) (z : List Int) (w : World) (h : m.Ok w) (hz16 : z.length = 16 ∧ AllBytes z) : Calls Tryz.prog 23 #[m.v, .agg (bvals z)] w (LinePost w (lineA m.ls z)) := by
 have S0 := LineS.new w m z
 obtain ⟨w1, hw1⟩ : ∃ w1, w1 = ((w.alloc (.cells m.cs.toArray 26)).alloc (.cells (bvals z) 30)).alloc (.cells (KLn.cs lnA0).toArray 35) := ⟨_, rfl⟩
 rw [← hw1] at S0
 have h1 := MnA.below h (S0.below.mono (Nat.le_refl _))
 have HS := Lib.hid (fun X (hX : Below w1.heap.size w1 X) => S0.go hX)
 have HC := Lib.hid (fun X (hX : Below w1.heap.size w1 X) => (S0.go hX).a.c32 h1.1)
 have HI := Lib.hid (fun X (hX : Below w1.heap.size w1 X) => Kind.at_blk (S0.go hX).b)
 have HR := Lib.hid (fun h0 => ln_row h1.2.2 h0)
 have HOK := Lib.hid (fun k (hk : k < m.ls.length) => show LnA.Ok w1 (m.ls.getD k lnA0) from Kind.row_ok h1.2.2 hk)
 have HOKW := Lib.hid (fun k (hk : k < m.ls.length) => show LnA.Ok w (m.ls.getD k lnA0) from Kind.row_ok h.2.2 hk)
 have HZ := Lib.hid hz16
 have HB1 := Lib.hid S0.below
 have hnb : m.ls.length ≤ 9223372036854775807 := by
  have a1 := h1.2.2.1
  have a2 := h1.2.2.2.1
  simp only [maxLen] at a2
  omega
 have HV := Lib.hid (show lineA m.ls z = lineA (m.ls.drop 0) z by rw [List.drop_zero])
 have c1 := HC.out w1 (Below.refl _ _)
 have hv : m.v = .agg m.cs.toArray := rfl
 rw [hv]
 generalize lineA m.ls z = V at *
 generalize m.cs.toArray = E at *
 obtain ⟨base, A, c, ls⟩ := m
 dsimp only at *
 have HLS := Lib.hid (fun k (hk : k < ls.length) => lineA_step z hk)
 generalize hn : ls.length = n at *
 have HN := Lib.hid hn
 have hz := zeroLn
 rw [show KLn.v lnA0 = .agg (KLn.cs lnA0).toArray from rfl] at hz
 have HB0 := Lib.hid buildLn0
 have hzne : ¬ (KLn.cs lnA0).toArray = #[] := by decide
 have HZS := Lib.hid lnA0_size
 have SOZ := Lib.hid (ln_ones lnA0)
 clear h h1 S0 hv hn hz16
 subst hw1
 go_enter Tryz.func23, Tryz.ntmps23
 go_wp2
 clear c1
 generalize ((w.alloc (.cells E 26)).alloc (.cells (bvals z) 30)).alloc (.cells (KLn.cs lnA0).toArray 35) = w1 at *
 go_loopw [11] (fun i wr => ∃ k : Nat, k ≤ n ∧ i = .int .i64 k ∧ Below w1.heap.size w1 wr ∧ V = lineA (ls.drop k) z) (fun i _ => n - (intOf i).toNat)
 case atStart => exact ⟨0, Nat.zero_le _, rfl, Below.refl _ _, HV.out⟩
 case round =>
  obtain ⟨k, hk, rfl, hb, hf⟩ := hrel
  have HBB := Lib.hid hb
  by_cases hlt : k < n
  ·have t1 : (k : Int) < (n : Int) := by omega
   obtain ⟨b1, off1, hA1, hb1w, hx1, hi1⟩ := HR.out (by omega)
   have ix1 := hi1 k hlt k rfl
   rw [← hA1] at ix1
   have hok := LnA.below (HOK.out k hlt) (hb.mono (Nat.le_refl _))
   have LL := Lib.hid (load_ln (Kind.at_same (hx1 k hlt) (hb.block b1 hb1w)) hok)
   rw [HLS.out k hlt] at hf
   have HOW := Lib.hid (HOKW.out k hlt)
   generalize ls.getD k lnA0 = x at *
   rw [show KLn.v x = .agg (KLn.cs x).toArray from rfl] at LL
   have hba : Below wr.heap.size wr (wr.alloc (.cells (KLn.cs x).toArray 35)) := (Below.refl _ _).alloc (Nat.le_refl _) _
   have hxb := Kind.blk_new (K := KLn) wr x 35
   have BX := Lib.hid (hb.trans (hba.mono hb.size))
   have L7 := Lib.hid (load_ln (Kind.at_blk hxb) (LnA.below hok hba))
   rw [show KLn.v x = .agg (KLn.cs x).toArray from rfl] at L7
   have LZ := Lib.hid (load_idM (ln_id (Kind.at_blk hxb) hok.1) hok.1)
   have LI := Lib.hid (load_idM (HI.out _ BX.out) HZ.out.1)
   have HQ := Lib.hid (show ∀ X, (Op.equalIn 10000 30 (.agg (bvals x.z)) (.agg (bvals z))).run Tryz.prog X = .ok (decide (x.z = z)) X from fun X => by
    rw [eq_id hok.2.1 HZ.out.2 hok.1 HZ.out.1 X]; congr 1; rw [Bool.eq_iff_iff]; simp)
   have SZX := Lib.hid (ln_size hok)
   have SQX := Lib.hid (show (KLn.cs lnA0).toArray.size = (KLn.cs x).toArray.size by rw [lnA0_size, List.size_toArray]; exact (LnA.len hok).symm)
   have SOX := Lib.hid (ln_ones x)
   have NB := Lib.hid (HS.out _ BX.out).c
   have BB := Lib.hid (HS.out _ BX.out).below
   have XB := Lib.hid (show KLn.blk 35 ((wr.alloc (.cells (KLn.cs x).toArray 35)).setRow (w.heap.size + 1 + 1) (KLn.cs x).toArray) (w.heap.size + 1 + 1) x from setRow_heap _ _ _ _ _ _ NB.out)
   have B9 := Lib.hid (below_setRow BB.out (show w.heap.size ≤ w.heap.size + 1 + 1 by omega) (KLn.cs x).toArray)
   have OX2 := Lib.hid (show LnA.Ok ((wr.alloc (.cells (KLn.cs x).toArray 35)).setRow (w.heap.size + 1 + 1) (KLn.cs x).toArray) x from LnA.below HOW.out B9.out)
   unfold Kind.blk at NB
   clear hx1 hi1 hA1 hok hb hb1w hba hxb
   by_cases he : x.z = z
   ·rw [if_pos he] at hf
    rw [decide_eq_true he] at HQ
    have HF := Lib.hid hf
    clear hf he
    go_wp2_with (first | ((with_reducible refine wpList_load_at (o := ⟨some 14, .load 35 (.tmp 13), _, _, _, _⟩) ?e1 35 (.tmp 13) ?e2 ⟨b1, off1 + k * 19, none⟩ ?e3 _ LL.out ?_); (case e1 => rfl); (case e2 => rfl); (case e3 => rfl)) | ((with_reducible refine wpList_store_new (o := ⟨none, .store 35 (.tmp 7) (.tmp 14), _, _, _, _⟩) ?e1 35 (.tmp 7) (.tmp 14) ?e2 ?e3 (KLn.cs lnA0).toArray (KLn.cs x).toArray ?e4 SZX.out SQX.out SOX.out ?_); (case e1 => rfl); (case e2 => rfl); (case e3 => rfl); (case e4 => rfl)) | ((with_reducible refine wpList_load_at (o := ⟨some 16, .load 30 (.tmp 15), _, _, _, _⟩) ?e1 30 (.tmp 15) ?e2 ⟨wr.heap.size, 0, none⟩ ?e3 _ LZ.out ?_); (case e1 => rfl); (case e2 => rfl); (case e3 => rfl)) | ((with_reducible refine wpList_load_at (o := ⟨some 17, .load 30 (.tmp 3), _, _, _, _⟩) ?e1 30 (.tmp 3) ?e2 ⟨(w.heap.size + 1), 0, none⟩ ?e3 _ LI.out ?_); (case e1 => rfl); (case e2 => rfl); (case e3 => rfl)) | ((with_reducible refine wpList_eqlM (o := ⟨some 18, .binOp .eql 30 (.tmp 16) (.tmp 17) 30, _, _, _, _⟩) ?e1 30 (.tmp 16) (.tmp 17) 30 ?e2 ?e3 ?e4 guardIdM (HQ.out _) ?_); (case e1 => rfl); (case e2 => rfl); (case e3 => rfl); (case e4 => rfl)) | ((with_reducible refine wpList_load_at (o := ⟨some 19, .load 35 (.tmp 7), _, _, _, _⟩) ?e1 35 (.tmp 7) ?e2 ⟨wr.heap.size, 0, none⟩ ?e3 _ L7.out ?_); (case e1 => rfl); (case e2 => rfl); (case e3 => rfl)) | ((with_reducible refine wpList_store_row (o := ⟨none, .store 35 (.tmp 4) (.tmp 19), _, _, _, _⟩) ?e1 35 (.tmp 4) (.tmp 19) ?e2 (w.heap.size + 1 + 1) (KLn.cs x).toArray ?e3 ?e4 35 _ NB.out SZX.out SQX.out SOX.out ?_); (case e1 => rfl); (case e2 => rfl); (case e3 => rfl); (case e4 => rfl)))
    refine bodyPost_ret (v := .tuple #[KLn.v x, .bool true]) ?_ rfl ?_
    ·exact res_ln2 Tryz.results23 rfl XB.out OX2.out
    ·rw [HF.out]
     exact ⟨rfl, B9.out⟩
   ·rw [if_neg he] at hf
    rw [decide_eq_false he] at HQ
    have HF := Lib.hid hf
    clear hf he
    go_wp2_with (first | ((with_reducible refine wpList_load_at (o := ⟨some 14, .load 35 (.tmp 13), _, _, _, _⟩) ?e1 35 (.tmp 13) ?e2 ⟨b1, off1 + k * 19, none⟩ ?e3 _ LL.out ?_); (case e1 => rfl); (case e2 => rfl); (case e3 => rfl)) | ((with_reducible refine wpList_store_new (o := ⟨none, .store 35 (.tmp 7) (.tmp 14), _, _, _, _⟩) ?e1 35 (.tmp 7) (.tmp 14) ?e2 ?e3 (KLn.cs lnA0).toArray (KLn.cs x).toArray ?e4 SZX.out SQX.out SOX.out ?_); (case e1 => rfl); (case e2 => rfl); (case e3 => rfl); (case e4 => rfl)) | ((with_reducible refine wpList_load_at (o := ⟨some 16, .load 30 (.tmp 15), _, _, _, _⟩) ?e1 30 (.tmp 15) ?e2 ⟨wr.heap.size, 0, none⟩ ?e3 _ LZ.out ?_); (case e1 => rfl); (case e2 => rfl); (case e3 => rfl)) | ((with_reducible refine wpList_load_at (o := ⟨some 17, .load 30 (.tmp 3), _, _, _, _⟩) ?e1 30 (.tmp 3) ?e2 ⟨(w.heap.size + 1), 0, none⟩ ?e3 _ LI.out ?_); (case e1 => rfl); (case e2 => rfl); (case e3 => rfl)) | ((with_reducible refine wpList_eqlM (o := ⟨some 18, .binOp .eql 30 (.tmp 16) (.tmp 17) 30, _, _, _, _⟩) ?e1 30 (.tmp 16) (.tmp 17) 30 ?e2 ?e3 ?e4 guardIdM (HQ.out _) ?_); (case e1 => rfl); (case e2 => rfl); (case e3 => rfl); (case e4 => rfl)))
    go_roundw
    case rel => exact ⟨k + 1, by omega, by go_num, BX.out, HF.out⟩
    case measure => simp [intOf]; omega
  ·obtain rfl : k = n := by omega
   have t1 : ¬ (k : Int) < (k : Int) := by omega
   have HF := Lib.hid (show V = none by rw [hf, List.drop_eq_nil_of_le (by rw [HN.out]; exact Nat.le_refl _)]; rfl)
   have NB := Lib.hid (HS.out _ hb).c
   have BB := Lib.hid (HS.out _ hb).below
   have XB := Lib.hid (show KLn.blk 35 (wr.setRow (w.heap.size + 1 + 1) (KLn.cs lnA0).toArray) (w.heap.size + 1 + 1) lnA0 from setRow_heap _ _ _ _ _ _ NB.out)
   have B9 := Lib.hid (below_setRow BB.out (show w.heap.size ≤ w.heap.size + 1 + 1 by omega) (KLn.cs lnA0).toArray)
   have SZZ := Lib.hid (ln_size (lnA0_ok wr))
   unfold Kind.blk at NB
   clear hf hb
   go_wp2_with (first | ((with_reducible refine wpList_build_at (o := ⟨some 21, .build 35 #[], _, _, _, _⟩) ?e1 35 #[] ?e2 #[] ?e3 _ (HB0.out _) ?_); (case e1 => rfl); (case e2 => rfl); (case e3 => simp)) | ((with_reducible refine wpList_store_row (o := ⟨none, .store 35 (.tmp 4) (.tmp 21), _, _, _, _⟩) ?e1 35 (.tmp 4) (.tmp 21) ?e2 (w.heap.size + 1 + 1) (KLn.cs lnA0).toArray ?e3 ?e4 35 _ NB.out SZZ.out rfl SOZ.out ?_); (case e1 => rfl); (case e2 => rfl); (case e3 => rfl); (case e4 => rfl)))
   refine bodyPost_ret (v := .tuple #[KLn.v lnA0, .bool false]) ?_ rfl ?_
   ·exact res_ln2 Tryz.results23 rfl XB.out (lnA0_ok _)
   ·rw [HF.out]
    exact ⟨rfl, B9.out⟩
end
section
open Go.RowKit WM
set_option maxRecDepth 100000
def FindN (w : World) (V : Option EnA) (e : Ending) (w' : World) : Prop := ∃ y : EnA, e = .returned (.tuple #[KEn.v y, .bool V.isSome]) ∧ y.e = (V.getD enA0).e ∧ y.Ok w' ∧ Below w.heap.size w w'
set_option maxHeartbeats 8000000 in
theorem pfind12_any (m : MnA) (z : List Int) (no : Int) (w : World) (h : m.Ok w) (hz16 : z.length = 16 ∧ AllBytes z) (hbd : ∀ x ∈ m.ls, x.es.length ≤ 1000000 ∧ ∀ e ∈ x.es, e.e.bs.length ≤ 1000000) : Calls Tryz.prog 9 #[m.v, .agg (bvals z), .int .i64 no] w (FindN w (findA m.ls z no)) := by
 have S0 := FindS.new w m z
 obtain ⟨w1, hw1⟩ : ∃ w1, w1 = ((w.alloc (.cells m.cs.toArray 26)).alloc (.cells (bvals z) 30)).alloc (.cells (KEn.cs enA0).toArray 46) := ⟨_, rfl⟩
 rw [← hw1] at S0
 have h1 := MnA.below h (S0.below.mono (Nat.le_refl _))
 have HS := Lib.hid (fun X (hX : Below w1.heap.size w1 X) => S0.go hX)
 have HB1 := Lib.hid S0.below
 have LM := Lib.hid (load_mn S0.a h1)
 have LI := Lib.hid (load_idM (Kind.at_blk S0.b) hz16.1)
 have HLN := Lib.hid (plineIn_any m z w1 h1 hz16)
 unfold LinePost at HLN
 have OKX := Lib.hid (fun X (hX : Below w.heap.size w X) => show ((lineA m.ls z).getD lnA0).Ok X from lineA_ok (MnA.below h hX).2.2)
 have HXB : Hid (((lineA m.ls z).getD lnA0).es.length ≤ 1000000 ∧ ∀ e ∈ ((lineA m.ls z).getD lnA0).es, e.e.bs.length ≤ 1000000) := Lib.hid (by
  cases hl : lineA m.ls z with
  | none => exact ⟨Nat.zero_le _, fun e he => by cases he⟩
  | some x => exact hbd x (List.mem_of_find?_eq_some hl))
 have HV := Lib.hid (show findA m.ls z no = entA (((lineA m.ls z).getD lnA0).es.drop 0) no by rw [List.drop_zero]; rfl)
 have hv : m.v = .agg m.cs.toArray := rfl
 rw [hv] at LM HLN ⊢
 generalize findA m.ls z no = V at *
 generalize hx : (lineA m.ls z).getD lnA0 = x at *
 generalize (lineA m.ls z).isSome = sm at *
 have OKW := Lib.hid (OKX.out w (Below.refl _ _))
 rw [show KLn.v x = .agg (KLn.cs x).toArray from rfl] at HLN
 have hz := zeroEn
 rw [show KEn.v enA0 = .agg (KEn.cs enA0).toArray from rfl] at hz
 have hzl := zeroLn
 rw [show KLn.v lnA0 = .agg (KLn.cs lnA0).toArray from rfl] at hzl
 have HB0 := Lib.hid buildEn0
 have hzne : ¬ (KEn.cs enA0).toArray = #[] := by decide
 have hzne2 : ¬ (KLn.cs lnA0).toArray = #[] := by decide
 have SOZ := Lib.hid (en_ones enA0)
 have SZX := Lib.hid (ln_size OKW.out)
 have SQX := Lib.hid (show (KLn.cs lnA0).toArray.size = (KLn.cs x).toArray.size by rw [lnA0_size, List.size_toArray]; exact (LnA.len OKW.out).symm)
 have SOX := Lib.hid (ln_ones x)
 have HZ16X := Lib.hid OKW.out.1
 have HMb : x.es.length ≤ 9223372036854775807 := by have := HXB.out.1; omega
 generalize m.cs.toArray = E at *
 clear S0 h1 h hz16 hbd hv hx
 subst hw1
 go_enter Tryz.func9, Tryz.ntmps9
 go_wp2_with (first | ((with_reducible refine wpList_load_at (o := ⟨some 13, .load 26 (.tmp 3), _, _, _, _⟩) ?e1 26 (.tmp 3) ?e2 ⟨w.heap.size, 0, none⟩ ?e3 _ LM.out ?_); (case e1 => rfl); (case e2 => rfl); (case e3 => rfl)) | ((with_reducible refine wpList_load_at (o := ⟨some 14, .load 30 (.tmp 4), _, _, _, _⟩) ?e1 30 (.tmp 4) ?e2 ⟨(w.heap.size + 1), 0, none⟩ ?e3 _ LI.out ?_); (case e1 => rfl); (case e2 => rfl); (case e3 => rfl)))
 refine HLN.out.mono ?_
 rintro e w2 ⟨rfl, hb2⟩
 generalize ((w.alloc (.cells E 26)).alloc (.cells (bvals z) 30)).alloc (.cells (KEn.cs enA0).toArray 46) = w1 at *
 have hxb := Kind.blk_new (K := KLn) w2 x 35
 have hba : Below w2.heap.size w2 (w2.alloc (.cells (KLn.cs x).toArray 35)) := (Below.refl _ _).alloc (Nat.le_refl _) _
 have B3 := Lib.hid (hb2.trans (hba.mono hb2.size))
 have k18 := ln_c18 (Kind.at_blk hxb) HZ16X.out
 rw [Nat.zero_add] at k18
 have BW3 := Lib.hid (HB1.out.trans (B3.out.mono HB1.out.size))
 clear hb2 hxb hba
 go_wp2_with (first | ((with_reducible refine wpList_store_new (o := ⟨none, .store 35 (.tmp 8) (.tmp 16), _, _, _, _⟩) ?e1 35 (.tmp 8) (.tmp 16) ?e2 ?e3 (KLn.cs lnA0).toArray (KLn.cs x).toArray ?e4 SZX.out SQX.out SOX.out ?_); (case e1 => rfl); (case e2 => rfl); (case e3 => rfl); (case e4 => rfl)))
 generalize w2.alloc (.cells (KLn.cs x).toArray 35) = w3 at *
 clear k18 hzl hzne2
 have OKX3 := Lib.hid (OKX.out w3 BW3.out)
 have HR := Lib.hid (fun h0 => en_row OKX3.out.2.2.2.2 h0)
 have HEO := Lib.hid (fun j (hj : j < x.es.length) => show EnA.Ok w3 (x.es.getD j enA0) from Kind.row_ok OKX3.out.2.2.2.2 hj)
 have HBD := Lib.hid (fun k (hk : k < x.es.length) => HXB.out.2 (x.es.getD k enA0) (by rw [List.getD_eq_getElem?_getD, List.getElem?_eq_getElem hk]; exact List.getElem_mem _))
 have HES := Lib.hid (fun k (hk : k < x.es.length) => entA_step no hk)
 obtain ⟨lz, ln, lr, A, c, es⟩ := x
 dsimp only at *
 generalize hn : es.length = n at *
 have HN := Lib.hid hn
 clear hn
 go_loopw [21] (fun i wr => ∃ k : Nat, k ≤ n ∧ i = .int .i64 k ∧ Below w3.heap.size w3 wr ∧ V = entA (es.drop k) no) (fun i _ => n - (intOf i).toNat)
 case atStart => exact ⟨0, Nat.zero_le _, rfl, Below.refl _ _, HV.out⟩
 case round =>
  obtain ⟨k, hk, rfl, hb, hf⟩ := hrel
  by_cases hlt : k < n
  ·have t1 : (k : Int) < (n : Int) := by omega
   obtain ⟨b1, off1, hA1, hb1w, hx1, hi1⟩ := HR.out (by omega)
   have ix1 := hi1 k hlt k rfl
   rw [← hA1] at ix1
   have hok := EnA.below (HEO.out k hlt) (hb.mono (Nat.le_refl _))
   have LL := Lib.hid (load_en (Kind.at_same (hx1 k hlt) (hb.block b1 hb1w)) hok)
   rw [HES.out k hlt] at hf
   have HYB := Lib.hid (HBD.out k hlt)
   generalize es.getD k enA0 = y at *
   rw [show KEn.v y = .agg (KEn.cs y).toArray from rfl] at LL
   have hba : Below wr.heap.size wr (wr.alloc (.cells (KEn.cs y).toArray 46)) := (Below.refl _ _).alloc (Nat.le_refl _) _
   have hxb := Kind.blk_new (K := KEn) wr y 46
   have BX := Lib.hid (hb.trans (hba.mono hb.size))
   have B1 := Lib.hid (B3.out.trans (BX.out.mono B3.out.size))
   have hok2 := EnA.below hok hba
   have L7 := Lib.hid (load_en (Kind.at_blk hxb) hok2)
   have HOW := Lib.hid (ownE_any y _ hok2 HYB.out)
   unfold OwnE at HOW
   rw [show KEn.v y = .agg (KEn.cs y).toArray from rfl] at L7 HOW
   have c0 := en_c0 (Kind.at_blk hxb)
   have SZY := Lib.hid (en_size hok)
   have SQY := Lib.hid (show (KEn.cs enA0).toArray.size = (KEn.cs y).toArray.size by rw [enA0_size, List.size_toArray]; exact (EnA.len hok).symm)
   have SOY := Lib.hid (en_ones y)
   clear hx1 hi1 hA1 hok hb hb1w hba hxb hok2
   by_cases he : y.e.no = no
   ·rw [if_pos he] at hf
    have HF := Lib.hid hf
    clear hf
    go_wp2_with (first | ((with_reducible refine wpList_load_at (o := ⟨some 24, .load 46 (.tmp 23), _, _, _, _⟩) ?e1 46 (.tmp 23) ?e2 ⟨b1, off1 + k * 37, none⟩ ?e3 _ LL.out ?_); (case e1 => rfl); (case e2 => rfl); (case e3 => rfl)) | ((with_reducible refine wpList_store_new (o := ⟨none, .store 46 (.tmp 11) (.tmp 24), _, _, _, _⟩) ?e1 46 (.tmp 11) (.tmp 24) ?e2 ?e3 (KEn.cs enA0).toArray (KEn.cs y).toArray ?e4 SZY.out SQY.out SOY.out ?_); (case e1 => rfl); (case e2 => rfl); (case e3 => rfl); (case e4 => rfl)) | ((with_reducible refine wpList_load_at (o := ⟨some 29, .load 46 (.tmp 11), _, _, _, _⟩) ?e1 46 (.tmp 11) ?e2 ⟨wr.heap.size, 0, none⟩ ?e3 _ L7.out ?_); (case e1 => rfl); (case e2 => rfl); (case e3 => rfl)))
    refine HOW.out.mono ?_
    rintro e w5 ⟨q, rfl, hqe, hqo, hqt, hb5⟩
    have B5 := Lib.hid (B1.out.trans (hb5.mono B1.out.size))
    have NB := Lib.hid (HS.out w5 B5.out).c
    have BB := Lib.hid (HS.out w5 B5.out).below
    have GS := grownBy_setRow w5 (w.heap.size + 1 + 1) (KEn.cs q).toArray
    have KX := Lib.hid (EnA.kept hqo hqt GS (NoT.of NB.out (by decide)))
    have XB := Lib.hid (show KEn.blk 46 (w5.setRow (w.heap.size + 1 + 1) (KEn.cs q).toArray) (w.heap.size + 1 + 1) q from setRow_heap _ _ _ _ _ _ NB.out)
    have B9 := Lib.hid (below_setRow BB.out (show w.heap.size ≤ w.heap.size + 1 + 1 by omega) (KEn.cs q).toArray)
    have HQE := Lib.hid hqe
    have SZQ := Lib.hid (en_size hqo)
    have SQQ := Lib.hid (show (KEn.cs enA0).toArray.size = (KEn.cs q).toArray.size by rw [enA0_size, List.size_toArray]; exact (EnA.len hqo).symm)
    have SOQ := Lib.hid (en_ones q)
    rw [show KEn.v q = .agg (KEn.cs q).toArray from rfl]
    unfold Kind.blk at NB
    clear hb5 GS hqe hqo hqt he c0 ix1
    go_wp2_with (first | ((with_reducible refine wpList_store_row (o := ⟨none, .store 46 (.tmp 6) (.tmp 30), _, _, _, _⟩) ?e1 46 (.tmp 6) (.tmp 30) ?e2 (w.heap.size + 1 + 1) (KEn.cs q).toArray ?e3 ?e4 46 _ NB.out SZQ.out SQQ.out SOQ.out ?_); (case e1 => rfl); (case e2 => rfl); (case e3 => rfl); (case e4 => rfl)))
    refine bodyPost_ret (v := .tuple #[KEn.v q, .bool true]) ?_ rfl ?_
    ·exact res_en2 Tryz.results9 rfl XB.out KX.out.1
    ·rw [HF.out]
     exact ⟨q, rfl, HQE.out, KX.out.1, B9.out⟩
   ·rw [if_neg he] at hf
    have HF := Lib.hid hf
    clear hf
    go_wp2_with (first | ((with_reducible refine wpList_load_at (o := ⟨some 24, .load 46 (.tmp 23), _, _, _, _⟩) ?e1 46 (.tmp 23) ?e2 ⟨b1, off1 + k * 37, none⟩ ?e3 _ LL.out ?_); (case e1 => rfl); (case e2 => rfl); (case e3 => rfl)) | ((with_reducible refine wpList_store_new (o := ⟨none, .store 46 (.tmp 11) (.tmp 24), _, _, _, _⟩) ?e1 46 (.tmp 11) (.tmp 24) ?e2 ?e3 (KEn.cs enA0).toArray (KEn.cs y).toArray ?e4 SZY.out SQY.out SOY.out ?_); (case e1 => rfl); (case e2 => rfl); (case e3 => rfl); (case e4 => rfl)))
    go_roundw
    case rel => exact ⟨k + 1, by omega, by go_num, BX.out, HF.out⟩
    case measure => simp [intOf]; omega
  ·obtain rfl : k = n := by omega
   have t1 : ¬ (k : Int) < (k : Int) := by omega
   have HF := Lib.hid (show V = none by rw [hf, List.drop_eq_nil_of_le (by rw [HN.out]; exact Nat.le_refl _)]; rfl)
   have B5 := Lib.hid (B3.out.trans (hb.mono B3.out.size))
   have NB := Lib.hid (HS.out wr B5.out).c
   have BB := Lib.hid (HS.out wr B5.out).below
   have XB := Lib.hid (show KEn.blk 46 (wr.setRow (w.heap.size + 1 + 1) (KEn.cs enA0).toArray) (w.heap.size + 1 + 1) enA0 from setRow_heap _ _ _ _ _ _ NB.out)
   have B9 := Lib.hid (below_setRow BB.out (show w.heap.size ≤ w.heap.size + 1 + 1 by omega) (KEn.cs enA0).toArray)
   have SZZ := Lib.hid (en_size (enA0_ok wr))
   unfold Kind.blk at NB
   clear hf hb
   go_wp2_with (first | ((with_reducible refine wpList_build_at (o := ⟨some 32, .build 46 #[], _, _, _, _⟩) ?e1 46 #[] ?e2 #[] ?e3 _ (HB0.out _) ?_); (case e1 => rfl); (case e2 => rfl); (case e3 => simp)) | ((with_reducible refine wpList_store_row (o := ⟨none, .store 46 (.tmp 6) (.tmp 32), _, _, _, _⟩) ?e1 46 (.tmp 6) (.tmp 32) ?e2 (w.heap.size + 1 + 1) (KEn.cs enA0).toArray ?e3 ?e4 46 _ NB.out SZZ.out rfl SOZ.out ?_); (case e1 => rfl); (case e2 => rfl); (case e3 => rfl); (case e4 => rfl)))
   refine bodyPost_ret (v := .tuple #[KEn.v enA0, .bool false]) ?_ rfl ?_
   ·exact res_en2 Tryz.results9 rfl XB.out (enA0_ok _)
   ·rw [HF.out]
    exact ⟨enA0, rfl, rfl, enA0_ok _, B9.out⟩
end
end Go.Proofs.YtkjimhlpbgeagaaGreatDoor
