import Derived.Test.YtbkopnpafmjicaaGreatDoorR0
import Derived.Test.YtbkopnpafmjicaaGreatDoorR15
/-
  What the functions that a law of this layer reaches answer, part 16. Nothing that was there is written.
-/
namespace Go.Proofs.YtbkopnpafmjicaaGreatDoor
set_option linter.unusedVariables false
set_option linter.unusedSimpArgs false
section
open Go.RowKit WM
set_option maxRecDepth 100000
def lineA (ls : List LnA) (z : List Int) : Option LnA := ls.find? fun x => decide (x.z = z)
theorem lineA_step {ls : List LnA} {k : Nat} (z : List Int) (hk : k < ls.length) : lineA (ls.drop k) z = if (ls.getD k lnA0).z = z then some (ls.getD k lnA0) else lineA (ls.drop (k + 1)) z := by
 rw [List.drop_eq_getElem_cons hk]
 have h : ls.getD k lnA0 = ls[k] := by rw [List.getD_eq_getElem?_getD, List.getElem?_eq_getElem hk]; rfl
 rw [h]
 unfold lineA
 by_cases hz : ls[k].z = z
 ·rw [if_pos hz, List.find?_cons_of_pos (by simpa using hz)]
 ·rw [if_neg hz, List.find?_cons_of_neg (by simpa using hz)]
theorem lineA_x (ls : List LnA) (z : List Int) : (lineA ls z).map (·.x) = lfind (ls.map (·.x)) z := by
 unfold lineA lfind
 induction ls with
 | nil => rfl
 | cons x ls ih =>
  rw [List.map_cons]
  by_cases hz : x.z = z
  ·rw [List.find?_cons_of_pos (by simpa using hz), List.find?_cons_of_pos (by show decide (x.x.z = z) = true; exact decide_eq_true hz)]; rfl
  ·rw [List.find?_cons_of_neg (by simpa using hz), List.find?_cons_of_neg (by show ¬ decide (x.x.z = z) = true; rw [decide_eq_true_eq]; exact hz)]; exact ih
theorem lineA_ok {w : World} {A : Option Addr} {c : Nat} {ls : List LnA} {z : List Int} (h : KLn.row w A c ls) : (((lineA ls z).getD lnA0).Ok w) := by
 cases hl : lineA ls z with
 | none => exact ⟨rfl, by show AllBytes z16m; unfold AllBytes z16m; decide, by decide, by decide, Kind.row_nil w none 0 (by decide) (fun _ => rfl)⟩
 | some x => exact h.2.2.2.2 x (List.mem_of_find?_eq_some hl)
def LinePost (w : World) (V : Option LnA) (e : Ending) (w' : World) : Prop := e = .returned (.tuple #[KLn.v (V.getD lnA0), .bool V.isSome]) ∧ Below w.heap.size w w'
theorem res_ln2 {fn : Func} {p q : Tmp} (h : fn.results = #[.cell p 43, .tmp q]) {tmps : Array Value} {w : World} {g : Nat} {x : LnA} (hp : tmps.getD p undef = .pointer (some ⟨g, 0, none⟩)) (hs : KLn.blk 43 w g x) (hx : x.Ok w) :
  (results fn tmps).run Tryz.prog w = .ok (.tuple #[KLn.v x, tmps.getD q undef]) w := by
 have hp' : tmps[p]?.getD undef = .pointer (some ⟨g, 0, none⟩) := by simpa using hp
 have hl := load_ln (Kind.at_blk hs) hx
 simp [results, h, hp', asAddr, hl]
theorem buildLn0 (w : World) : (Instr.build 43 #[]).run Tryz.prog w = .ok (.agg (KLn.cs lnA0).toArray) w := run_build w _ _ _ (by kernel_rfl)
theorem lnA0_ok (w : World) : lnA0.Ok w := ⟨rfl, by show AllBytes z16m; unfold AllBytes z16m; decide, by decide, by decide, Kind.row_nil w none 0 (by decide) (fun _ => rfl)⟩
structure LineS (w : World) (m : MnA) (z : List Int) (X : World) : Prop where
 a : MnAt X w.heap.size m
 b : KId.blk 38 X (w.heap.size + 1) z
 c : KLn.blk 43 X (w.heap.size + 1 + 1) lnA0
 below : Below w.heap.size w X
theorem LineS.go {w X Y : World} {m : MnA} {z : List Int} (h : LineS w m z X) (hb : Below X.heap.size X Y) : LineS w m z Y :=
 ⟨h.a.below hb h.a.lt, Kind.blk_below h.b hb (Kind.blk_lt h.b), Kind.blk_below h.c hb (Kind.blk_lt h.c), h.below.trans (hb.mono h.below.size)⟩
theorem LineS.new (w : World) (m : MnA) (z : List Int) : LineS w m z (((w.alloc (.cells m.cs.toArray 29)).alloc (.cells (bvals z) 38)).alloc (.cells (KLn.cs lnA0).toArray 43)) := by
 have e1 : (w.alloc (.cells m.cs.toArray 29)).heap.size = w.heap.size + 1 := World.size_alloc _ _
 have e2 : ((w.alloc (.cells m.cs.toArray 29)).alloc (.cells (bvals z) 38)).heap.size = w.heap.size + 1 + 1 := by rw [World.size_alloc, e1]
 refine ⟨?_, ?_, ?_, ?_⟩
 ·exact ((MnAt.new w m).below ((Below.refl _ _).alloc (Nat.le_refl _) _) (MnAt.new w m).lt).below ((Below.refl _ _).alloc (Nat.le_refl _) _) (by rw [e2]; omega)
 ·have h := Kind.blk_new (K := KId) (w.alloc (.cells m.cs.toArray 29)) z 38
  rw [e1] at h
  exact Kind.blk_old h _
 ·have h := Kind.blk_new (K := KLn) ((w.alloc (.cells m.cs.toArray 29)).alloc (.cells (bvals z) 38)) lnA0 43
  rw [e2] at h
  exact h
 ·exact (((Below.refl _ _).alloc (Nat.le_refl _) _).alloc (by rw [e1]; omega) _).alloc (by rw [e2]; omega) _
set_option maxHeartbeats 8000000 in
theorem rline12_any (m : MnA) (z : List Int) (w : World) (h : m.Ok w) (hz16 : z.length = 16 ∧ AllBytes z) : Calls Tryz.prog 19 #[m.v, .agg (bvals z)] w (LinePost w (lineA m.ls z)) := by
 have S0 := LineS.new w m z
 obtain ⟨w1, hw1⟩ : ∃ w1, w1 = ((w.alloc (.cells m.cs.toArray 29)).alloc (.cells (bvals z) 38)).alloc (.cells (KLn.cs lnA0).toArray 43) := ⟨_, rfl⟩
 rw [← hw1] at S0
 have h1 := MnA.below h (S0.below.mono (Nat.le_refl _))
 have HB1 := Lib.hid S0.below
 have HS := Lib.hid (fun X (hX : Below w1.heap.size w1 X) => S0.go hX)
 have HC := Lib.hid (fun X (hX : Below w1.heap.size w1 X) => (S0.go hX).a.c32 h1.1)
 have HI := Lib.hid (fun X (hX : Below w1.heap.size w1 X) => Kind.at_blk (S0.go hX).b)
 have HR := Lib.hid (fun h0 => ln_row h1.2.2 h0)
 have HOK := Lib.hid (fun k (hk : k < m.ls.length) => show LnA.Ok w1 (m.ls.getD k lnA0) from Kind.row_ok h1.2.2 hk)
 have HOKW := Lib.hid (fun k (hk : k < m.ls.length) => show LnA.Ok w (m.ls.getD k lnA0) from Kind.row_ok h.2.2 hk)
 have HZ := Lib.hid hz16
 have hnb : m.ls.length ≤ 9223372036854775807 := by
  have a1 := h1.2.2.1
  have a2 := h1.2.2.2.1
  simp only [maxLen] at a2
  omega
 have HV := Lib.hid (show lineA m.ls z = lineA (m.ls.drop 0) z by rw [List.drop_zero])
 have hv : m.v = .agg m.cs.toArray := rfl
 rw [hv]
 generalize lineA m.ls z = V at *
 generalize m.cs.toArray = E at *
 obtain ⟨base, A, c, ls⟩ := m
 dsimp only at *
 have HLS := Lib.hid (fun k (hk : k < ls.length) => lineA_step z hk)
 generalize hn : ls.length = n at *
 have HN := Lib.hid hn
 have hz := zeroLn
 rw [show KLn.v lnA0 = .agg (KLn.cs lnA0).toArray from rfl] at hz
 have hb0 := buildLn0
 have hzne : ¬ (KLn.cs lnA0).toArray = #[] := by decide
 have HZS := Lib.hid lnA0_size
 have HZ1 := Lib.hid (ln_ones lnA0)
 clear h h1 S0 hv hn hz16
 subst hw1
 go_enter Tryz.func19, Tryz.ntmps19
 go_wp2
 generalize ((w.alloc (.cells E 29)).alloc (.cells (bvals z) 38)).alloc (.cells (KLn.cs lnA0).toArray 43) = w1 at *
 go_loopw [6] (fun i wr => ∃ k : Nat, k ≤ n ∧ i = .int .i64 k ∧ Below w1.heap.size w1 wr ∧ V = lineA (ls.drop k) z) (fun i _ => n - (intOf i).toNat)
 case atStart => exact ⟨0, Nat.zero_le _, rfl, Below.refl _ _, HV.out⟩
 case round =>
  obtain ⟨k, hk, rfl, hb, hf⟩ := hrel
  have HBB := Lib.hid hb
  have cc1 := HC.out wr hb
  by_cases hlt : k < n
  ·have t1 : (k : Int) < (n : Int) := by omega
   obtain ⟨b1, off1, hA1, hb1w, hx1, hi1⟩ := HR.out (by omega)
   have IX := Lib.hid (hi1 k hlt k rfl)
   rw [← hA1] at IX
   have hok := HOK.out k hlt
   have HX := Lib.hid (fun w9 (h9 : Below wr.heap.size wr w9) => Kind.at_same (hx1 k hlt) ((hb.trans (h9.mono hb.size)).block b1 hb1w))
   have HOX := Lib.hid (fun w9 (h9 : Below wr.heap.size wr w9) => LnA.below hok ((hb.trans (h9.mono hb.size)).mono (Nat.le_refl _)))
   have HS32 := Lib.hid (fun w9 (h9 : Below wr.heap.size wr w9) => HC.out w9 (hb.trans (h9.mono hb.size)))
   have LI := Lib.hid (fun w9 (h9 : Below wr.heap.size wr w9) => HI.out w9 (hb.trans (h9.mono hb.size)))
   rw [HLS.out k hlt] at hf
   have HOW := Lib.hid (HOKW.out k hlt)
   generalize ls.getD k lnA0 = x at *
   have HOKX := Lib.hid hok
   have LZ := Lib.hid (fun w9 (h9 : Below wr.heap.size wr w9) => ln_id (HX.out w9 h9) hok.1)
   have HQ := Lib.hid (show ∀ X, (Op.equalIn 10000 38 (.agg (bvals x.z)) (.agg (bvals z))).run Tryz.prog X = .ok (decide (x.z = z)) X from fun X => by
    rw [eq_id hok.2.1 HZ.out.2 hok.1 HZ.out.1 X]; congr 1; rw [Bool.eq_iff_iff]; simp)
   have HLL := Lib.hid (fun w9 (h9 : Below wr.heap.size wr w9) => load_ln (HX.out w9 h9) (HOX.out w9 h9))
   rw [show KLn.v x = .agg (KLn.cs x).toArray from rfl] at HLL
   have SZ := Lib.hid (ln_size hok)
   have SQ := Lib.hid (show (KLn.cs lnA0).toArray.size = (KLn.cs x).toArray.size by rw [lnA0_size, List.size_toArray]; exact (LnA.len hok).symm)
   have SO := Lib.hid (ln_ones x)
   have HBW := Lib.hid hb1w
   clear hx1 hi1 hA1 hok hb hb1w
   by_cases he : x.z = z
   ·rw [if_pos he] at hf
    rw [decide_eq_true he] at HQ
    have HF := Lib.hid hf
    clear hf he
    go_wp2_with fail
    refine wp_region_G _ (by kernel_rfl) ?_
    refine wpGv (i := 0) (oi := ⟨some 14, _, _, _, _, _⟩) (v := ?_) rfl ?_ ?_; rotate_left; (focus (intro w9 hSw; go_simp; try with_reducible rfl)); simp only [Act.put, Z2, Z3, Z4]
    refine wpGv (i := 1) (oi := ⟨some 15, _, _, _, _, _⟩) (v := ?_) rfl ?_ ?_; rotate_left; (focus (intro w9 hSw; have q0 := HS32.out w9 hSw; go_simp; try with_reducible rfl)); simp only [Act.put, Z2, Z3, Z4]
    refine wpGv (i := 2) (oi := ⟨some 16, _, _, _, _, _⟩) (v := ?_) rfl ?_ ?_; rotate_left; (focus (intro w9 hSw; go_simp; try with_reducible rfl)); simp only [Act.put, Z2, Z3, Z4]
    refine wpGv (i := 3) (oi := ⟨some 17, _, _, _, _, _⟩) (v := ?_) rfl ?_ ?_; rotate_left; (focus (intro w9 hSw; have q0 := IX.out w9; go_simp; try with_reducible rfl)); simp only [Act.put, Z2, Z3, Z4]
    refine wpGv (i := 4) (oi := ⟨some 18, _, _, _, _, _⟩) (v := ?_) rfl ?_ ?_; rotate_left; (focus (intro w9 hSw; go_simp; try with_reducible rfl)); simp only [Act.put, Z2, Z3, Z4]
    refine wpGv (i := 5) (oi := ⟨some 19, _, _, _, _, _⟩) (v := (.agg (bvals x.z))) rfl ?_ ?_; (focus (intro w9 hSw; exact exec_load_at 38 _ rfl _ rfl (load_idM (LZ.out w9 hSw) HOKX.out.1))); simp only [Act.put, Z2, Z3, Z4]
    refine wpGv (i := 6) (oi := ⟨some 20, _, _, _, _, _⟩) (v := (.agg (bvals z))) rfl ?_ ?_; (focus (intro w9 hSw; exact exec_load_at 38 _ rfl _ rfl (load_idM (LI.out w9 hSw) HZ.out.1))); simp only [Act.put, Z2, Z3, Z4]
    refine wpGv (i := 7) (oi := ⟨some 21, _, _, _, _, _⟩) (v := (.bool true)) rfl ?_ ?_; (focus (intro w9 hSw; have q0 := HQ.out w9; exact exec_eql_at 38 _ _ _ rfl rfl rfl guardIdM q0)); simp only [Act.put, Z2, Z3, Z4]
    refine wpG_done (by kernel_rfl) ?_ _
    intro w9 hSw _
    have B9 := Lib.hid (HBB.out.trans (hSw.mono HBB.out.size))
    have LL := Lib.hid (HLL.out w9 hSw)
    have NB := Lib.hid (HS.out w9 B9.out).c
    have BB := Lib.hid (HS.out w9 B9.out).below
    have OX := Lib.hid (HOX.out w9 hSw)
    have cc1 := HC.out w9 B9.out
    have ix1 := IX.out w9
    have XB := Lib.hid (show KLn.blk 43 (w9.setRow (w.heap.size + 1 + 1) (KLn.cs x).toArray) (w.heap.size + 1 + 1) x from setRow_heap _ _ _ _ _ _ NB.out)
    have BX := Lib.hid (below_setRow BB.out (show w.heap.size ≤ w.heap.size + 1 + 1 by omega) (KLn.cs x).toArray)
    have OX2 := Lib.hid (show LnA.Ok (w9.setRow (w.heap.size + 1 + 1) (KLn.cs x).toArray) x from LnA.below HOW.out BX.out)
    clear hSw
    unfold Kind.blk at NB
    go_wp2_with (first | ((with_reducible refine wpList_load_at (o := ⟨some 26, .load 43 (.tmp 25), _, _, _, _⟩) ?e1 43 (.tmp 25) ?e2 ⟨b1, off1 + k * 19, none⟩ ?e3 _ LL.out ?_); (case e1 => rfl); (case e2 => rfl); (case e3 => rfl)) | ((with_reducible refine wpList_store_row (o := ⟨none, .store 43 (.tmp 4) (.tmp 26), _, _, _, _⟩) ?e1 43 (.tmp 4) (.tmp 26) ?e2 (w.heap.size + 1 + 1) (KLn.cs x).toArray ?e3 ?e4 43 _ NB.out SZ.out SQ.out SO.out ?_); (case e1 => rfl); (case e2 => rfl); (case e3 => rfl); (case e4 => rfl)))
    refine bodyPost_ret (v := .tuple #[KLn.v x, .bool true]) ?_ rfl ?_
    ·exact res_ln2 Tryz.results19 rfl XB.out OX2.out
    ·rw [HF.out]
     exact ⟨rfl, BX.out⟩
   ·rw [if_neg he] at hf
    rw [decide_eq_false he] at HQ
    have HF := Lib.hid hf
    clear hf he
    go_wp2_with fail
    refine wp_region_G _ (by kernel_rfl) ?_
    refine wpGv (i := 0) (oi := ⟨some 14, _, _, _, _, _⟩) (v := ?_) rfl ?_ ?_; rotate_left; (focus (intro w9 hSw; go_simp; try with_reducible rfl)); simp only [Act.put, Z2, Z3, Z4]
    refine wpGv (i := 1) (oi := ⟨some 15, _, _, _, _, _⟩) (v := ?_) rfl ?_ ?_; rotate_left; (focus (intro w9 hSw; have q0 := HS32.out w9 hSw; go_simp; try with_reducible rfl)); simp only [Act.put, Z2, Z3, Z4]
    refine wpGv (i := 2) (oi := ⟨some 16, _, _, _, _, _⟩) (v := ?_) rfl ?_ ?_; rotate_left; (focus (intro w9 hSw; go_simp; try with_reducible rfl)); simp only [Act.put, Z2, Z3, Z4]
    refine wpGv (i := 3) (oi := ⟨some 17, _, _, _, _, _⟩) (v := ?_) rfl ?_ ?_; rotate_left; (focus (intro w9 hSw; have q0 := IX.out w9; go_simp; try with_reducible rfl)); simp only [Act.put, Z2, Z3, Z4]
    refine wpGv (i := 4) (oi := ⟨some 18, _, _, _, _, _⟩) (v := ?_) rfl ?_ ?_; rotate_left; (focus (intro w9 hSw; go_simp; try with_reducible rfl)); simp only [Act.put, Z2, Z3, Z4]
    refine wpGv (i := 5) (oi := ⟨some 19, _, _, _, _, _⟩) (v := (.agg (bvals x.z))) rfl ?_ ?_; (focus (intro w9 hSw; exact exec_load_at 38 _ rfl _ rfl (load_idM (LZ.out w9 hSw) HOKX.out.1))); simp only [Act.put, Z2, Z3, Z4]
    refine wpGv (i := 6) (oi := ⟨some 20, _, _, _, _, _⟩) (v := (.agg (bvals z))) rfl ?_ ?_; (focus (intro w9 hSw; exact exec_load_at 38 _ rfl _ rfl (load_idM (LI.out w9 hSw) HZ.out.1))); simp only [Act.put, Z2, Z3, Z4]
    refine wpGv (i := 7) (oi := ⟨some 21, _, _, _, _, _⟩) (v := (.bool false)) rfl ?_ ?_; (focus (intro w9 hSw; have q0 := HQ.out w9; exact exec_eql_at 38 _ _ _ rfl rfl rfl guardIdM q0)); simp only [Act.put, Z2, Z3, Z4]
    refine wpG_done (by kernel_rfl) ?_ _
    intro w9 hSw _
    have B9 := Lib.hid (HBB.out.trans (hSw.mono HBB.out.size))
    clear hSw cc1
    go_wp2
    go_roundw
    case rel => exact ⟨k + 1, by omega, by go_num, B9.out, HF.out⟩
    case measure => simp [intOf]; omega
  ·obtain rfl : k = n := by omega
   have t1 : ¬ (k : Int) < (k : Int) := by omega
   have HF := Lib.hid (show V = none by rw [hf, List.drop_eq_nil_of_le (by rw [HN.out]; exact Nat.le_refl _)]; rfl)
   have NB := Lib.hid (HS.out wr hb).c
   have BB := Lib.hid (HS.out wr hb).below
   have XB := Lib.hid (show KLn.blk 43 (wr.setRow (w.heap.size + 1 + 1) (KLn.cs lnA0).toArray) (w.heap.size + 1 + 1) lnA0 from setRow_heap _ _ _ _ _ _ NB.out)
   have BX := Lib.hid (below_setRow BB.out (show w.heap.size ≤ w.heap.size + 1 + 1 by omega) (KLn.cs lnA0).toArray)
   have SZ := Lib.hid (ln_size (lnA0_ok wr))
   clear hf hb
   unfold Kind.blk at NB
   go_wp2_with (first | ((with_reducible refine wpList_store_row (o := ⟨none, .store 43 (.tmp 4) (.tmp 27), _, _, _, _⟩) ?e1 43 (.tmp 4) (.tmp 27) ?e2 (w.heap.size + 1 + 1) (KLn.cs lnA0).toArray ?e3 ?e4 43 _ NB.out SZ.out rfl HZ1.out ?_); (case e1 => rfl); (case e2 => rfl); (case e3 => rfl); (case e4 => rfl)))
   refine bodyPost_ret (v := .tuple #[KLn.v lnA0, .bool false]) ?_ rfl ?_
   ·exact res_ln2 Tryz.results19 rfl XB.out (lnA0_ok _)
   ·rw [HF.out]
    exact ⟨rfl, BX.out⟩
end
section
open Go.RowKit WM
set_option maxRecDepth 100000
def entA (es : List EnA) (no : Int) : Option EnA := es.find? fun x => decide (x.e.no = no)
theorem entA_step {es : List EnA} {k : Nat} (no : Int) (hk : k < es.length) : entA (es.drop k) no = if (es.getD k enA0).e.no = no then some (es.getD k enA0) else entA (es.drop (k + 1)) no := by
 rw [List.drop_eq_getElem_cons hk]
 have h : es.getD k enA0 = es[k] := by rw [List.getD_eq_getElem?_getD, List.getElem?_eq_getElem hk]; rfl
 rw [h]
 unfold entA
 by_cases hz : es[k].e.no = no
 ·rw [if_pos hz, List.find?_cons_of_pos (by simpa using hz)]
 ·rw [if_neg hz, List.find?_cons_of_neg (by simpa using hz)]
theorem entA_e (es : List EnA) (no : Int) : (entA es no).map (·.e) = efind (es.map (·.e)) no := by
 unfold entA efind
 induction es with
 | nil => rfl
 | cons x es ih =>
  rw [List.map_cons]
  by_cases hz : x.e.no = no
  ·rw [List.find?_cons_of_pos (by simpa using hz), List.find?_cons_of_pos (by simpa using hz)]; rfl
  ·rw [List.find?_cons_of_neg (by simpa using hz), List.find?_cons_of_neg (by simpa using hz)]; exact ih
def findA (ls : List LnA) (z : List Int) (no : Int) : Option EnA := entA ((lineA ls z).getD lnA0).es no
theorem findA_e (m : MnA) (z : List Int) (no : Int) : (findA m.ls z no).map (·.e) = mfind m.m z no := by
 unfold findA mfind
 rw [entA_e, show m.m.ls = m.ls.map (·.x) from rfl, ← lineA_x]
 cases lineA m.ls z with
 | none => rfl
 | some x => rfl
theorem enA0_ok (w : World) : enA0.Ok w := ⟨by decide, by decide, by decide, by decide, rfl, by show AllBytes z32m; unfold AllBytes z32m; decide, Kind.row_nil w none 0 (by decide) (fun _ => rfl)⟩
theorem MnA.one (x : MnA) (u : Value) (hu : u ∈ x.cs) : u.oneCell' = true := by
 unfold MnA.cs at hu
 rcases List.mem_append.1 hu with h | h
 ·exact byte_ones _ _ h
 ·rw [List.mem_singleton] at h
  rw [h]
  rfl
def KMn : Kind MnA := { n := 33, pos := by decide, cs := MnA.cs, d := mnA0, ok := fun w x => x.Ok w, len := fun h => MnA.len h, one := MnA.one, below := fun h hb => MnA.below h hb }
theorem load_mn {w : World} {b : Nat} {m : MnA} (h : MnAt w b m) (hx : m.Ok w) : (loadVar 29 ⟨b, 0, none⟩).run Tryz.prog w = .ok m.v w :=
 Kind.at_load (K := KMn) (Kind.at_blk (K := KMn) (t := 29) h) (MnA.len hx) Tryz.underlying29 rfl (by obtain ⟨i, hi, _, hs, _⟩ := info_parts infoMn; rw [hi]; exact congrArg some hs)
theorem en_size {x : EnA} {w : World} (h : x.Ok w) : (Tryz.prog.info? 48).map (·.size) = some (KEn.cs x).toArray.size := by
 rw [List.size_toArray, show (KEn.cs x).length = 37 from EnA.len h]
 obtain ⟨i, hi, _, hs, _⟩ := info_parts infoEn
 rw [hi]
 exact congrArg some hs
theorem en_ones (x : EnA) : (KEn.cs x).toArray.all (·.oneCell') = true := by
 rw [Array.all_eq_true_iff_forall_mem]
 intro u hu
 exact EnA.one x u (List.mem_toArray.1 hu)
theorem enA0_size : (KEn.cs enA0).toArray.size = 37 := by decide
def MFindPost (w : World) (V : Option EnA) (e : Ending) (w' : World) : Prop := e = .returned (.tuple #[KEn.v (V.getD enA0), .bool V.isSome]) ∧ Below w.heap.size w w'
theorem res_en2 {fn : Func} {p q : Tmp} (h : fn.results = #[.cell p 48, .tmp q]) {tmps : Array Value} {w : World} {g : Nat} {x : EnA} (hp : tmps.getD p undef = .pointer (some ⟨g, 0, none⟩)) (hs : KEn.blk 48 w g x) (hx : x.Ok w) :
  (results fn tmps).run Tryz.prog w = .ok (.tuple #[KEn.v x, tmps.getD q undef]) w := by
 have hp' : tmps[p]?.getD undef = .pointer (some ⟨g, 0, none⟩) := by simpa using hp
 have hl := load_en (Kind.at_blk hs) hx
 simp [results, h, hp', asAddr, hl]
theorem buildEn0 (w : World) : (Instr.build 48 #[]).run Tryz.prog w = .ok (.agg (KEn.cs enA0).toArray) w := run_build w _ _ _ (by kernel_rfl)
structure FindS (w : World) (m : MnA) (z : List Int) (X : World) : Prop where
 a : MnAt X w.heap.size m
 b : KId.blk 38 X (w.heap.size + 1) z
 c : KEn.blk 48 X (w.heap.size + 1 + 1) enA0
 below : Below w.heap.size w X
theorem FindS.go {w X Y : World} {m : MnA} {z : List Int} (h : FindS w m z X) (hb : Below X.heap.size X Y) : FindS w m z Y :=
 ⟨h.a.below hb h.a.lt, Kind.blk_below h.b hb (Kind.blk_lt h.b), Kind.blk_below h.c hb (Kind.blk_lt h.c), h.below.trans (hb.mono h.below.size)⟩
theorem FindS.new (w : World) (m : MnA) (z : List Int) : FindS w m z (((w.alloc (.cells m.cs.toArray 29)).alloc (.cells (bvals z) 38)).alloc (.cells (KEn.cs enA0).toArray 48)) := by
 have e1 : (w.alloc (.cells m.cs.toArray 29)).heap.size = w.heap.size + 1 := World.size_alloc _ _
 have e2 : ((w.alloc (.cells m.cs.toArray 29)).alloc (.cells (bvals z) 38)).heap.size = w.heap.size + 1 + 1 := by rw [World.size_alloc, e1]
 refine ⟨?_, ?_, ?_, ?_⟩
 ·exact ((MnAt.new w m).below ((Below.refl _ _).alloc (Nat.le_refl _) _) (MnAt.new w m).lt).below ((Below.refl _ _).alloc (Nat.le_refl _) _) (by rw [e2]; omega)
 ·have h := Kind.blk_new (K := KId) (w.alloc (.cells m.cs.toArray 29)) z 38
  rw [e1] at h
  exact Kind.blk_old h _
 ·have h := Kind.blk_new (K := KEn) ((w.alloc (.cells m.cs.toArray 29)).alloc (.cells (bvals z) 38)) enA0 48
  rw [e2] at h
  exact h
 ·exact (((Below.refl _ _).alloc (Nat.le_refl _) _).alloc (by rw [e1]; omega) _).alloc (by rw [e2]; omega) _
set_option maxHeartbeats 8000000 in
theorem rfind12_any (m : MnA) (z : List Int) (no : Int) (w : World) (h : m.Ok w) (hz16 : z.length = 16 ∧ AllBytes z) : Calls Tryz.prog 21 #[m.v, .agg (bvals z), .int .i64 no] w (MFindPost w (findA m.ls z no)) := by
 have S0 := FindS.new w m z
 obtain ⟨w1, hw1⟩ : ∃ w1, w1 = ((w.alloc (.cells m.cs.toArray 29)).alloc (.cells (bvals z) 38)).alloc (.cells (KEn.cs enA0).toArray 48) := ⟨_, rfl⟩
 rw [← hw1] at S0
 have h1 := MnA.below h (S0.below.mono (Nat.le_refl _))
 have HS := Lib.hid (fun X (hX : Below w1.heap.size w1 X) => S0.go hX)
 have LM := Lib.hid (load_mn S0.a h1)
 have LI := Lib.hid (load_idM (Kind.at_blk S0.b) hz16.1)
 have HLN := Lib.hid (rline12_any m z w1 h1 hz16)
 unfold LinePost at HLN
 have OKX := Lib.hid (show ((lineA m.ls z).getD lnA0).Ok w from lineA_ok h.2.2)
 have HV := Lib.hid (show findA m.ls z no = entA (((lineA m.ls z).getD lnA0).es.drop 0) no by rw [List.drop_zero]; rfl)
 have hv : m.v = .agg m.cs.toArray := rfl
 rw [hv] at LM HLN ⊢
 generalize findA m.ls z no = V at *
 generalize hx : (lineA m.ls z).getD lnA0 = x at *
 generalize (lineA m.ls z).isSome = sm at *
 rw [show KLn.v x = .agg (KLn.cs x).toArray from rfl] at HLN
 have hz := zeroEn
 rw [show KEn.v enA0 = .agg (KEn.cs enA0).toArray from rfl] at hz
 have hzl := zeroLn
 rw [show KLn.v lnA0 = .agg (KLn.cs lnA0).toArray from rfl] at hzl
 have hb0 := buildEn0
 have hzne : ¬ (KEn.cs enA0).toArray = #[] := by decide
 have hzne2 : ¬ (KLn.cs lnA0).toArray = #[] := by decide
 have HZ1 := Lib.hid (en_ones enA0)
 have SZ := Lib.hid (ln_size OKX.out)
 have SQ := Lib.hid (show (KLn.cs lnA0).toArray.size = (KLn.cs x).toArray.size by rw [lnA0_size, List.size_toArray]; exact (LnA.len OKX.out).symm)
 have SO := Lib.hid (ln_ones x)
 have HNEW := Lib.hid (fun w9 => Kind.blk_new (K := KLn) w9 x 43)
 have HE := Lib.hid (fun h0 => en_row OKX.out.2.2.2.2 h0)
 have HEO := Lib.hid (fun j (hj : j < x.es.length) => show EnA.Ok w (x.es.getD j enA0) from Kind.row_ok OKX.out.2.2.2.2 hj)
 have HES := Lib.hid (fun j (hj : j < x.es.length) => entA_step (es := x.es) no hj)
 have h16 := Lib.hid OKX.out.1
 have hMb : x.es.length ≤ 9223372036854775807 := by
  have a1 := OKX.out.2.2.2.2.1
  have a2 := OKX.out.2.2.2.2.2.1
  simp only [maxLen] at a2
  omega
 have HC18 := Lib.hid (fun (X : World) b (hX : KLn.blk 43 X b x) => by have h := ln_c18 (Kind.at_blk hX) OKX.out.1; rw [Nat.zero_add] at h; exact h)
 generalize m.cs.toArray = E at *
 clear h h1 hv hx hz16
 generalize hxc : (KLn.cs x).toArray = E43 at *
 have HBLK := Lib.hid (fun (X : World) b (hX : X.heap[b]? = some (.cells E43 43)) => HC18.out X b (by unfold Kind.blk; rw [hxc]; exact hX))
 have HNW := Lib.hid (fun (w9 : World) => heap_alloc_new w9 (.cells E43 43))
 obtain ⟨xz, dn, dr, Ae, ce, es⟩ := x
 dsimp only at HE HEO HES hMb HBLK HV
 generalize hM : es.length = M at *
 have HM := Lib.hid hM
 clear hM hxc S0
 subst hw1
 go_enter Tryz.func21, Tryz.ntmps21
 go_wp2_with (first | ((with_reducible refine wpList_load_at (o := ⟨some 12, .load 29 (.tmp 3), _, _, _, _⟩) ?e1 29 (.tmp 3) ?e2 ⟨w.heap.size, 0, none⟩ ?e3 _ LM.out ?_); (case e1 => rfl); (case e2 => rfl); (case e3 => rfl)) | ((with_reducible refine wpList_load_at (o := ⟨some 13, .load 38 (.tmp 4), _, _, _, _⟩) ?e1 38 (.tmp 4) ?e2 ⟨w.heap.size + 1, 0, none⟩ ?e3 _ LI.out ?_); (case e1 => rfl); (case e2 => rfl); (case e3 => rfl)))
 generalize ((w.alloc (.cells E 29)).alloc (.cells (bvals z) 38)).alloc (.cells (KEn.cs enA0).toArray 48) = w1 at *
 refine HLN.out.mono ?_
 rintro e w2 ⟨rfl, hb2⟩
 have B2 := Lib.hid hb2
 clear hb2
 go_wp2_with (first | ((with_reducible refine wpList_store_new (o := ⟨none, .store 43 (.tmp 8) (.tmp 15), _, _, _, _⟩) ?e1 43 (.tmp 8) (.tmp 15) ?e2 ?e3 (KLn.cs lnA0).toArray E43 ?e4 SZ.out SQ.out SO.out ?_); (case e1 => rfl); (case e2 => rfl); (case e3 => rfl); (case e4 => rfl)))
 have N3 := Lib.hid (HNW.out w2)
 have B3 := Lib.hid (B2.out.trans (((Below.refl _ _).alloc (Nat.le_refl _) (.cells E43 43)).mono B2.out.size))
 generalize hw3 : w2.alloc (.cells E43 43) = w3 at *
 have L3 := Lib.hid (show w2.heap.size < w3.heap.size by rw [← hw3, World.size_alloc]; omega)
 have F18 := Lib.hid (fun X (hX : Below w3.heap.size w3 X) => HBLK.out X w2.heap.size ((hX.block _ L3.out).trans N3.out))
 clear hw3
 generalize w2.heap.size = g at *
 go_loopw [10] (fun i wr => ∃ k : Nat, k ≤ M ∧ i = .int .i64 k ∧ Below w3.heap.size w3 wr ∧ V = entA (es.drop k) no) (fun i _ => M - (intOf i).toNat)
 case atStart => exact ⟨0, Nat.zero_le _, rfl, Below.refl _ _, HV.out⟩
 case round =>
  obtain ⟨k, hk, rfl, hb, hf⟩ := hrel
  have HBB := Lib.hid hb
  have s18 := F18.out wr hb
  have S1 := Lib.hid (HS.out wr (B3.out.trans (hb.mono B3.out.size)))
  by_cases hlt : k < M
  ·have t1 : (k : Int) < (M : Int) := by omega
   obtain ⟨b1, off1, hA1, hb1w, hx1, hi1⟩ := HE.out (by omega)
   have ix1 := hi1 k hlt k rfl
   rw [← hA1] at ix1
   have HX := Kind.at_same (hx1 k hlt) (S1.out.below.block b1 hb1w)
   have hok := HEO.out k hlt
   have c0 := en_c0 HX
   rw [HES.out k hlt] at hf
   generalize es.getD k enA0 = y at *
   have LL := Lib.hid (load_en HX (EnA.below hok S1.out.below))
   rw [show KEn.v y = .agg (KEn.cs y).toArray from rfl] at LL
   have OKY := Lib.hid hok
   clear hx1 hi1 hA1 hok hb hb1w HX
   by_cases he : y.e.no = no
   ·rw [if_pos he] at hf
    have HF := Lib.hid hf
    have NB := Lib.hid S1.out.c
    have BB := Lib.hid S1.out.below
    have XB := Lib.hid (show KEn.blk 48 (wr.setRow (w.heap.size + 1 + 1) (KEn.cs y).toArray) (w.heap.size + 1 + 1) y from setRow_heap _ _ _ _ _ _ NB.out)
    have BX := Lib.hid (below_setRow BB.out (show w.heap.size ≤ w.heap.size + 1 + 1 by omega) (KEn.cs y).toArray)
    have OX2 := Lib.hid (show EnA.Ok (wr.setRow (w.heap.size + 1 + 1) (KEn.cs y).toArray) y from EnA.below OKY.out BX.out)
    have SZ := Lib.hid (en_size OKY.out)
    have SQ := Lib.hid (show (KEn.cs enA0).toArray.size = (KEn.cs y).toArray.size by rw [enA0_size, List.size_toArray]; exact (EnA.len OKY.out).symm)
    have SO := Lib.hid (en_ones y)
    rw [he] at c0
    clear hf he
    unfold Kind.blk at NB
    go_wp2_with (first | ((with_reducible refine wpList_load_at (o := ⟨some 36, .load 48 (.tmp 35), _, _, _, _⟩) ?e1 48 (.tmp 35) ?e2 ⟨b1, off1 + k * 37, none⟩ ?e3 _ LL.out ?_); (case e1 => rfl); (case e2 => rfl); (case e3 => rfl)) | ((with_reducible refine wpList_store_row (o := ⟨none, .store 48 (.tmp 6) (.tmp 36), _, _, _, _⟩) ?e1 48 (.tmp 6) (.tmp 36) ?e2 (w.heap.size + 1 + 1) (KEn.cs y).toArray ?e3 ?e4 48 _ NB.out SZ.out SQ.out SO.out ?_); (case e1 => rfl); (case e2 => rfl); (case e3 => rfl); (case e4 => rfl)))
    refine bodyPost_ret (v := .tuple #[KEn.v y, .bool true]) ?_ rfl ?_
    ·exact res_en2 Tryz.results21 rfl XB.out OX2.out
    ·rw [HF.out]
     exact ⟨rfl, BX.out⟩
   ·rw [if_neg he] at hf
    have HF := Lib.hid hf
    clear hf
    go_wp2
    go_roundw
    case rel => exact ⟨k + 1, by omega, by go_num, HBB.out, HF.out⟩
    case measure => simp [intOf]; omega
  ·obtain rfl : k = M := by omega
   have t1 : ¬ (k : Int) < (k : Int) := by omega
   have HF := Lib.hid (show V = none by rw [hf, List.drop_eq_nil_of_le (by rw [HM.out]; exact Nat.le_refl _)]; rfl)
   have NB := Lib.hid S1.out.c
   have BB := Lib.hid S1.out.below
   have XB := Lib.hid (show KEn.blk 48 (wr.setRow (w.heap.size + 1 + 1) (KEn.cs enA0).toArray) (w.heap.size + 1 + 1) enA0 from setRow_heap _ _ _ _ _ _ NB.out)
   have BX := Lib.hid (below_setRow BB.out (show w.heap.size ≤ w.heap.size + 1 + 1 by omega) (KEn.cs enA0).toArray)
   have SZ := Lib.hid (en_size (enA0_ok wr))
   clear hf hb
   unfold Kind.blk at NB
   go_wp2_with (first | ((with_reducible refine wpList_store_row (o := ⟨none, .store 48 (.tmp 6) (.tmp 37), _, _, _, _⟩) ?e1 48 (.tmp 6) (.tmp 37) ?e2 (w.heap.size + 1 + 1) (KEn.cs enA0).toArray ?e3 ?e4 48 _ NB.out SZ.out rfl HZ1.out ?_); (case e1 => rfl); (case e2 => rfl); (case e3 => rfl); (case e4 => rfl)))
   refine bodyPost_ret (v := .tuple #[KEn.v enA0, .bool false]) ?_ rfl ?_
   ·exact res_en2 Tryz.results21 rfl XB.out (enA0_ok _)
   ·rw [HF.out]
    exact ⟨rfl, BX.out⟩
end
end Go.Proofs.YtbkopnpafmjicaaGreatDoor
