import Derived.Test.YtbkopnpafmjicaaGreatDoorR0
import Derived.Test.YtbkopnpafmjicaaGreatDoorR16
/-
  What the functions that a law of this layer reaches answer, part 17. Nothing that was there is written.
-/
namespace Go.Proofs.YtbkopnpafmjicaaGreatDoor
set_option linter.unusedVariables false
set_option linter.unusedSimpArgs false
section
open Go.RowKit WM
set_option maxRecDepth 100000
theorem elike_step {es : List EnA} {k : Nat} (d : List Int) (n : Int) (hk : k < es.length) : elike ((es.drop k).map (·.e)) d n = if (es.getD k enA0).e.ds = d ∧ (es.getD k enA0).e.len = n then some (es.getD k enA0).e else elike ((es.drop (k + 1)).map (·.e)) d n := by
 rw [List.drop_eq_getElem_cons hk, List.map_cons]
 have h : es.getD k enA0 = es[k] := by rw [List.getD_eq_getElem?_getD, List.getElem?_eq_getElem hk]; rfl
 rw [h]
 unfold elike
 by_cases hz : es[k].e.ds = d ∧ es[k].e.len = n
 ·rw [if_pos hz, List.find?_cons_of_pos (by simpa using hz)]
 ·rw [if_neg hz, List.find?_cons_of_neg (by simpa using hz)]
def likeOr (z : List Int) (o : Option En) (rest : Option (List Int × Int)) : Option (List Int × Int) := match o with
 | some e => some (z, e.no)
 | none => rest
theorem llike_step {ls : List LnA} {k : Nat} (d : List Int) (n : Int) (hk : k < ls.length) : llike ((ls.drop k).map (·.x)) d n = likeOr (ls.getD k lnA0).z (elike (((ls.getD k lnA0).es.drop 0).map (·.e)) d n) (llike ((ls.drop (k + 1)).map (·.x)) d n) := by
 rw [List.drop_eq_getElem_cons hk, List.map_cons]
 have h : ls.getD k lnA0 = ls[k] := by rw [List.getD_eq_getElem?_getD, List.getElem?_eq_getElem hk]; rfl
 rw [h]
 rfl
def LikePost (w : World) (V : Option (List Int × Int)) (e : Ending) (w' : World) : Prop := e = .returned (.tuple #[.agg (bvals ((V.map (·.1)).getD z16m)), .int .i64 ((V.map (·.2)).getD 0), .bool V.isSome]) ∧ Below w.heap.size w w'
theorem res_id3 {fn : Func} {p q r : Tmp} (h : fn.results = #[.cell p 38, .tmp q, .tmp r]) {tmps : Array Value} {w : World} {g : Nat} {z : List Int} (hp : tmps.getD p undef = .pointer (some ⟨g, 0, none⟩)) (hs : KId.blk 38 w g z) (hx : z.length = 16) :
  (results fn tmps).run Tryz.prog w = .ok (.tuple #[.agg (bvals z), tmps.getD q undef, tmps.getD r undef]) w := by
 have hp' : tmps[p]?.getD undef = .pointer (some ⟨g, 0, none⟩) := by simpa using hp
 have hl := load_idM (Kind.at_blk hs) hx
 simp [results, h, hp', asAddr, hl]
theorem zeroIdM (w : World) : (zeroValue 38).run Tryz.prog w = .ok (.agg (bvals z16m)) w := (zero_of_info (show (Tryz.prog.info? 38).map (fun i => (i.zero, i.size)) = some (some (.agg (bvals z16m)), 16) by kernel_rfl)).1 w
theorem buildId0 (w : World) : (Instr.build 38 #[]).run Tryz.prog w = .ok (.agg (bvals z16m)) w := run_build w _ _ _ (by kernel_rfl)
theorem idSize {z : List Int} (hz : z.length = 16) : (Tryz.prog.info? 38).map (·.size) = some (bvals z).size := by
 rw [infoIdM]
 show some 16 = some ((z.map (Value.int .u8)).toArray.size)
 rw [List.size_toArray, List.length_map, hz]
theorem idSame {z y : List Int} (hz : z.length = 16) (hy : y.length = 16) : (bvals z).size = (bvals y).size := by
 show (z.map (Value.int .u8)).toArray.size = (y.map (Value.int .u8)).toArray.size
 rw [List.size_toArray, List.size_toArray, List.length_map, List.length_map, hz, hy]
theorem idOnes (z : List Int) : (bvals z).all (·.oneCell') = true := by
 rw [Array.all_eq_true_iff_forall_mem]
 intro u hu
 exact byte_ones z u (List.mem_toArray.1 hu)
structure LikeS (w : World) (m : MnA) (d : List Int) (X : World) : Prop where
 a : MnAt X w.heap.size m
 b : KDig.blk 26 X (w.heap.size + 1) d
 c : KId.blk 38 X (w.heap.size + 1 + 1) z16m
 below : Below w.heap.size w X
theorem LikeS.go {w X Y : World} {m : MnA} {d : List Int} (h : LikeS w m d X) (hb : Below X.heap.size X Y) : LikeS w m d Y :=
 ⟨h.a.below hb h.a.lt, Kind.blk_below h.b hb (Kind.blk_lt h.b), Kind.blk_below h.c hb (Kind.blk_lt h.c), h.below.trans (hb.mono h.below.size)⟩
theorem LikeS.new (w : World) (m : MnA) (d : List Int) : LikeS w m d (((w.alloc (.cells m.cs.toArray 29)).alloc (.cells (bvals d) 26)).alloc (.cells (bvals z16m) 38)) := by
 have e1 : (w.alloc (.cells m.cs.toArray 29)).heap.size = w.heap.size + 1 := World.size_alloc _ _
 have e2 : ((w.alloc (.cells m.cs.toArray 29)).alloc (.cells (bvals d) 26)).heap.size = w.heap.size + 1 + 1 := by rw [World.size_alloc, e1]
 refine ⟨?_, ?_, ?_, ?_⟩
 ·exact ((MnAt.new w m).below ((Below.refl _ _).alloc (Nat.le_refl _) _) (MnAt.new w m).lt).below ((Below.refl _ _).alloc (Nat.le_refl _) _) (by rw [e2]; omega)
 ·have h := Kind.blk_new (K := KDig) (w.alloc (.cells m.cs.toArray 29)) d 26
  rw [e1] at h
  exact Kind.blk_old h _
 ·have h := Kind.blk_new (K := KId) ((w.alloc (.cells m.cs.toArray 29)).alloc (.cells (bvals d) 26)) z16m 38
  rw [e2] at h
  exact h
 ·exact (((Below.refl _ _).alloc (Nat.le_refl _) _).alloc (by rw [e1]; omega) _).alloc (by rw [e2]; omega) _
def LkS (w w1 X : World) : Prop := Below w.heap.size w X ∧ X.heap[w.heap.size]? = w1.heap[w.heap.size]?
set_option maxHeartbeats 16000000 in
theorem rlike12_any (m : MnA) (d : List Int) (n : Int) (w : World) (h : m.Ok w) (hd : d.length = 32 ∧ AllBytes d) : Calls Tryz.prog 23 #[m.v, .agg (bvals d), .int .i64 n] w (LikePost w (mlike m.m d n)) := by
 have S0 := LikeS.new w m d
 obtain ⟨w1, hw1⟩ : ∃ w1, w1 = ((w.alloc (.cells m.cs.toArray 29)).alloc (.cells (bvals d) 26)).alloc (.cells (bvals z16m) 38) := ⟨_, rfl⟩
 rw [← hw1] at S0
 have HS := Lib.hid (fun X (hX : Below w1.heap.size w1 X) => S0.go hX)
 have HW1 := Lib.hid S0.below
 have HLK := Lib.hid (fun X (hX : Below w1.heap.size w1 X) => show LkS w w1 X from ⟨(S0.go hX).below, hX.block _ S0.a.lt⟩)
 have FC32 := Lib.hid (fun X (hX : LkS w w1 X) => MnAt.c32 (show MnAt X w.heap.size m from hX.2.trans S0.a) h.1)
 have HR := Lib.hid (fun h0 => ln_row h.2.2 h0)
 have HOK := Lib.hid (fun k (hk : k < m.ls.length) => show LnA.Ok w (m.ls.getD k lnA0) from Kind.row_ok h.2.2 hk)
 have HD := Lib.hid hd
 have hnb : m.ls.length ≤ 9223372036854775807 := by
  have a1 := h.2.2.1
  have a2 := h.2.2.2.1
  simp only [maxLen] at a2
  omega
 have HV := Lib.hid (show mlike m.m d n = llike ((m.ls.drop 0).map (·.x)) d n by rw [List.drop_zero]; rfl)
 have hv : m.v = .agg m.cs.toArray := rfl
 rw [hv]
 generalize mlike m.m d n = V at *
 generalize m.cs.toArray = E at *
 obtain ⟨base, A, c, ls⟩ := m
 dsimp only at *
 have HLS := Lib.hid (fun k (hk : k < ls.length) => llike_step d n hk)
 generalize hn : ls.length = N at *
 have HN := Lib.hid hn
 have hz := zeroIdM
 have hb0 := buildId0
 have hzne : ¬ (bvals z16m) = #[] := by decide
 clear h S0 hv hn hd
 subst hw1
 go_enter Tryz.func23, Tryz.ntmps23
 go_wp2
 generalize ((w.alloc (.cells E 29)).alloc (.cells (bvals d) 26)).alloc (.cells (bvals z16m) 38) = w1 at *
 go_loopw [9] (fun i wr => ∃ k : Nat, k ≤ N ∧ i = .int .i64 k ∧ Below w1.heap.size w1 wr ∧ V = llike ((ls.drop k).map (·.x)) d n) (fun i _ => N - (intOf i).toNat)
 case atStart => exact ⟨0, Nat.zero_le _, rfl, Below.refl _ _, HV.out⟩
 case round =>
  obtain ⟨k, hk, rfl, hb, hf⟩ := hrel
  have HBB := Lib.hid hb
  have cc1 := FC32.out wr (HLK.out wr hb)
  by_cases hlt : k < N
  ·have t1 : (k : Int) < (N : Int) := by omega
   obtain ⟨b1, off1, hA1, hb1w, hx1, hi1⟩ := HR.out (by omega)
   have IX1 := Lib.hid (hi1 k hlt k rfl)
   rw [← hA1] at IX1
   have hok := HOK.out k hlt
   have FLN := Lib.hid (fun X (hX : LkS w w1 X) => Kind.at_same (hx1 k hlt) (hX.1.block b1 hb1w))
   rw [HLS.out k hlt] at hf
   generalize hrst : llike ((ls.drop (k + 1)).map (·.x)) d n = rest at *
   have HRST := Lib.hid hrst
   generalize ls.getD k lnA0 = x at *
   have HOKX := Lib.hid hok
   have FLI := Lib.hid (fun X (hX : LkS w w1 X) => ln_id (FLN.out X hX) HOKX.out.1)
   have F18 := Lib.hid (fun X (hX : LkS w w1 X) => ln_c18 (FLN.out X hX) HOKX.out.1)
   have HE := Lib.hid (fun h0 => en_row hok.2.2.2.2 h0)
   have HEO := Lib.hid (fun j (hj : j < x.es.length) => show EnA.Ok w (x.es.getD j enA0) from Kind.row_ok hok.2.2.2.2 hj)
   have HES := Lib.hid (fun j (hj : j < x.es.length) => elike_step (es := x.es) d n hj)
   have hMb : x.es.length ≤ 9223372036854775807 := by
    have a1 := hok.2.2.2.2.1
    have a2 := hok.2.2.2.2.2.1
    simp only [maxLen] at a2
    omega
   have SZ := Lib.hid (idSize hok.1)
   have SQ := Lib.hid (idSame (z := z16m) rfl hok.1)
   have SO := Lib.hid (idOnes x.z)
   generalize hM : x.es.length = M at *
   have HM := Lib.hid hM
   have HF0 := Lib.hid hf
   clear hx1 hi1 hA1 hok hb hb1w hf hrst hM
   go_wp2
   clear cc1
   go_loopw [10] (fun i wr => ∃ j : Nat, j ≤ M ∧ i = .int .i64 j ∧ Below w1.heap.size w1 wr ∧ V = likeOr x.z (elike ((x.es.drop j).map (·.e)) d n) rest) (fun i _ => M - (intOf i).toNat)
   case atStart => exact ⟨0, Nat.zero_le _, rfl, HBB.out, HF0.out⟩
   case round =>
    obtain ⟨j, hj, rfl, hb2, hf2⟩ := hrel
    have HB2 := Lib.hid hb2
    have HT := Lib.hid (fun w9 (h9 : Below wr.heap.size wr w9) => HLK.out w9 (hb2.trans (h9.mono hb2.size)))
    have HDD := Lib.hid (fun w9 (h9 : Below wr.heap.size wr w9) => Kind.at_blk (HS.out w9 (hb2.trans (h9.mono hb2.size))).b)
    have cc1 := FC32.out wr (HLK.out wr hb2)
    have cx1 := IX1.out wr
    have cc2 := F18.out wr (HLK.out wr hb2)
    by_cases hjt : j < M
    ·have t3 : (j : Int) < (M : Int) := by omega
     obtain ⟨b2, off2, hA2, hb2w, hx2, hi2⟩ := HE.out (by omega)
     have IX2 := Lib.hid (hi2 j hjt j rfl)
     rw [← hA2] at IX2
     have FEN := Lib.hid (fun X (hX : LkS w w1 X) => Kind.at_same (hx2 j hjt) (hX.1.block b2 hb2w))
     have hokE := HEO.out j hjt
     rw [HES.out j hjt] at hf2
     generalize x.es.getD j enA0 = y at *
     have HD32 := Lib.hid hokE.2.2.2.2.1
     have FC3 := Lib.hid (fun X (hX : LkS w w1 X) => en_c3 (FEN.out X hX))
     have FC0 := Lib.hid (fun X (hX : LkS w w1 X) => en_c0 (FEN.out X hX))
     have HQ := Lib.hid (show ∀ X, (Op.equalIn 10000 26 (.agg (bvals y.e.ds)) (.agg (bvals d))).run Tryz.prog X = .ok (decide (y.e.ds = d)) X from fun X => by
      rw [eq_dig hokE.2.2.2.2.2.1 HD.out.2 hokE.2.2.2.2.1 HD.out.1 X]; congr 1; rw [Bool.eq_iff_iff]; simp)
     clear hx2 hi2 hA2 hokE hb2 hb2w
     by_cases he : y.e.ds = d
     ·rw [decide_eq_true he] at HQ
      by_cases hl : y.e.len = n
      ·have HF := Lib.hid (show V = some (x.z, y.e.no) by rw [hf2, if_pos ⟨he, hl⟩]; rfl)
       have HT5 := Lib.hid (show y.e.len = n from hl)
       clear hf2 he hl
       go_wp2_with fail
       refine wp_region_G _ (by kernel_rfl) ?_
       refine wpGv (i := 0) (oi := ⟨some 29, _, _, _, _, _⟩) (v := ?_) rfl ?_ ?_; rotate_left; (focus (intro w9 hSw; go_simp; try with_reducible rfl)); simp only [Act.put, Z2, Z3, Z4]
       refine wpGv (i := 1) (oi := ⟨some 30, _, _, _, _, _⟩) (v := ?_) rfl ?_ ?_; rotate_left; (focus (intro w9 hSw; have q0 := FC32.out w9 (HT.out w9 hSw); go_simp; try with_reducible rfl)); simp only [Act.put, Z2, Z3, Z4]
       refine wpGv (i := 2) (oi := ⟨some 31, _, _, _, _, _⟩) (v := ?_) rfl ?_ ?_; rotate_left; (focus (intro w9 hSw; go_simp; try with_reducible rfl)); simp only [Act.put, Z2, Z3, Z4]
       refine wpGv (i := 3) (oi := ⟨some 32, _, _, _, _, _⟩) (v := ?_) rfl ?_ ?_; rotate_left; (focus (intro w9 hSw; have q0 := IX1.out w9; go_simp; try with_reducible rfl)); simp only [Act.put, Z2, Z3, Z4]
       refine wpGv (i := 4) (oi := ⟨some 33, _, _, _, _, _⟩) (v := ?_) rfl ?_ ?_; rotate_left; (focus (intro w9 hSw; go_simp; try with_reducible rfl)); simp only [Act.put, Z2, Z3, Z4]
       refine wpGv (i := 5) (oi := ⟨some 34, _, _, _, _, _⟩) (v := ?_) rfl ?_ ?_; rotate_left; (focus (intro w9 hSw; have q0 := F18.out w9 (HT.out w9 hSw); go_simp; try with_reducible rfl)); simp only [Act.put, Z2, Z3, Z4]
       refine wpGv (i := 6) (oi := ⟨some 35, _, _, _, _, _⟩) (v := ?_) rfl ?_ ?_; rotate_left; (focus (intro w9 hSw; go_simp; try with_reducible rfl)); simp only [Act.put, Z2, Z3, Z4]
       refine wpGv (i := 7) (oi := ⟨some 36, _, _, _, _, _⟩) (v := ?_) rfl ?_ ?_; rotate_left; (focus (intro w9 hSw; have q0 := IX2.out w9; go_simp; try with_reducible rfl)); simp only [Act.put, Z2, Z3, Z4]
       refine wpGv (i := 8) (oi := ⟨some 37, _, _, _, _, _⟩) (v := ?_) rfl ?_ ?_; rotate_left; (focus (intro w9 hSw; go_simp; try with_reducible rfl)); simp only [Act.put, Z2, Z3, Z4]
       refine wpGv (i := 9) (oi := ⟨some 38, _, _, _, _, _⟩) (v := (.agg (bvals y.e.ds))) rfl ?_ ?_; (focus (intro w9 hSw; exact exec_load_at 26 _ rfl _ rfl (load_dig (en_dig (FEN.out w9 (HT.out w9 hSw)) HD32.out) HD32.out))); simp only [Act.put, Z2, Z3, Z4]
       refine wpGv (i := 10) (oi := ⟨some 39, _, _, _, _, _⟩) (v := (.agg (bvals d))) rfl ?_ ?_; (focus (intro w9 hSw; exact exec_load_at 26 _ rfl _ rfl (load_dig (HDD.out w9 hSw) HD.out.1))); simp only [Act.put, Z2, Z3, Z4]
       refine wpGv (i := 11) (oi := ⟨some 40, _, _, _, _, _⟩) (v := (.bool true)) rfl ?_ ?_; (focus (intro w9 hSw; have q0 := HQ.out w9; exact exec_eql_at 26 _ _ _ rfl rfl rfl guardDig q0)); simp only [Act.put, Z2, Z3, Z4]
       refine wpGv (i := 12) (oi := ⟨some 41, _, _, _, _, _⟩) (v := ?_) rfl ?_ ?_; rotate_left; (focus (intro w9 hSw; go_simp; try with_reducible rfl)); simp only [Act.put, Z2, Z3, Z4]
       refine wpGv (i := 13) (oi := ⟨some 42, _, _, _, _, _⟩) (v := ?_) rfl ?_ ?_; rotate_left; (focus (intro w9 hSw; go_simp; try with_reducible rfl)); simp only [Act.put, Z2, Z3, Z4]
       refine wpGv (i := 14) (oi := ⟨some 43, _, _, _, _, _⟩) (v := ?_) rfl ?_ ?_; rotate_left; (focus (intro w9 hSw; have q0 := FC32.out w9 (HT.out w9 hSw); go_simp; try with_reducible rfl)); simp only [Act.put, Z2, Z3, Z4]
       refine wpGv (i := 15) (oi := ⟨some 44, _, _, _, _, _⟩) (v := ?_) rfl ?_ ?_; rotate_left; (focus (intro w9 hSw; go_simp; try with_reducible rfl)); simp only [Act.put, Z2, Z3, Z4]
       refine wpGv (i := 16) (oi := ⟨some 45, _, _, _, _, _⟩) (v := ?_) rfl ?_ ?_; rotate_left; (focus (intro w9 hSw; have q0 := IX1.out w9; go_simp; try with_reducible rfl)); simp only [Act.put, Z2, Z3, Z4]
       refine wpGv (i := 17) (oi := ⟨some 46, _, _, _, _, _⟩) (v := ?_) rfl ?_ ?_; rotate_left; (focus (intro w9 hSw; go_simp; try with_reducible rfl)); simp only [Act.put, Z2, Z3, Z4]
       refine wpGv (i := 18) (oi := ⟨some 47, _, _, _, _, _⟩) (v := ?_) rfl ?_ ?_; rotate_left; (focus (intro w9 hSw; have q0 := F18.out w9 (HT.out w9 hSw); go_simp; try with_reducible rfl)); simp only [Act.put, Z2, Z3, Z4]
       refine wpGv (i := 19) (oi := ⟨some 48, _, _, _, _, _⟩) (v := ?_) rfl ?_ ?_; rotate_left; (focus (intro w9 hSw; go_simp; try with_reducible rfl)); simp only [Act.put, Z2, Z3, Z4]
       refine wpGv (i := 20) (oi := ⟨some 49, _, _, _, _, _⟩) (v := ?_) rfl ?_ ?_; rotate_left; (focus (intro w9 hSw; have q0 := IX2.out w9; go_simp; try with_reducible rfl)); simp only [Act.put, Z2, Z3, Z4]
       refine wpGv (i := 21) (oi := ⟨some 50, _, _, _, _, _⟩) (v := ?_) rfl ?_ ?_; rotate_left; (focus (intro w9 hSw; go_simp; try with_reducible rfl)); simp only [Act.put, Z2, Z3, Z4]
       refine wpGv (i := 22) (oi := ⟨some 51, _, _, _, _, _⟩) (v := ?_) rfl ?_ ?_; rotate_left; (focus (intro w9 hSw; have q0 := FC3.out w9 (HT.out w9 hSw); go_simp; try with_reducible rfl)); simp only [Act.put, Z2, Z3, Z4]
       refine wpGv (i := 23) (oi := ⟨some 52, _, _, _, _, _⟩) (v := ?_) rfl ?_ ?_; rotate_left; (focus (intro w9 hSw; go_simp; try with_reducible rfl)); simp only [Act.put, Z2, Z3, Z4]
       refine wpGv (i := 24) (oi := ⟨some 53, _, _, _, _, _⟩) (v := ?_) rfl ?_ ?_; rotate_left; (focus (intro w9 hSw; have q0 := HT5.out; go_simp; try with_reducible rfl)); simp only [Act.put, Z2, Z3, Z4]
       refine wpGv (i := 25) (oi := ⟨some 54, _, _, _, _, _⟩) (v := ?_) rfl ?_ ?_; rotate_left; (focus (intro w9 hSw; go_simp; try with_reducible rfl)); simp only [Act.put, Z2, Z3, Z4]
       refine wpG_done (by kernel_rfl) ?_ _
       intro w9 hSw _
       have B9 := Lib.hid (HB2.out.trans (hSw.mono HB2.out.size))
       have HTD := Lib.hid (HLK.out _ B9.out.drew)
       have C9 := Lib.hid ((HS.out _ B9.out.drew).c)
       unfold Kind.blk at C9
       clear hSw cc1 cx1 cc2
       go_wp2_with fail
       refine wp_region_held_drew (S := LkS w w1) (by kernel_rfl) HTD.out (fun hS => ?_)
       generalize World.drew _ = w8 at *
       have N8 := Lib.hid C9.out
       have B8 := Lib.hid (below_setRow HTD.out.1 (show w.heap.size ≤ w.heap.size + 1 + 1 by omega) (bvals x.z))
       have K8 := Lib.hid ((setRow_other w8 (w.heap.size + 1 + 1) w.heap.size (bvals x.z) (by omega)).trans HTD.out.2)
       have XB := Lib.hid (show KId.blk 38 (w8.setRow (w.heap.size + 1 + 1) (bvals x.z)) (w.heap.size + 1 + 1) x.z from setRow_heap _ _ _ _ _ _ N8.out)
       refine wpHv (i := 0) (oi := ⟨some 55, _, _, _, _, _⟩) (v := ?_) rfl ?_ hS ?_; rotate_left; (focus (intro w9 hSw; go_simp; try with_reducible rfl)); simp only [Act.put, Z2, Z3, Z4]
       refine wpHv (i := 1) (oi := ⟨some 56, _, _, _, _, _⟩) (v := ?_) rfl ?_ hS ?_; rotate_left; (focus (intro w9 hSw; have q0 := FC32.out w9 hSw; go_simp; try with_reducible rfl)); simp only [Act.put, Z2, Z3, Z4]
       refine wpHv (i := 2) (oi := ⟨some 57, _, _, _, _, _⟩) (v := ?_) rfl ?_ hS ?_; rotate_left; (focus (intro w9 hSw; go_simp; try with_reducible rfl)); simp only [Act.put, Z2, Z3, Z4]
       refine wpHv (i := 3) (oi := ⟨some 58, _, _, _, _, _⟩) (v := ?_) rfl ?_ hS ?_; rotate_left; (focus (intro w9 hSw; have q0 := IX1.out w9; go_simp; try with_reducible rfl)); simp only [Act.put, Z2, Z3, Z4]
       refine wpHv (i := 4) (oi := ⟨some 59, _, _, _, _, _⟩) (v := ?_) rfl ?_ hS ?_; rotate_left; (focus (intro w9 hSw; go_simp; try with_reducible rfl)); simp only [Act.put, Z2, Z3, Z4]
       refine wpHv (i := 5) (oi := ⟨some 60, _, _, _, _, _⟩) (v := (.agg (bvals x.z))) rfl ?_ hS ?_; (focus (intro w9 hSw; exact exec_load_at 38 _ rfl _ rfl (load_idM (FLI.out w9 hSw) HOKX.out.1))); simp only [Act.put, Z2, Z3, Z4]
       refine wpHv (i := 6) (oi := ⟨some 61, _, _, _, _, _⟩) (v := ?_) rfl ?_ hS ?_; rotate_left; (focus (intro w9 hSw; go_simp; try with_reducible rfl)); simp only [Act.put, Z2, Z3, Z4]
       refine wpHv (i := 7) (oi := ⟨some 62, _, _, _, _, _⟩) (v := ?_) rfl ?_ hS ?_; rotate_left; (focus (intro w9 hSw; have q0 := FC32.out w9 hSw; go_simp; try with_reducible rfl)); simp only [Act.put, Z2, Z3, Z4]
       refine wpHv (i := 8) (oi := ⟨some 63, _, _, _, _, _⟩) (v := ?_) rfl ?_ hS ?_; rotate_left; (focus (intro w9 hSw; go_simp; try with_reducible rfl)); simp only [Act.put, Z2, Z3, Z4]
       refine wpHv (i := 9) (oi := ⟨some 64, _, _, _, _, _⟩) (v := ?_) rfl ?_ hS ?_; rotate_left; (focus (intro w9 hSw; have q0 := IX1.out w9; go_simp; try with_reducible rfl)); simp only [Act.put, Z2, Z3, Z4]
       refine wpHv (i := 10) (oi := ⟨some 65, _, _, _, _, _⟩) (v := ?_) rfl ?_ hS ?_; rotate_left; (focus (intro w9 hSw; go_simp; try with_reducible rfl)); simp only [Act.put, Z2, Z3, Z4]
       refine wpHv (i := 11) (oi := ⟨some 66, _, _, _, _, _⟩) (v := ?_) rfl ?_ hS ?_; rotate_left; (focus (intro w9 hSw; have q0 := F18.out w9 hSw; go_simp; try with_reducible rfl)); simp only [Act.put, Z2, Z3, Z4]
       refine wpHv (i := 12) (oi := ⟨some 67, _, _, _, _, _⟩) (v := ?_) rfl ?_ hS ?_; rotate_left; (focus (intro w9 hSw; go_simp; try with_reducible rfl)); simp only [Act.put, Z2, Z3, Z4]
       refine wpHv (i := 13) (oi := ⟨some 68, _, _, _, _, _⟩) (v := ?_) rfl ?_ hS ?_; rotate_left; (focus (intro w9 hSw; have q0 := IX2.out w9; go_simp; try with_reducible rfl)); simp only [Act.put, Z2, Z3, Z4]
       refine wpHv (i := 14) (oi := ⟨some 69, _, _, _, _, _⟩) (v := ?_) rfl ?_ hS ?_; rotate_left; (focus (intro w9 hSw; go_simp; try with_reducible rfl)); simp only [Act.put, Z2, Z3, Z4]
       refine wpHv (i := 15) (oi := ⟨some 70, _, _, _, _, _⟩) (v := ?_) rfl ?_ hS ?_; rotate_left; (focus (intro w9 hSw; have q0 := FC0.out w9 hSw; go_simp; try with_reducible rfl)); simp only [Act.put, Z2, Z3, Z4]
       refine wpAnyH_ready (rs := [16]) (by kernel_rfl) (by simp) (AllReadyH.cons (o := ⟨none, _, _, _, _, _⟩) rfl (fun K hK => ?_) AllReadyH.nil)
       rw [if_pos (by rfl)]
       unfold Oper.wp
       rw [exec_store_at 38 _ _ rfl (w.heap.size + 1 + 1) (bvals x.z) rfl rfl 38 _ N8.out SZ.out SQ.out SO.out]
       refine hK.out _ _ ⟨B8.out, K8.out⟩ (fun hS => ?_)
       clear hK K
       simp only [Act.put]
       refine wpHv (i := 17) (oi := ⟨some 7, _, _, _, _, _⟩) (v := ?_) rfl ?_ hS ?_; rotate_left; (focus (intro w9 hSw; go_simp; try with_reducible rfl)); simp only [Act.put, Z2, Z3, Z4]
       refine wpHv (i := 18) (oi := ⟨some 8, _, _, _, _, _⟩) (v := ?_) rfl ?_ hS ?_; rotate_left; (focus (intro w9 hSw; go_simp; try with_reducible rfl)); simp only [Act.put, Z2, Z3, Z4]
       refine wpAnyH_done (by kernel_rfl) ?_ _
       go_wp2
       refine bodyPost_ret (v := .tuple #[.agg (bvals x.z), .int .i64 y.e.no, .bool true]) ?_ rfl ?_
       ·exact res_id3 Tryz.results23 rfl XB.out HOKX.out.1
       ·rw [HF.out]
        exact ⟨rfl, B8.out⟩
      ·have HF := Lib.hid (show V = likeOr x.z (elike ((x.es.drop (j + 1)).map (·.e)) d n) rest by rw [hf2, if_neg (fun h => hl h.2)])
       have HT5 := Lib.hid (show ¬ y.e.len = n from hl)
       clear hf2 he
       go_wp2_with fail
       refine wp_region_G _ (by kernel_rfl) ?_
       refine wpGv (i := 0) (oi := ⟨some 29, _, _, _, _, _⟩) (v := ?_) rfl ?_ ?_; rotate_left; (focus (intro w9 hSw; go_simp; try with_reducible rfl)); simp only [Act.put, Z2, Z3, Z4]
       refine wpGv (i := 1) (oi := ⟨some 30, _, _, _, _, _⟩) (v := ?_) rfl ?_ ?_; rotate_left; (focus (intro w9 hSw; have q0 := FC32.out w9 (HT.out w9 hSw); go_simp; try with_reducible rfl)); simp only [Act.put, Z2, Z3, Z4]
       refine wpGv (i := 2) (oi := ⟨some 31, _, _, _, _, _⟩) (v := ?_) rfl ?_ ?_; rotate_left; (focus (intro w9 hSw; go_simp; try with_reducible rfl)); simp only [Act.put, Z2, Z3, Z4]
       refine wpGv (i := 3) (oi := ⟨some 32, _, _, _, _, _⟩) (v := ?_) rfl ?_ ?_; rotate_left; (focus (intro w9 hSw; have q0 := IX1.out w9; go_simp; try with_reducible rfl)); simp only [Act.put, Z2, Z3, Z4]
       refine wpGv (i := 4) (oi := ⟨some 33, _, _, _, _, _⟩) (v := ?_) rfl ?_ ?_; rotate_left; (focus (intro w9 hSw; go_simp; try with_reducible rfl)); simp only [Act.put, Z2, Z3, Z4]
       refine wpGv (i := 5) (oi := ⟨some 34, _, _, _, _, _⟩) (v := ?_) rfl ?_ ?_; rotate_left; (focus (intro w9 hSw; have q0 := F18.out w9 (HT.out w9 hSw); go_simp; try with_reducible rfl)); simp only [Act.put, Z2, Z3, Z4]
       refine wpGv (i := 6) (oi := ⟨some 35, _, _, _, _, _⟩) (v := ?_) rfl ?_ ?_; rotate_left; (focus (intro w9 hSw; go_simp; try with_reducible rfl)); simp only [Act.put, Z2, Z3, Z4]
       refine wpGv (i := 7) (oi := ⟨some 36, _, _, _, _, _⟩) (v := ?_) rfl ?_ ?_; rotate_left; (focus (intro w9 hSw; have q0 := IX2.out w9; go_simp; try with_reducible rfl)); simp only [Act.put, Z2, Z3, Z4]
       refine wpGv (i := 8) (oi := ⟨some 37, _, _, _, _, _⟩) (v := ?_) rfl ?_ ?_; rotate_left; (focus (intro w9 hSw; go_simp; try with_reducible rfl)); simp only [Act.put, Z2, Z3, Z4]
       refine wpGv (i := 9) (oi := ⟨some 38, _, _, _, _, _⟩) (v := (.agg (bvals y.e.ds))) rfl ?_ ?_; (focus (intro w9 hSw; exact exec_load_at 26 _ rfl _ rfl (load_dig (en_dig (FEN.out w9 (HT.out w9 hSw)) HD32.out) HD32.out))); simp only [Act.put, Z2, Z3, Z4]
       refine wpGv (i := 10) (oi := ⟨some 39, _, _, _, _, _⟩) (v := (.agg (bvals d))) rfl ?_ ?_; (focus (intro w9 hSw; exact exec_load_at 26 _ rfl _ rfl (load_dig (HDD.out w9 hSw) HD.out.1))); simp only [Act.put, Z2, Z3, Z4]
       refine wpGv (i := 11) (oi := ⟨some 40, _, _, _, _, _⟩) (v := (.bool true)) rfl ?_ ?_; (focus (intro w9 hSw; have q0 := HQ.out w9; exact exec_eql_at 26 _ _ _ rfl rfl rfl guardDig q0)); simp only [Act.put, Z2, Z3, Z4]
       refine wpGv (i := 12) (oi := ⟨some 41, _, _, _, _, _⟩) (v := ?_) rfl ?_ ?_; rotate_left; (focus (intro w9 hSw; go_simp; try with_reducible rfl)); simp only [Act.put, Z2, Z3, Z4]
       refine wpGv (i := 13) (oi := ⟨some 42, _, _, _, _, _⟩) (v := ?_) rfl ?_ ?_; rotate_left; (focus (intro w9 hSw; go_simp; try with_reducible rfl)); simp only [Act.put, Z2, Z3, Z4]
       refine wpGv (i := 14) (oi := ⟨some 43, _, _, _, _, _⟩) (v := ?_) rfl ?_ ?_; rotate_left; (focus (intro w9 hSw; have q0 := FC32.out w9 (HT.out w9 hSw); go_simp; try with_reducible rfl)); simp only [Act.put, Z2, Z3, Z4]
       refine wpGv (i := 15) (oi := ⟨some 44, _, _, _, _, _⟩) (v := ?_) rfl ?_ ?_; rotate_left; (focus (intro w9 hSw; go_simp; try with_reducible rfl)); simp only [Act.put, Z2, Z3, Z4]
       refine wpGv (i := 16) (oi := ⟨some 45, _, _, _, _, _⟩) (v := ?_) rfl ?_ ?_; rotate_left; (focus (intro w9 hSw; have q0 := IX1.out w9; go_simp; try with_reducible rfl)); simp only [Act.put, Z2, Z3, Z4]
       refine wpGv (i := 17) (oi := ⟨some 46, _, _, _, _, _⟩) (v := ?_) rfl ?_ ?_; rotate_left; (focus (intro w9 hSw; go_simp; try with_reducible rfl)); simp only [Act.put, Z2, Z3, Z4]
       refine wpGv (i := 18) (oi := ⟨some 47, _, _, _, _, _⟩) (v := ?_) rfl ?_ ?_; rotate_left; (focus (intro w9 hSw; have q0 := F18.out w9 (HT.out w9 hSw); go_simp; try with_reducible rfl)); simp only [Act.put, Z2, Z3, Z4]
       refine wpGv (i := 19) (oi := ⟨some 48, _, _, _, _, _⟩) (v := ?_) rfl ?_ ?_; rotate_left; (focus (intro w9 hSw; go_simp; try with_reducible rfl)); simp only [Act.put, Z2, Z3, Z4]
       refine wpGv (i := 20) (oi := ⟨some 49, _, _, _, _, _⟩) (v := ?_) rfl ?_ ?_; rotate_left; (focus (intro w9 hSw; have q0 := IX2.out w9; go_simp; try with_reducible rfl)); simp only [Act.put, Z2, Z3, Z4]
       refine wpGv (i := 21) (oi := ⟨some 50, _, _, _, _, _⟩) (v := ?_) rfl ?_ ?_; rotate_left; (focus (intro w9 hSw; go_simp; try with_reducible rfl)); simp only [Act.put, Z2, Z3, Z4]
       refine wpGv (i := 22) (oi := ⟨some 51, _, _, _, _, _⟩) (v := ?_) rfl ?_ ?_; rotate_left; (focus (intro w9 hSw; have q0 := FC3.out w9 (HT.out w9 hSw); go_simp; try with_reducible rfl)); simp only [Act.put, Z2, Z3, Z4]
       refine wpGv (i := 23) (oi := ⟨some 52, _, _, _, _, _⟩) (v := ?_) rfl ?_ ?_; rotate_left; (focus (intro w9 hSw; go_simp; try with_reducible rfl)); simp only [Act.put, Z2, Z3, Z4]
       refine wpGv (i := 24) (oi := ⟨some 53, _, _, _, _, _⟩) (v := ?_) rfl ?_ ?_; rotate_left; (focus (intro w9 hSw; have q0 := HT5.out; go_simp; try with_reducible rfl)); simp only [Act.put, Z2, Z3, Z4]
       refine wpGv (i := 25) (oi := ⟨some 54, _, _, _, _, _⟩) (v := ?_) rfl ?_ ?_; rotate_left; (focus (intro w9 hSw; go_simp; try with_reducible rfl)); simp only [Act.put, Z2, Z3, Z4]
       refine wpG_done (by kernel_rfl) ?_ _
       intro w9 hSw _
       have B9 := Lib.hid (HB2.out.trans (hSw.mono HB2.out.size))
       clear hSw cc1 cx1 cc2
       go_wp2
       go_roundw
       case rel => exact ⟨j + 1, by omega, by go_num, B9.out, HF.out⟩
       case measure => simp [intOf]; omega
     ·rw [decide_eq_false he] at HQ
      have HF := Lib.hid (show V = likeOr x.z (elike ((x.es.drop (j + 1)).map (·.e)) d n) rest by rw [hf2, if_neg (fun h => he h.1)])
      clear hf2
      go_wp2_with fail
      refine wp_region_G _ (by kernel_rfl) ?_
      refine wpGv (i := 0) (oi := ⟨some 29, _, _, _, _, _⟩) (v := ?_) rfl ?_ ?_; rotate_left; (focus (intro w9 hSw; go_simp; try with_reducible rfl)); simp only [Act.put, Z2, Z3, Z4]
      refine wpGv (i := 1) (oi := ⟨some 30, _, _, _, _, _⟩) (v := ?_) rfl ?_ ?_; rotate_left; (focus (intro w9 hSw; have q0 := FC32.out w9 (HT.out w9 hSw); go_simp; try with_reducible rfl)); simp only [Act.put, Z2, Z3, Z4]
      refine wpGv (i := 2) (oi := ⟨some 31, _, _, _, _, _⟩) (v := ?_) rfl ?_ ?_; rotate_left; (focus (intro w9 hSw; go_simp; try with_reducible rfl)); simp only [Act.put, Z2, Z3, Z4]
      refine wpGv (i := 3) (oi := ⟨some 32, _, _, _, _, _⟩) (v := ?_) rfl ?_ ?_; rotate_left; (focus (intro w9 hSw; have q0 := IX1.out w9; go_simp; try with_reducible rfl)); simp only [Act.put, Z2, Z3, Z4]
      refine wpGv (i := 4) (oi := ⟨some 33, _, _, _, _, _⟩) (v := ?_) rfl ?_ ?_; rotate_left; (focus (intro w9 hSw; go_simp; try with_reducible rfl)); simp only [Act.put, Z2, Z3, Z4]
      refine wpGv (i := 5) (oi := ⟨some 34, _, _, _, _, _⟩) (v := ?_) rfl ?_ ?_; rotate_left; (focus (intro w9 hSw; have q0 := F18.out w9 (HT.out w9 hSw); go_simp; try with_reducible rfl)); simp only [Act.put, Z2, Z3, Z4]
      refine wpGv (i := 6) (oi := ⟨some 35, _, _, _, _, _⟩) (v := ?_) rfl ?_ ?_; rotate_left; (focus (intro w9 hSw; go_simp; try with_reducible rfl)); simp only [Act.put, Z2, Z3, Z4]
      refine wpGv (i := 7) (oi := ⟨some 36, _, _, _, _, _⟩) (v := ?_) rfl ?_ ?_; rotate_left; (focus (intro w9 hSw; have q0 := IX2.out w9; go_simp; try with_reducible rfl)); simp only [Act.put, Z2, Z3, Z4]
      refine wpGv (i := 8) (oi := ⟨some 37, _, _, _, _, _⟩) (v := ?_) rfl ?_ ?_; rotate_left; (focus (intro w9 hSw; go_simp; try with_reducible rfl)); simp only [Act.put, Z2, Z3, Z4]
      refine wpGv (i := 9) (oi := ⟨some 38, _, _, _, _, _⟩) (v := (.agg (bvals y.e.ds))) rfl ?_ ?_; (focus (intro w9 hSw; exact exec_load_at 26 _ rfl _ rfl (load_dig (en_dig (FEN.out w9 (HT.out w9 hSw)) HD32.out) HD32.out))); simp only [Act.put, Z2, Z3, Z4]
      refine wpGv (i := 10) (oi := ⟨some 39, _, _, _, _, _⟩) (v := (.agg (bvals d))) rfl ?_ ?_; (focus (intro w9 hSw; exact exec_load_at 26 _ rfl _ rfl (load_dig (HDD.out w9 hSw) HD.out.1))); simp only [Act.put, Z2, Z3, Z4]
      refine wpGv (i := 11) (oi := ⟨some 40, _, _, _, _, _⟩) (v := (.bool false)) rfl ?_ ?_; (focus (intro w9 hSw; have q0 := HQ.out w9; exact exec_eql_at 26 _ _ _ rfl rfl rfl guardDig q0)); simp only [Act.put, Z2, Z3, Z4]
      refine wpGv (i := 12) (oi := ⟨some 41, _, _, _, _, _⟩) (v := ?_) rfl ?_ ?_; rotate_left; (focus (intro w9 hSw; go_simp; try with_reducible rfl)); simp only [Act.put, Z2, Z3, Z4]
      refine wpGo (i := 13) (oi := ⟨some 42, _, _, _, _, _⟩) rfl ?_; simp only [Act.put, Z2, Z3, Z4]
      refine wpGo (i := 14) (oi := ⟨some 43, _, _, _, _, _⟩) rfl ?_; simp only [Act.put, Z2, Z3, Z4]
      refine wpGo (i := 15) (oi := ⟨some 44, _, _, _, _, _⟩) rfl ?_; simp only [Act.put, Z2, Z3, Z4]
      refine wpGo (i := 16) (oi := ⟨some 45, _, _, _, _, _⟩) rfl ?_; simp only [Act.put, Z2, Z3, Z4]
      refine wpGo (i := 17) (oi := ⟨some 46, _, _, _, _, _⟩) rfl ?_; simp only [Act.put, Z2, Z3, Z4]
      refine wpGo (i := 18) (oi := ⟨some 47, _, _, _, _, _⟩) rfl ?_; simp only [Act.put, Z2, Z3, Z4]
      refine wpGo (i := 19) (oi := ⟨some 48, _, _, _, _, _⟩) rfl ?_; simp only [Act.put, Z2, Z3, Z4]
      refine wpGo (i := 20) (oi := ⟨some 49, _, _, _, _, _⟩) rfl ?_; simp only [Act.put, Z2, Z3, Z4]
      refine wpGo (i := 21) (oi := ⟨some 50, _, _, _, _, _⟩) rfl ?_; simp only [Act.put, Z2, Z3, Z4]
      refine wpGo (i := 22) (oi := ⟨some 51, _, _, _, _, _⟩) rfl ?_; simp only [Act.put, Z2, Z3, Z4]
      refine wpGo (i := 23) (oi := ⟨some 52, _, _, _, _, _⟩) rfl ?_; simp only [Act.put, Z2, Z3, Z4]
      refine wpGo (i := 24) (oi := ⟨some 53, _, _, _, _, _⟩) rfl ?_; simp only [Act.put, Z2, Z3, Z4]
      refine wpGv (i := 25) (oi := ⟨some 54, _, _, _, _, _⟩) (v := ?_) rfl ?_ ?_; rotate_left; (focus (intro w9 hSw; go_simp; try with_reducible rfl)); simp only [Act.put, Z2, Z3, Z4]
      refine wpG_done (by kernel_rfl) ?_ _
      intro w9 hSw _
      have B9 := Lib.hid (HB2.out.trans (hSw.mono HB2.out.size))
      clear hSw cc1 cx1 cc2
      go_wp2
      go_roundw
      case rel => exact ⟨j + 1, by omega, by go_num, B9.out, HF.out⟩
      case measure => simp [intOf]; omega
    ·obtain rfl : j = M := by omega
     have t3 : ¬ (j : Int) < (j : Int) := by omega
     have HF := Lib.hid (show V = rest by rw [hf2, List.drop_eq_nil_of_le (by rw [HM.out]; exact Nat.le_refl _)]; rfl)
     clear hf2 hb2
     go_wp2
     go_roundw
     case rel => exact ⟨k + 1, by omega, by go_num, HB2.out, by rw [HRST.out]; exact HF.out⟩
     case measure => simp [intOf]; omega
  ·obtain rfl : k = N := by omega
   have t1 : ¬ (k : Int) < (k : Int) := by omega
   have HF := Lib.hid (show V = none by rw [hf, List.drop_eq_nil_of_le (by rw [HN.out]; exact Nat.le_refl _)]; rfl)
   have NB := Lib.hid (HS.out wr hb).c
   have BB := Lib.hid (HS.out wr hb).below
   have XB := Lib.hid (show KId.blk 38 (wr.setRow (w.heap.size + 1 + 1) (bvals z16m)) (w.heap.size + 1 + 1) z16m from setRow_heap _ _ _ _ _ _ NB.out)
   have BX := Lib.hid (below_setRow BB.out (show w.heap.size ≤ w.heap.size + 1 + 1 by omega) (bvals z16m))
   have SZ := Lib.hid (idSize (z := z16m) rfl)
   have SO := Lib.hid (idOnes z16m)
   clear hf hb
   unfold Kind.blk at NB
   go_wp2_with ((with_reducible refine wpList_store_row (o := ⟨none, .store 38 (.tmp 6) (.tmp 71), _, _, _, _⟩) ?e1 38 (.tmp 6) (.tmp 71) ?e2 (w.heap.size + 1 + 1) (bvals z16m) ?e3 ?e4 38 _ NB.out SZ.out rfl SO.out ?_); (case e1 => rfl); (case e2 => rfl); (case e3 => rfl); (case e4 => rfl))
   refine bodyPost_ret (v := .tuple #[.agg (bvals z16m), .int .i64 0, .bool false]) ?_ rfl ?_
   ·exact res_id3 Tryz.results23 rfl XB.out rfl
   ·rw [HF.out]
    exact ⟨rfl, BX.out⟩
end
end Go.Proofs.YtbkopnpafmjicaaGreatDoor
