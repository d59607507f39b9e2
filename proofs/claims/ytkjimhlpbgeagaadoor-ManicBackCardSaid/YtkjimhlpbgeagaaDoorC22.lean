import Derived.Test.YtkjimhlpbgeagaaDoorC0
import Derived.Test.YtkjimhlpbgeagaaDoorC19
import Derived.Test.YtkjimhlpbgeagaaDoorC21
import Derived.Test.YtkjimhlpbgeagaaDoorC12
/-
  What the functions that a law of this layer reaches answer, part 22. Nothing that was there is written.
-/
namespace Go.Proofs.YtkjimhlpbgeagaaDoor
set_option linter.unusedVariables false
set_option linter.unusedSimpArgs false
section
open Go.RowKit WM
set_option maxRecDepth 100000
def MGetPost (w : World) (x : Mn × Int) (e : Ending) (w' : World) : Prop := ∃ y : MnA, e = .returned (.tuple #[y.v, .int .i64 x.2]) ∧ y.m = x.1 ∧ y.Ok w' ∧ Below w.heap.size w w'
theorem grown_belowM {w X : World} {n q : Nat} (h : w.grownBy X (some q)) (hn : n ≤ q) (hw : n ≤ w.heap.size) : Below n w X := ⟨h.os, h.tape, h.output, h.size, fun i hi => h.block i (Nat.lt_of_lt_of_le hi hw) (fun e => by have := Option.some.inj e; omega)⟩
set_option maxHeartbeats 16000000 in
theorem get13_any {B : Nat} (A : Option Addr) (len cap : Nat) (zs : List Int) (w : World) (h : Byt w B A zs) (hB : B ≤ w.heap.size) (hl : zs.length = len) (hb : AllBytes zs) (hlc : len ≤ cap) (hm : cap ≤ maxLen) : Calls Tryd.prog 10 #[.slice A len cap] w (MGetPost w (mget zs)) := by
 have N0 := Lib.hid (MnAt.new w mnA0)
 have B0 := Lib.hid ((Below.refl w.heap.size w).alloc (Nat.le_refl _) (.cells mnA0.cs.toArray 26))
 have HO := Lib.hid (open_any A len cap zs (w.alloc (.cells mnA0.cs.toArray 26)) (h.below (B0.out.mono hB)) (Nat.le_trans hB (Nat.le_of_lt N0.out.lt)) hl hb hlc hm)
 have HB0 := Lib.hid buildMn0
 have HOK := Lib.hid (fun k p n (ho : opn zs = .ok k p n) => opn_ok hb ho)
 have HLZ := Lib.hid hl
 have HG0 : Hid (mget zs = match opn zs with
  | .form => (mnZ, 2)
  | .check => (mnZ, 3)
  | .ok k p n => if k = 1 ∧ n = zs.length then mgetB (mman (p, true)) else (mnZ, 2)) := Lib.hid rfl
 have HV : Hid (∀ (y : MnA) (c : Int) (w' : World), y.m = (mget zs).1 → c = (mget zs).2 → y.Ok w' → Below w.heap.size w w' → MGetPost w (mget zs) (.returned (.tuple #[y.v, .int .i64 c])) w') := Lib.hid (fun y c w' h1 h2 h3 h4 => ⟨y, by rw [h2], h1, h3, h4⟩)
 generalize MGetPost w (mget zs) = POST at *
 generalize mget zs = G at *
 have hlen9 : len ≤ 9223372036854775807 := by simp only [maxLen] at hm; omega
 have hz := zeroMn
 rw [show mnA0.v = .agg mnA0.cs.toArray from rfl] at hz
 have hzne : ¬ mnA0.cs.toArray = #[] := by decide
 clear h hl hb hlc hm
 cases ho : opn zs with
 | form =>
  rw [ho] at HO HG0
  have HG := Lib.hid (show G = (mnZ, 2) from HG0.out)
  unfold OpenPost at HO
  clear HG0 ho
  go_enter Tryd.func10, Tryd.ntmps10
  go_wp2_with fail
  refine HO.out.mono ?_
  rintro e w1 ⟨rfl, hb1⟩
  have B1 := Lib.hid (B0.out.trans (hb1.mono B0.out.size))
  have N1 := Lib.hid (N0.out.below hb1 N0.out.lt)
  clear hb1
  have SZ0 := Lib.hid (mn_size (mnA0_ok w1))
  have SO0 := Lib.hid (mn_ones mnA0)
  have XB := Lib.hid (show MnAt (w1.setRow w.heap.size mnA0.cs.toArray) w.heap.size mnA0 from setRow_heap _ _ _ _ _ _ N1.out)
  have BX := Lib.hid (below_setRow B1.out (Nat.le_refl _) mnA0.cs.toArray)
  have NB := Lib.hid N1.out
  unfold MnAt at NB
  go_wp2_with (first | ((with_reducible refine wpList_build_at (o := ⟨some 20, .build 26 #[], _, _, _, _⟩) ?e1 26 #[] ?e2 #[] ?e3 _ (HB0.out _) ?_); (case e1 => rfl); (case e2 => rfl); (case e3 => simp)) | ((with_reducible refine wpList_store_row (o := ⟨none, .store 26 (.tmp 2) (.tmp 20), _, _, _, _⟩) ?e1 26 (.tmp 2) (.tmp 20) ?e2 w.heap.size mnA0.cs.toArray ?e3 ?e4 26 _ NB.out SZ0.out rfl SO0.out ?_); (case e1 => rfl); (case e2 => rfl); (case e3 => rfl); (case e4 => rfl)) | fail)
  refine bodyPost_ret (v := .tuple #[mnA0.v, .int .i64 2]) ?_ rfl ?_
  ·exact res_mn2 Tryd.results10 rfl XB.out (mnA0_ok _)
  ·exact HV.out mnA0 2 _ (by rw [HG.out]; rfl) (by rw [HG.out]) (mnA0_ok _) BX.out
 | check =>
  rw [ho] at HO HG0
  have HG := Lib.hid (show G = (mnZ, 3) from HG0.out)
  unfold OpenPost at HO
  clear HG0 ho
  go_enter Tryd.func10, Tryd.ntmps10
  go_wp2_with fail
  refine HO.out.mono ?_
  rintro e w1 ⟨rfl, hb1⟩
  have B1 := Lib.hid (B0.out.trans (hb1.mono B0.out.size))
  have N1 := Lib.hid (N0.out.below hb1 N0.out.lt)
  clear hb1
  have SZ0 := Lib.hid (mn_size (mnA0_ok w1))
  have SO0 := Lib.hid (mn_ones mnA0)
  have XB := Lib.hid (show MnAt (w1.setRow w.heap.size mnA0.cs.toArray) w.heap.size mnA0 from setRow_heap _ _ _ _ _ _ N1.out)
  have BX := Lib.hid (below_setRow B1.out (Nat.le_refl _) mnA0.cs.toArray)
  have NB := Lib.hid N1.out
  unfold MnAt at NB
  go_wp2_with (first | ((with_reducible refine wpList_build_at (o := ⟨some 20, .build 26 #[], _, _, _, _⟩) ?e1 26 #[] ?e2 #[] ?e3 _ (HB0.out _) ?_); (case e1 => rfl); (case e2 => rfl); (case e3 => simp)) | ((with_reducible refine wpList_store_row (o := ⟨none, .store 26 (.tmp 2) (.tmp 20), _, _, _, _⟩) ?e1 26 (.tmp 2) (.tmp 20) ?e2 w.heap.size mnA0.cs.toArray ?e3 ?e4 26 _ NB.out SZ0.out rfl SO0.out ?_); (case e1 => rfl); (case e2 => rfl); (case e3 => rfl); (case e4 => rfl)) | fail)
  refine bodyPost_ret (v := .tuple #[mnA0.v, .int .i64 3]) ?_ rfl ?_
  ·exact res_mn2 Tryd.results10 rfl XB.out (mnA0_ok _)
  ·exact HV.out mnA0 3 _ (by rw [HG.out]; rfl) (by rw [HG.out]) (mnA0_ok _) BX.out
 | ok k p n =>
  obtain ⟨o1, o2, o3, o4, o5, o6⟩ := HOK.out k p n ho
  rw [ho] at HO HG0
  dsimp only at HG0
  unfold OpenPost at HO
  rw [HLZ.out] at o4 HG0
  have HPB := Lib.hid o6
  have HP9 := Lib.hid o3
  clear ho HOK o3 o5 o6
  by_cases hk : k = 1
  ·subst hk
   by_cases hn : n = len
   ·have HG1 := Lib.hid (show G = mgetB (mman (p, true)) by rw [HG0.out, if_pos ⟨rfl, hn⟩])
    subst hn
    clear HG0
    go_enter Tryd.func10, Tryd.ntmps10
    go_wp2_with fail
    refine HO.out.mono ?_
    rintro e w1 ⟨A1, l1, c1, rfl, hp1, hlc1, hcm1, hown1, hb1⟩
    have B1 := Lib.hid (B0.out.trans (hb1.mono B0.out.size))
    have N1 := Lib.hid (N0.out.below hb1 N0.out.lt)
    have M2 := Lib.hid (show MRd (w1.alloc (.cells #[.slice A1 l1 c1, .bool true] 65)) w1.heap.size (p, true) from ⟨A1, l1, c1, heap_alloc_new w1 _, (Byt.own hown1).below ((Below.refl w1.heap.size w1).alloc (Nat.le_refl _) _), hp1, hlc1, hcm1, HPB.out⟩)
    have B2 := Lib.hid (B1.out.alloc B1.out.size (.cells #[.slice A1 l1 c1, .bool true] 65))
    have N2 := Lib.hid (N1.out.below ((Below.refl w1.heap.size w1).alloc (Nat.le_refl _) (.cells #[.slice A1 l1 c1, .bool true] 65)) N1.out.lt)
    have HM := Lib.hid (mman_any w1.heap.size (p, true) _ M2.out)
    have HQ1 := Lib.hid N1.out.lt
    clear hp1 hlc1 hcm1 hown1 hb1 o1 o2 o4
    go_wp2_with fail
    generalize w1.alloc (.cells #[.slice A1 l1 c1, .bool true] 65) = w2 at *
    generalize hq : w1.heap.size = q at *
    refine HM.out.mono ?_
    rintro e w3 ⟨y, rfl, hym, hyo, hyt, hr, hg⟩
    have B3 := Lib.hid (B2.out.trans (grown_belowM (n := w.heap.size) hg (Nat.le_of_lt HQ1.out) B2.out.size))
    have N3 := Lib.hid (show MnAt w3 w.heap.size mnA0 from (hg.block _ N2.out.lt (fun e => by have := Option.some.inj e; have := HQ1.out; omega)).trans N2.out)
    have HYO := Lib.hid hyo
    have HYM := Lib.hid hym
    have N4 := Lib.hid (N3.out.below ((Below.refl w3.heap.size w3).alloc (Nat.le_refl _) (.cells y.cs.toArray 26)) N3.out.lt)
    have B4 := Lib.hid (B3.out.alloc B3.out.size (.cells y.cs.toArray 26))
    have R4 := Lib.hid (hr.old (.cells y.cs.toArray 26))
    have Y4 := Lib.hid (MnAt.new w3 y)
    have O4 := Lib.hid (MnA.below hyo ((Below.refl w3.heap.size w3).alloc (Nat.le_refl _) (.cells y.cs.toArray 26)))
    have SZ1 := Lib.hid (mn_size hyo)
    have SQ1 := Lib.hid (show mnA0.cs.toArray.size = y.cs.toArray.size by rw [mnA0_size, List.size_toArray]; exact (MnA.len hyo).symm)
    have SO1 := Lib.hid (mn_ones y)
    have T4 := Lib.hid (show Tag 49 (w3.alloc (.cells y.cs.toArray 26)) y.A ∧ ∀ x ∈ y.ls, x.T (w3.alloc (.cells y.cs.toArray 26)) from ⟨hyt.1.below ((Below.refl w3.heap.size w3).alloc (Nat.le_refl _) _), fun x hx => LnA.T_below (hyt.2 x hx) ((Below.refl w3.heap.size w3).alloc (Nat.le_refl _) _)⟩)
    have HPM := Lib.hid (pmay12_any y _ O4.out)
    have LY := Lib.hid (load_mn Y4.out O4.out)
    generalize mman (p, true) = x at *
    obtain ⟨mn, rest, ok⟩ := x
    dsimp only at HYM hr R4 HG1
    obtain ⟨A2, l2, c2, hq2, hby2, hl2, hlc2, hcm2, _⟩ := R4.out
    dsimp only at hq2 hl2
    have r0 : (w3.alloc (.cells y.cs.toArray 26)).cell? ⟨q, 0, none⟩ = some (.slice A2 l2 c2) := by rw [cell_of_row _ _ _ _ _ _ hq2]; rfl
    have r1 : (w3.alloc (.cells y.cs.toArray 26)).cell? ⟨q, 1, none⟩ = some (.bool ok) := by rw [cell_of_row _ _ _ _ _ _ hq2]; rfl
    have HL2 := Lib.hid hl2
    have HYV := Lib.hid (show y.v = .agg y.cs.toArray from rfl)
    clear hym hyo hyt hr hg hq2 hby2 hlc2 hcm2 hl2 hq
    rw [HYV.out]
    cases ok
    ·have HG := Lib.hid (show G = (mnZ, 2) by rw [HG1.out]; unfold mgetB; rw [if_neg (by simp)])
     have SZ0 := Lib.hid (mn_size (mnA0_ok (w3.alloc (.cells y.cs.toArray 26))))
     have SO0 := Lib.hid (mn_ones mnA0)
     have XB := Lib.hid (show MnAt ((w3.alloc (.cells y.cs.toArray 26)).setRow w.heap.size mnA0.cs.toArray) w.heap.size mnA0 from setRow_heap _ _ _ _ _ _ N4.out)
     have BX := Lib.hid (below_setRow B4.out (Nat.le_refl _) mnA0.cs.toArray)
     have NB := Lib.hid N4.out
     unfold MnAt at NB
     go_wp2_with (first | ((with_reducible refine wpList_store_new (o := ⟨none, .store 26 (.tmp 9) (.tmp 35), _, _, _, _⟩) ?e1 26 (.tmp 9) (.tmp 35) ?e2 ?e3 mnA0.cs.toArray y.cs.toArray ?e4 SZ1.out SQ1.out SO1.out ?_); (case e1 => rfl); (case e2 => rfl); (case e3 => rfl); (case e4 => rfl)) | ((with_reducible refine wpList_build_at (o := ⟨some 48, .build 26 #[], _, _, _, _⟩) ?e1 26 #[] ?e2 #[] ?e3 _ (HB0.out _) ?_); (case e1 => rfl); (case e2 => rfl); (case e3 => simp)) | ((with_reducible refine wpList_store_row (o := ⟨none, .store 26 (.tmp 2) (.tmp 48), _, _, _, _⟩) ?e1 26 (.tmp 2) (.tmp 48) ?e2 w.heap.size mnA0.cs.toArray ?e3 ?e4 26 _ NB.out SZ0.out rfl SO0.out ?_); (case e1 => rfl); (case e2 => rfl); (case e3 => rfl); (case e4 => rfl)) | fail)
     refine bodyPost_ret (v := .tuple #[mnA0.v, .int .i64 2]) ?_ rfl ?_
     ·exact res_mn2 Tryd.results10 rfl XB.out (mnA0_ok _)
     ·exact HV.out mnA0 2 _ (by rw [HG.out]; rfl) (by rw [HG.out]) (mnA0_ok _) BX.out
    ·by_cases hl0 : l2 = 0
     ·subst hl0
      have HG2 := Lib.hid (show G = if mmay mn then (mn, 0) else (mnZ, 1) by rw [HG1.out]; unfold mgetB; rw [if_pos ⟨rfl, List.eq_nil_of_length_eq_zero HL2.out⟩])
      rw [HYM.out] at HPM
      cases hmm : mmay mn
      ·rw [hmm] at HPM HG2
       have HG := Lib.hid (show G = (mnZ, 1) from HG2.out)
       clear hmm
       go_wp2_with (first | ((with_reducible refine wpList_store_new (o := ⟨none, .store 26 (.tmp 9) (.tmp 35), _, _, _, _⟩) ?e1 26 (.tmp 9) (.tmp 35) ?e2 ?e3 mnA0.cs.toArray y.cs.toArray ?e4 SZ1.out SQ1.out SO1.out ?_); (case e1 => rfl); (case e2 => rfl); (case e3 => rfl); (case e4 => rfl)) | ((with_reducible refine wpList_load_at (o := ⟨some 50, .load 26 (.tmp 9), _, _, _, _⟩) ?e1 26 (.tmp 9) ?e2 ⟨w3.heap.size, 0, none⟩ ?e3 _ LY.out ?_); (case e1 => rfl); (case e2 => rfl); (case e3 => rfl)) | fail)
       refine HPM.out.mono ?_
       rintro e w5 ⟨rfl, hb5⟩
       have B5 := Lib.hid (B4.out.trans (hb5.mono B4.out.size))
       have N5 := Lib.hid (N4.out.below hb5 N4.out.lt)
       clear hb5 r0 r1
       have SZ0 := Lib.hid (mn_size (mnA0_ok w5))
       have SO0 := Lib.hid (mn_ones mnA0)
       have XB := Lib.hid (show MnAt (w5.setRow w.heap.size mnA0.cs.toArray) w.heap.size mnA0 from setRow_heap _ _ _ _ _ _ N5.out)
       have BX := Lib.hid (below_setRow B5.out (Nat.le_refl _) mnA0.cs.toArray)
       have NB := Lib.hid N5.out
       unfold MnAt at NB
       go_wp2_with (first | ((with_reducible refine wpList_build_at (o := ⟨some 53, .build 26 #[], _, _, _, _⟩) ?e1 26 #[] ?e2 #[] ?e3 _ (HB0.out _) ?_); (case e1 => rfl); (case e2 => rfl); (case e3 => simp)) | ((with_reducible refine wpList_store_row (o := ⟨none, .store 26 (.tmp 2) (.tmp 53), _, _, _, _⟩) ?e1 26 (.tmp 2) (.tmp 53) ?e2 w.heap.size mnA0.cs.toArray ?e3 ?e4 26 _ NB.out SZ0.out rfl SO0.out ?_); (case e1 => rfl); (case e2 => rfl); (case e3 => rfl); (case e4 => rfl)) | fail)
       refine bodyPost_ret (v := .tuple #[mnA0.v, .int .i64 1]) ?_ rfl ?_
       ·exact res_mn2 Tryd.results10 rfl XB.out (mnA0_ok _)
       ·exact HV.out mnA0 1 _ (by rw [HG.out]; rfl) (by rw [HG.out]) (mnA0_ok _) BX.out
      ·rw [hmm] at HPM HG2
       have HG := Lib.hid (show G = (mn, 0) from HG2.out)
       clear hmm
       go_wp2_with (first | ((with_reducible refine wpList_store_new (o := ⟨none, .store 26 (.tmp 9) (.tmp 35), _, _, _, _⟩) ?e1 26 (.tmp 9) (.tmp 35) ?e2 ?e3 mnA0.cs.toArray y.cs.toArray ?e4 SZ1.out SQ1.out SO1.out ?_); (case e1 => rfl); (case e2 => rfl); (case e3 => rfl); (case e4 => rfl)) | ((with_reducible refine wpList_load_at (o := ⟨some 50, .load 26 (.tmp 9), _, _, _, _⟩) ?e1 26 (.tmp 9) ?e2 ⟨w3.heap.size, 0, none⟩ ?e3 _ LY.out ?_); (case e1 => rfl); (case e2 => rfl); (case e3 => rfl)) | fail)
       refine HPM.out.mono ?_
       rintro e w5 ⟨rfl, hb5⟩
       have B5 := Lib.hid (B4.out.trans (hb5.mono B4.out.size))
       have N5 := Lib.hid (N4.out.below hb5 N4.out.lt)
       have O5 := Lib.hid (MnA.below O4.out hb5)
       have LY5 := Lib.hid (load_mn (Y4.out.below hb5 Y4.out.lt) O5.out)
       have T5 := Lib.hid (show Tag 49 w5 y.A ∧ ∀ x ∈ y.ls, x.T w5 from ⟨T4.out.1.below hb5, fun x hx => LnA.T_below (T4.out.2 x hx) hb5⟩)
       have XB := Lib.hid (show MnAt (w5.setRow w.heap.size y.cs.toArray) w.heap.size y from setRow_heap _ _ _ _ _ _ N5.out)
       have BX := Lib.hid (below_setRow B5.out (Nat.le_refl _) y.cs.toArray)
       have O6 := Lib.hid (show MnA.Ok (w5.setRow w.heap.size y.cs.toArray) y from ⟨O5.out.1, O5.out.2.1, Kind.row_kept O5.out.2.2 T5.out.1 mrd_row (NoT.of N5.out (by decide)) fun e he => (LnA.kept (O5.out.2.2.2.2.2.2 e he) (T5.out.2 e he) mrd_row (NoT.of N5.out (by decide))).1⟩)
       have NB := Lib.hid N5.out
       unfold MnAt at NB
       clear hb5 r0 r1
       go_wp2_with (first | ((with_reducible refine wpList_load_at (o := ⟨some 54, .load 26 (.tmp 9), _, _, _, _⟩) ?e1 26 (.tmp 9) ?e2 ⟨w3.heap.size, 0, none⟩ ?e3 _ LY5.out ?_); (case e1 => rfl); (case e2 => rfl); (case e3 => rfl)) | ((with_reducible refine wpList_store_row (o := ⟨none, .store 26 (.tmp 2) (.tmp 54), _, _, _, _⟩) ?e1 26 (.tmp 2) (.tmp 54) ?e2 w.heap.size y.cs.toArray ?e3 ?e4 26 _ NB.out SZ1.out SQ1.out SO1.out ?_); (case e1 => rfl); (case e2 => rfl); (case e3 => rfl); (case e4 => rfl)) | fail)
       refine bodyPost_ret (v := .tuple #[y.v, .int .i64 0]) ?_ rfl ?_
       ·exact res_mn2 Tryd.results10 rfl XB.out O6.out
       ·exact HV.out y 0 _ (by rw [HG.out, HYM.out]) (by rw [HG.out]) O6.out BX.out
     ·have HG := Lib.hid (show G = (mnZ, 2) by rw [HG1.out]; unfold mgetB; rw [if_neg (fun h => hl0 (HL2.out.symm.trans (by rw [show rest = [] from h.2]; rfl)))])
      have t3 : (0 : Int) < (l2 : Int) := by omega
      have SZ0 := Lib.hid (mn_size (mnA0_ok (w3.alloc (.cells y.cs.toArray 26))))
      have SO0 := Lib.hid (mn_ones mnA0)
      have XB := Lib.hid (show MnAt ((w3.alloc (.cells y.cs.toArray 26)).setRow w.heap.size mnA0.cs.toArray) w.heap.size mnA0 from setRow_heap _ _ _ _ _ _ N4.out)
      have BX := Lib.hid (below_setRow B4.out (Nat.le_refl _) mnA0.cs.toArray)
      have NB := Lib.hid N4.out
      unfold MnAt at NB
      go_wp2_with (first | ((with_reducible refine wpList_store_new (o := ⟨none, .store 26 (.tmp 9) (.tmp 35), _, _, _, _⟩) ?e1 26 (.tmp 9) (.tmp 35) ?e2 ?e3 mnA0.cs.toArray y.cs.toArray ?e4 SZ1.out SQ1.out SO1.out ?_); (case e1 => rfl); (case e2 => rfl); (case e3 => rfl); (case e4 => rfl)) | ((with_reducible refine wpList_build_at (o := ⟨some 48, .build 26 #[], _, _, _, _⟩) ?e1 26 #[] ?e2 #[] ?e3 _ (HB0.out _) ?_); (case e1 => rfl); (case e2 => rfl); (case e3 => simp)) | ((with_reducible refine wpList_store_row (o := ⟨none, .store 26 (.tmp 2) (.tmp 48), _, _, _, _⟩) ?e1 26 (.tmp 2) (.tmp 48) ?e2 w.heap.size mnA0.cs.toArray ?e3 ?e4 26 _ NB.out SZ0.out rfl SO0.out ?_); (case e1 => rfl); (case e2 => rfl); (case e3 => rfl); (case e4 => rfl)) | fail)
      refine bodyPost_ret (v := .tuple #[mnA0.v, .int .i64 2]) ?_ rfl ?_
      ·exact res_mn2 Tryd.results10 rfl XB.out (mnA0_ok _)
      ·exact HV.out mnA0 2 _ (by rw [HG.out]; rfl) (by rw [HG.out]) (mnA0_ok _) BX.out
   ·have HG := Lib.hid (show G = (mnZ, 2) by rw [HG0.out, if_neg (fun h => hn h.2)])
    have t3 : ¬ (n : Int) = (len : Int) := by omega
    clear HG0 o1 o2
    go_enter Tryd.func10, Tryd.ntmps10
    go_wp2_with fail
    refine HO.out.mono ?_
    rintro e w1 ⟨A1, l1, c1, rfl, hp1, hlc1, hcm1, hown1, hb1⟩
    have B1 := Lib.hid (B0.out.trans (hb1.mono B0.out.size))
    have N1 := Lib.hid (N0.out.below hb1 N0.out.lt)
    clear hb1 hp1 hlc1 hcm1 hown1
    have SZ0 := Lib.hid (mn_size (mnA0_ok w1))
    have SO0 := Lib.hid (mn_ones mnA0)
    have XB := Lib.hid (show MnAt (w1.setRow w.heap.size mnA0.cs.toArray) w.heap.size mnA0 from setRow_heap _ _ _ _ _ _ N1.out)
    have BX := Lib.hid (below_setRow B1.out (Nat.le_refl _) mnA0.cs.toArray)
    have NB := Lib.hid N1.out
    unfold MnAt at NB
    go_wp2_with (first | ((with_reducible refine wpList_build_at (o := ⟨some 31, .build 26 #[], _, _, _, _⟩) ?e1 26 #[] ?e2 #[] ?e3 _ (HB0.out _) ?_); (case e1 => rfl); (case e2 => rfl); (case e3 => simp)) | ((with_reducible refine wpList_store_row (o := ⟨none, .store 26 (.tmp 2) (.tmp 31), _, _, _, _⟩) ?e1 26 (.tmp 2) (.tmp 31) ?e2 w.heap.size mnA0.cs.toArray ?e3 ?e4 26 _ NB.out SZ0.out rfl SO0.out ?_); (case e1 => rfl); (case e2 => rfl); (case e3 => rfl); (case e4 => rfl)) | fail)
    refine bodyPost_ret (v := .tuple #[mnA0.v, .int .i64 2]) ?_ rfl ?_
    ·exact res_mn2 Tryd.results10 rfl XB.out (mnA0_ok _)
    ·exact HV.out mnA0 2 _ (by rw [HG.out]; rfl) (by rw [HG.out]) (mnA0_ok _) BX.out
  ·have HG := Lib.hid (show G = (mnZ, 2) by rw [HG0.out, if_neg (fun h => hk h.1)])
   clear HG0 o1 o2
   go_enter Tryd.func10, Tryd.ntmps10
   go_wp2_with fail
   refine HO.out.mono ?_
   rintro e w1 ⟨A1, l1, c1, rfl, hp1, hlc1, hcm1, hown1, hb1⟩
   have B1 := Lib.hid (B0.out.trans (hb1.mono B0.out.size))
   have N1 := Lib.hid (N0.out.below hb1 N0.out.lt)
   clear hb1 hp1 hlc1 hcm1 hown1
   have SZ0 := Lib.hid (mn_size (mnA0_ok w1))
   have SO0 := Lib.hid (mn_ones mnA0)
   have XB := Lib.hid (show MnAt (w1.setRow w.heap.size mnA0.cs.toArray) w.heap.size mnA0 from setRow_heap _ _ _ _ _ _ N1.out)
   have BX := Lib.hid (below_setRow B1.out (Nat.le_refl _) mnA0.cs.toArray)
   have NB := Lib.hid N1.out
   unfold MnAt at NB
   go_wp2_with (first | ((with_reducible refine wpList_build_at (o := ⟨some 31, .build 26 #[], _, _, _, _⟩) ?e1 26 #[] ?e2 #[] ?e3 _ (HB0.out _) ?_); (case e1 => rfl); (case e2 => rfl); (case e3 => simp)) | ((with_reducible refine wpList_store_row (o := ⟨none, .store 26 (.tmp 2) (.tmp 31), _, _, _, _⟩) ?e1 26 (.tmp 2) (.tmp 31) ?e2 w.heap.size mnA0.cs.toArray ?e3 ?e4 26 _ NB.out SZ0.out rfl SO0.out ?_); (case e1 => rfl); (case e2 => rfl); (case e3 => rfl); (case e4 => rfl)) | fail)
   refine bodyPost_ret (v := .tuple #[mnA0.v, .int .i64 2]) ?_ rfl ?_
   ·exact res_mn2 Tryd.results10 rfl XB.out (mnA0_ok _)
   ·exact HV.out mnA0 2 _ (by rw [HG.out]; rfl) (by rw [HG.out]) (mnA0_ok _) BX.out
end
section
open Go.RowKit WM
set_option maxRecDepth 20000 in
set_option maxHeartbeats 4000000 in
theorem concat2_any (g : Nat) (A1 A2 : Option Addr) (l1 l2 c1 c2 : Nat) (f1 f2 : List Int) (w : World) (hg : g < w.heap.size) (hg0 : w.cell? ⟨g, 0, none⟩ = some (.slice A1 l1 c1)) (hg1 : w.cell? ⟨g, 1, none⟩ = some (.slice A2 l2 c2))
  (h1 : BsAt w A1 l1 c1 f1) (h2 : BsAt w A2 l2 c2 f2) (hs : l1 + l2 ≤ 1000) (hp : 0 < l1) :
  Calls Tryd.prog 13 #[.slice (some ⟨g, 0, none⟩) 2 2] w (Gives w (f1 ++ f2)) := by
 have HG := Lib.hid (grow1_any (l1 + l2))
 rw [Int.natCast_add] at HG
 unfold GrowPost1 at HG
 have t1 : ¬ (l1 : Int) < 0 := by omega
 have t2 : ¬ (l1 : Int) + (l2 : Int) < 0 := by omega
 obtain ⟨i0, hi, hz0, hz1, hz2⟩ := info_parts infoByte
 have H1 := Lib.hid h1
 have H2 := Lib.hid h2
 clear h1 h2
 go_enter Tryd.func13, Tryd.ntmps13
 go_wp2
 refine wp_loop_rounds 3 ?_
 rw [rounds_succ]
 go_wp2
 rw [rounds_succ]
 go_wp2
 rw [rounds_succ]
 go_wp2_with fail
 refine (HG.out _ (by omega) hs).mono ?_
 rintro e w1 ⟨v, rfl, ho, hb⟩
 have G2 := Lib.hid hg1
 have hg0 := (hb.cell (p := ⟨g, 0, none⟩) hg).trans hg0
 have F1 := Lib.hid (H1.out.below hb (Nat.le_refl _))
 have HB1 := Lib.hid hb
 clear hb hg1
 go_wp2
 refine wp_loop_rounds 3 ?_
 rw [rounds_succ]
 go_wp2_with (at_builtin; refine wpList_append_byt _ rfl _ _ 27 rfl w.heap.size 5 i0 Tryd.underlying27 hi hz0 hz1 hz2 _ 0 [] rfl ho _ A1 l1 c1 f1 rfl F1.out.1 F1.out.2.1 F1.out.2.2 (by omega) HB1.out.size ?_; intro v2 w2 ho2 hg2x)
 rw [List.nil_append] at ho2
 have HB2 := HB1.out.grown hg2x HB1.out.size (fun g hg => own_base ho hg)
 have hg1 := (HB2.cell (p := ⟨g, 1, none⟩) hg).trans G2.out
 have F2 := Lib.hid (H2.out.below HB2 (Nat.le_refl _))
 have HB2 := Lib.hid HB2
 clear hg2x hg0 ho
 rw [rounds_succ]
 go_wp2_with (at_builtin; refine wpList_append_byt _ rfl _ _ 27 rfl w.heap.size 5 i0 Tryd.underlying27 hi hz0 hz1 hz2 _ _ f1 rfl ho2 _ A2 l2 c2 f2 rfl F2.out.1 F2.out.2.1 F2.out.2.2 (by omega) HB2.out.size ?_; intro v3 w3 ho3 hg3x)
 have HBX := Lib.hid (HB2.out.grown hg3x HB2.out.size (fun g hg => own_base ho2 hg))
 have HOX := Lib.hid ho3
 clear hg3x hg1 ho2 ho3
 rw [rounds_succ]
 go_wp2
 go_ret
 exact gives_own HOX.out HBX.out
set_option maxRecDepth 20000 in
set_option maxHeartbeats 4000000 in
theorem concat4_any (g : Nat) (A1 A2 A3 A4 : Option Addr) (l1 l2 l3 l4 c1 c2 c3 c4 : Nat) (f1 f2 f3 f4 : List Int) (w : World) (hg : g < w.heap.size) (hg0 : w.cell? ⟨g, 0, none⟩ = some (.slice A1 l1 c1)) (hg1 : w.cell? ⟨g, 1, none⟩ = some (.slice A2 l2 c2)) (hg2 : w.cell? ⟨g, 2, none⟩ = some (.slice A3 l3 c3)) (hg3 : w.cell? ⟨g, 3, none⟩ = some (.slice A4 l4 c4))
  (h1 : BsAt w A1 l1 c1 f1) (h2 : BsAt w A2 l2 c2 f2) (h3 : BsAt w A3 l3 c3 f3) (h4 : BsAt w A4 l4 c4 f4) (hs : l1 + l2 + l3 + l4 ≤ 1000) (hp : 0 < l1) :
  Calls Tryd.prog 13 #[.slice (some ⟨g, 0, none⟩) 4 4] w (Gives w (f1 ++ f2 ++ f3 ++ f4)) := by
 have HG := Lib.hid (grow1_any (l1 + l2 + l3 + l4))
 rw [Int.natCast_add, Int.natCast_add, Int.natCast_add] at HG
 unfold GrowPost1 at HG
 have t1 : ¬ (l1 : Int) < 0 := by omega
 have t2 : ¬ (l1 : Int) + (l2 : Int) < 0 := by omega
 have t3 : ¬ (l1 : Int) + (l2 : Int) + (l3 : Int) < 0 := by omega
 have t4 : ¬ (l1 : Int) + (l2 : Int) + (l3 : Int) + (l4 : Int) < 0 := by omega
 obtain ⟨i0, hi, hz0, hz1, hz2⟩ := info_parts infoByte
 have H1 := Lib.hid h1
 have H2 := Lib.hid h2
 have H3 := Lib.hid h3
 have H4 := Lib.hid h4
 clear h1 h2 h3 h4
 go_enter Tryd.func13, Tryd.ntmps13
 go_wp2
 refine wp_loop_rounds 5 ?_
 rw [rounds_succ]
 go_wp2
 rw [rounds_succ]
 go_wp2
 rw [rounds_succ]
 go_wp2
 rw [rounds_succ]
 go_wp2
 rw [rounds_succ]
 go_wp2_with fail
 refine (HG.out _ (by omega) hs).mono ?_
 rintro e w1 ⟨v, rfl, ho, hb⟩
 have G2 := Lib.hid hg1
 have G3 := Lib.hid hg2
 have G4 := Lib.hid hg3
 have hg0 := (hb.cell (p := ⟨g, 0, none⟩) hg).trans hg0
 have F1 := Lib.hid (H1.out.below hb (Nat.le_refl _))
 have HB1 := Lib.hid hb
 clear hb hg1 hg2 hg3
 go_wp2
 refine wp_loop_rounds 5 ?_
 rw [rounds_succ]
 go_wp2_with (at_builtin; refine wpList_append_byt _ rfl _ _ 27 rfl w.heap.size 5 i0 Tryd.underlying27 hi hz0 hz1 hz2 _ 0 [] rfl ho _ A1 l1 c1 f1 rfl F1.out.1 F1.out.2.1 F1.out.2.2 (by omega) HB1.out.size ?_; intro v2 w2 ho2 hg2x)
 rw [List.nil_append] at ho2
 have HB2 := HB1.out.grown hg2x HB1.out.size (fun g hg => own_base ho hg)
 have hg1 := (HB2.cell (p := ⟨g, 1, none⟩) hg).trans G2.out
 have F2 := Lib.hid (H2.out.below HB2 (Nat.le_refl _))
 have HB2 := Lib.hid HB2
 clear hg2x hg0 ho
 rw [rounds_succ]
 go_wp2_with (at_builtin; refine wpList_append_byt _ rfl _ _ 27 rfl w.heap.size 5 i0 Tryd.underlying27 hi hz0 hz1 hz2 _ _ f1 rfl ho2 _ A2 l2 c2 f2 rfl F2.out.1 F2.out.2.1 F2.out.2.2 (by omega) HB2.out.size ?_; intro v3 w3 ho3 hg3x)
 have HB3 := HB2.out.grown hg3x HB2.out.size (fun g hg => own_base ho2 hg)
 have hg2 := (HB3.cell (p := ⟨g, 2, none⟩) hg).trans G3.out
 have F3 := Lib.hid (H3.out.below HB3 (Nat.le_refl _))
 have HB3 := Lib.hid HB3
 clear hg3x hg1 ho2
 rw [rounds_succ]
 go_wp2_with (at_builtin; refine wpList_append_byt _ rfl _ _ 27 rfl w.heap.size 5 i0 Tryd.underlying27 hi hz0 hz1 hz2 _ _ (f1 ++ f2) rfl ho3 _ A3 l3 c3 f3 rfl F3.out.1 F3.out.2.1 F3.out.2.2 (by omega) HB3.out.size ?_; intro v4 w4 ho4 hg4x)
 have HB4 := HB3.out.grown hg4x HB3.out.size (fun g hg => own_base ho3 hg)
 have hg3 := (HB4.cell (p := ⟨g, 3, none⟩) hg).trans G4.out
 have F4 := Lib.hid (H4.out.below HB4 (Nat.le_refl _))
 have HB4 := Lib.hid HB4
 clear hg4x hg2 ho3
 rw [rounds_succ]
 go_wp2_with (at_builtin; refine wpList_append_byt _ rfl _ _ 27 rfl w.heap.size 5 i0 Tryd.underlying27 hi hz0 hz1 hz2 _ _ (f1 ++ f2 ++ f3) rfl ho4 _ A4 l4 c4 f4 rfl F4.out.1 F4.out.2.1 F4.out.2.2 (by omega) HB4.out.size ?_; intro v5 w5 ho5 hg5x)
 have HBX := Lib.hid (HB4.out.grown hg5x HB4.out.size (fun g hg => own_base ho4 hg))
 have HOX := Lib.hid ho5
 clear hg5x hg3 ho4 ho5
 rw [rounds_succ]
 go_wp2
 go_ret
 exact gives_own HOX.out HBX.out
end
end Go.Proofs.YtkjimhlpbgeagaaDoor
