/-
  What rec.Join answers. Nothing that was there is written.
-/
import Derived.Test.YtonbhcbkelmhgaaDoorRcRec
import Derived.Test.YtonbhcbkelmhgaaDoorRcConcat
import Derived.Test.YtonbhcbkelmhgaaDoorRcRise
namespace Go.Proofs.YtonbhcbkelmhgaaDoor
open Go.RowKit Go.Shelf WM
set_option linter.unusedVariables false
set_option maxRecDepth 100000
attribute [local go_sem] Oper.semAt_some
/-- What of a list of cells, by numbers, is left in a record that is dead since n, r. -/
def keep (n r : Int) (xs : List (Int × Cel)) : List Fld := xs.filterMap fun x => if stLess n r x.2.n x.2.r then some ⟨x.1, x.2⟩ else none
theorem keep_snoc (n r : Int) (xs : List (Int × Cel)) (x : Int × Cel) : keep n r (xs ++ [x]) = keep n r xs ++ (if stLess n r x.2.n x.2.r then [⟨x.1, x.2⟩] else []) := by
  unfold keep
  rw [List.filterMap_append]
  congr 1
  cases h : stLess n r x.2.n x.2.r <;> simp [h]
def jdead (n1 r1 n2 r2 : Int) : Int × Int := mx (n1, r1) (n2, r2)
def rjoin (z1 : List Int) (n1 r1 : Int) (f1 : List Fld) (z2 : List Int) (n2 r2 : Int) (f2 : List Fld) : Option Rc :=
  if ((z1 == z2) && rmay n1 r1 f1 && rmay n2 r2 f2) = true then some ⟨z1, (jdead n1 r1 n2 r2).1, (jdead n1 r1 n2 r2).2, keep (jdead n1 r1 n2 r2).1 (jdead n1 r1 n2 r2).2 (riseL (gath (f1 ++ f2)) 8)⟩ else none
def JoinPost (w : World) (o : Option Rc) (e : Ending) (w' : World) : Prop :=
  ∃ A c, e = .returned (.tuple #[(o.getD rc0).v A c, .bool o.isSome]) ∧ FsAt w' A c (o.getD rc0).fs ∧ Below w.heap.size w w'
theorem bodyM_ret {F : Fence} {n : Nat} {P : Program} {fn : Func} {R : Ending → World → Prop} {a : Act} {w : World} {v : Value} (hr : (results fn a.tmps).run P w = .ok v w) (hd : a.defers = []) (hR : R (.returned v) w) : bodyPostM F n P fn R .ret a w := by
  show LeavesInM F n P fn a.tmps R a.defers .returning w
  rw [hd]
  exact ⟨_, hr, hR⟩
set_option maxHeartbeats 4000000 in
theorem join_no (z1 : List Int) (n1 r1 : Int) (A1 : Option Addr) (l1 c1 : Nat) (f1 : List Fld) (z2 : List Int) (n2 r2 : Int) (A2 : Option Addr) (l2 c2 : Nat) (f2 : List Fld) (w : World)
    (hz1 : z1.length = 16) (hz2 : z2.length = 16) (hb1 : AllBytes z1) (hb2 : AllBytes z2) (hl1 : f1.length = l1) (hl2 : f2.length = l2) (h1 : FsAt w A1 c1 f1) (h2 : FsAt w A2 c2 f2) (hno : ((z1 == z2) && rmay n1 r1 f1 && rmay n2 r2 f2) = false) :
    Calls Tryd.prog 29 #[rv z1 n1 r1 (.slice A1 l1 c1), rv z2 n2 r2 (.slice A2 l2 c2)] w (JoinPost w (rjoin z1 n1 r1 f1 z2 n2 r2 f2)) := by
  have HV : Hid (∀ w', Below w.heap.size w w' → JoinPost w (rjoin z1 n1 r1 f1 z2 n2 r2 f2) (.returned (.tuple #[rv z16 0 0 (.slice none 0 0), .bool false])) w') := Lib.hid (fun w' hb => by
    rw [rjoin, if_neg (by rw [hno]; simp)]
    exact ⟨none, 0, rfl, FsAt.nil _ _ _ (by decide) (fun _ => rfl), hb⟩)
  have S0 := Lib.hid (RcAt.new ((w.alloc (.cells (rcells z1 n1 r1 (.slice A1 l1 c1)) 43)).alloc (.cells (rcells z2 n2 r2 (.slice A2 l2 c2)) 43)) z16_len 0 0 (.slice none 0 0))
  rw [World.size_alloc, World.size_alloc] at S0
  have S1 := Lib.hid (((RcAt.new w hz1 n1 r1 (.slice A1 l1 c1)).old (.cells (rcells z2 n2 r2 (.slice A2 l2 c2)) 43)).old (.cells (rcells z16 0 0 (.slice none 0 0)) 43))
  have s2 := (RcAt.new (w.alloc (.cells (rcells z1 n1 r1 (.slice A1 l1 c1)) 43)) hz2 n2 r2 (.slice A2 l2 c2)).old (.cells (rcells z16 0 0 (.slice none 0 0)) 43)
  rw [World.size_alloc] at s2
  have S2 := Lib.hid s2
  have HB := Lib.hid ((((Below.refl w.heap.size w).alloc (Nat.le_refl _) (.cells (rcells z1 n1 r1 (.slice A1 l1 c1)) 43)).alloc (by simp) (.cells (rcells z2 n2 r2 (.slice A2 l2 c2)) 43)).alloc (by simp; omega) (.cells (rcells z16 0 0 (.slice none 0 0)) 43))
  have L1 := Lib.hid (load_id S1.out)
  have L2 := Lib.hid (load_id S2.out)
  have M1 := Lib.hid (load_rec S1.out)
  have HE := eq_id hb1 hb2 hz1 hz2
  have hz := zeroRec
  have hbn := build_none
  unfold rv at hz hbn M1
  have HM1 := Lib.hid (rmay_any z1 n1 r1 A1 l1 c1 f1 _ hz1 hl1 (h1.below HB.out (Nat.le_refl _)))
  unfold rv MayPost at HM1
  have HL2 := Lib.hid hl2
  have H2 := Lib.hid h2
  clear s2 h1 h2 hl1 hl2
  conv => congr; rfl; rfl; (unfold rv)
  generalize JoinPost w (rjoin z1 n1 r1 f1 z2 n2 r2 f2) = RR at HV
  cases hq : (z1 == z2)
  · rw [hq] at HE
    clear hq hno
    refine (callsIn_wide (n := 12)).1 ?_
    refine callsIn_of_wp_marks Tryd.func29 rfl trivial ?_ rfl
    simp only [Tryd.ntmps29, List.size_toArray, List.length_cons, List.length_nil, Nat.reduceAdd, Nat.reduceSub, Array.replicate_succ, Array.replicate_zero, List.push_toArray, List.append_toArray, List.nil_append, List.cons_append]
    refine wpIn_wide.2 ?_
    have SZ := Lib.hid (size_rcells z16_len 0 0 (.slice none 0 0))
    have SO := Lib.hid (rcells_one (z := z16) (n := 0) (r := 0) (v := (.slice none 0 0)) rfl)
    have FIN := Lib.hid (And.intro (S0.out.putAll (m := 0) (s := 0) (u := (.slice none 0 0)) z16_len) (below_setRow HB.out (show w.heap.size ≤ w.heap.size + 1 + 1 by omega) (rcells z16 0 0 (.slice none 0 0))))
    go_wp2_with (first | ((with_reducible refine wpList_load_by (o := ⟨some 10, .load 40 (.tmp 9), _, _, _, _⟩) ?e1 40 (.tmp 9) ?e2 ⟨w.heap.size, 0, none⟩ ?e3 _ L1.out ?_); (case e1 => rfl); (case e2 => rfl); (case e3 => rfl)) | ((with_reducible refine wpList_load_by (o := ⟨some 12, .load 40 (.tmp 11), _, _, _, _⟩) ?e1 40 (.tmp 11) ?e2 ⟨(w.heap.size + 1), 0, none⟩ ?e3 _ L2.out ?_); (case e1 => rfl); (case e2 => rfl); (case e3 => rfl)) | ((with_reducible refine wpList_load_by (o := ⟨some 15, .load 43 (.tmp 2), _, _, _, _⟩) ?e1 43 (.tmp 2) ?e2 ⟨w.heap.size, 0, none⟩ ?e3 _ M1.out ?_); (case e1 => rfl); (case e2 => rfl); (case e3 => rfl)) | ((with_reducible refine wpList_store_row (o := ⟨none, .store 43 (.tmp 4) (.tmp 24), _, _, _, _⟩) ?e1 43 (.tmp 4) (.tmp 24) ?e2 (w.heap.size + 1 + 1) (rcells z16 0 0 (.slice none 0 0)) ?e3 ?e4 43 _ S0.out.hp SZ.out rfl SO.out ?_); (case e1 => rfl); (case e2 => rfl); (case e3 => rfl); (case e4 => rfl)))
    refine bodyM_ret (v := .tuple #[rv z16 0 0 (.slice none 0 0), .bool false]) ?_ rfl ?_
    · exact res_rc2 Tryd.results29 rfl FIN.out.1
    · exact HV.out _ FIN.out.2
  · rw [hq] at HE hno
    rw [Bool.true_and] at hno
    cases hm1 : rmay n1 r1 f1
    · rw [hm1] at HM1
      clear hq hno hm1
      refine (callsIn_wide (n := 12)).1 ?_
      refine callsIn_of_wp_marks Tryd.func29 rfl trivial ?_ rfl
      simp only [Tryd.ntmps29, List.size_toArray, List.length_cons, List.length_nil, Nat.reduceAdd, Nat.reduceSub, Array.replicate_succ, Array.replicate_zero, List.push_toArray, List.append_toArray, List.nil_append, List.cons_append]
      refine wpIn_wide.2 ?_
      go_wp2_with (first | ((with_reducible refine wpList_load_by (o := ⟨some 10, .load 40 (.tmp 9), _, _, _, _⟩) ?e1 40 (.tmp 9) ?e2 ⟨w.heap.size, 0, none⟩ ?e3 _ L1.out ?_); (case e1 => rfl); (case e2 => rfl); (case e3 => rfl)) | ((with_reducible refine wpList_load_by (o := ⟨some 12, .load 40 (.tmp 11), _, _, _, _⟩) ?e1 40 (.tmp 11) ?e2 ⟨(w.heap.size + 1), 0, none⟩ ?e3 _ L2.out ?_); (case e1 => rfl); (case e2 => rfl); (case e3 => rfl)) | ((with_reducible refine wpList_load_by (o := ⟨some 15, .load 43 (.tmp 2), _, _, _, _⟩) ?e1 43 (.tmp 2) ?e2 ⟨w.heap.size, 0, none⟩ ?e3 _ M1.out ?_); (case e1 => rfl); (case e2 => rfl); (case e3 => rfl)))
      refine HM1.out.mono ?_
      rintro e w1 ⟨rfl, hb1⟩
      have P1 := Lib.hid (S1.out.below hb1 S1.out.lt)
      have P2 := Lib.hid (S2.out.below hb1 S2.out.lt)
      have P0 := Lib.hid (S0.out.below hb1 S0.out.lt)
      have BW1 := Lib.hid (HB.out.trans (hb1.mono HB.out.size))
      clear hb1
      have SZ := Lib.hid (size_rcells z16_len 0 0 (.slice none 0 0))
      have SO := Lib.hid (rcells_one (z := z16) (n := 0) (r := 0) (v := (.slice none 0 0)) rfl)
      have FIN := Lib.hid (And.intro (P0.out.putAll (m := 0) (s := 0) (u := (.slice none 0 0)) z16_len) (below_setRow BW1.out (show w.heap.size ≤ w.heap.size + 1 + 1 by omega) (rcells z16 0 0 (.slice none 0 0))))
      go_wp2_with (first | ((with_reducible refine wpList_store_row (o := ⟨none, .store 43 (.tmp 4) (.tmp 24), _, _, _, _⟩) ?e1 43 (.tmp 4) (.tmp 24) ?e2 (w.heap.size + 1 + 1) (rcells z16 0 0 (.slice none 0 0)) ?e3 ?e4 43 _ P0.out.hp SZ.out rfl SO.out ?_); (case e1 => rfl); (case e2 => rfl); (case e3 => rfl); (case e4 => rfl)))
      refine bodyM_ret (v := .tuple #[rv z16 0 0 (.slice none 0 0), .bool false]) ?_ rfl ?_
      · exact res_rc2 Tryd.results29 rfl FIN.out.1
      · exact HV.out _ FIN.out.2
    · rw [hm1] at HM1 hno
      have hm2 : rmay n2 r2 f2 = false := by simpa using hno
      clear hq hno hm1
      refine (callsIn_wide (n := 12)).1 ?_
      refine callsIn_of_wp_marks Tryd.func29 rfl trivial ?_ rfl
      simp only [Tryd.ntmps29, List.size_toArray, List.length_cons, List.length_nil, Nat.reduceAdd, Nat.reduceSub, Array.replicate_succ, Array.replicate_zero, List.push_toArray, List.append_toArray, List.nil_append, List.cons_append]
      refine wpIn_wide.2 ?_
      go_wp2_with (first | ((with_reducible refine wpList_load_by (o := ⟨some 10, .load 40 (.tmp 9), _, _, _, _⟩) ?e1 40 (.tmp 9) ?e2 ⟨w.heap.size, 0, none⟩ ?e3 _ L1.out ?_); (case e1 => rfl); (case e2 => rfl); (case e3 => rfl)) | ((with_reducible refine wpList_load_by (o := ⟨some 12, .load 40 (.tmp 11), _, _, _, _⟩) ?e1 40 (.tmp 11) ?e2 ⟨(w.heap.size + 1), 0, none⟩ ?e3 _ L2.out ?_); (case e1 => rfl); (case e2 => rfl); (case e3 => rfl)) | ((with_reducible refine wpList_load_by (o := ⟨some 15, .load 43 (.tmp 2), _, _, _, _⟩) ?e1 43 (.tmp 2) ?e2 ⟨w.heap.size, 0, none⟩ ?e3 _ M1.out ?_); (case e1 => rfl); (case e2 => rfl); (case e3 => rfl)))
      refine HM1.out.mono ?_
      rintro e w1 ⟨rfl, hb1⟩
      have P1 := Lib.hid (S1.out.below hb1 S1.out.lt)
      have P2 := Lib.hid (S2.out.below hb1 S2.out.lt)
      have P0 := Lib.hid (S0.out.below hb1 S0.out.lt)
      have BW1 := Lib.hid (HB.out.trans (hb1.mono HB.out.size))
      clear hb1
      have M2 := Lib.hid (load_rec P2.out)
      unfold rv at M2
      have HM2 := Lib.hid (rmay_any z2 n2 r2 A2 l2 c2 f2 w1 hz2 HL2.out (H2.out.below BW1.out (Nat.le_refl _)))
      unfold rv MayPost at HM2
      rw [hm2] at HM2
      go_wp2_with (first | ((with_reducible refine wpList_load_by (o := ⟨some 20, .load 43 (.tmp 3), _, _, _, _⟩) ?e1 43 (.tmp 3) ?e2 ⟨(w.heap.size + 1), 0, none⟩ ?e3 _ M2.out ?_); (case e1 => rfl); (case e2 => rfl); (case e3 => rfl)))
      refine HM2.out.mono ?_
      rintro e w2 ⟨rfl, hb2⟩
      have Q1 := Lib.hid (P1.out.below hb2 P1.out.lt)
      have Q2 := Lib.hid (P2.out.below hb2 P2.out.lt)
      have Q0 := Lib.hid (P0.out.below hb2 P0.out.lt)
      have BW2 := Lib.hid (BW1.out.trans (hb2.mono BW1.out.size))
      clear hb2
      have SZ := Lib.hid (size_rcells z16_len 0 0 (.slice none 0 0))
      have SO := Lib.hid (rcells_one (z := z16) (n := 0) (r := 0) (v := (.slice none 0 0)) rfl)
      have FIN := Lib.hid (And.intro (Q0.out.putAll (m := 0) (s := 0) (u := (.slice none 0 0)) z16_len) (below_setRow BW2.out (show w.heap.size ≤ w.heap.size + 1 + 1 by omega) (rcells z16 0 0 (.slice none 0 0))))
      go_wp2_with (first | ((with_reducible refine wpList_store_row (o := ⟨none, .store 43 (.tmp 4) (.tmp 24), _, _, _, _⟩) ?e1 43 (.tmp 4) (.tmp 24) ?e2 (w.heap.size + 1 + 1) (rcells z16 0 0 (.slice none 0 0)) ?e3 ?e4 43 _ Q0.out.hp SZ.out rfl SO.out ?_); (case e1 => rfl); (case e2 => rfl); (case e3 => rfl); (case e4 => rfl)))
      refine bodyM_ret (v := .tuple #[rv z16 0 0 (.slice none 0 0), .bool false]) ?_ rfl ?_
      · exact res_rc2 Tryd.results29 rfl FIN.out.1
      · exact HV.out _ FIN.out.2

end Go.Proofs.YtonbhcbkelmhgaaDoor
