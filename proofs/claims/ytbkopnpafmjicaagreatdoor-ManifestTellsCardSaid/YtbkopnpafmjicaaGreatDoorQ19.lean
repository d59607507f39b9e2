import Derived.Test.YtbkopnpafmjicaaGreatDoorQ0
import Derived.Test.YtbkopnpafmjicaaGreatDoorQ13
import Derived.Test.YtbkopnpafmjicaaGreatDoorQ18
/-
  What the functions that a law of this layer reaches answer, part 19. Nothing that was there is written.
-/
namespace Go.Proofs.YtbkopnpafmjicaaGreatDoor
set_option linter.unusedVariables false
set_option linter.unusedSimpArgs false
section
open Go.RowKit WM
set_option maxRecDepth 100000
def prevA (ls : List LnA) (k : Nat) : Option (List Int) := if k = 0 then none else some (ls.getD (k - 1) lnA0).z
theorem lsOk_step {ls : List LnA} {k : Nat} (hk : k < ls.length) : lsOk (prevA ls k) ((ls.drop k).map (·.x)) = (lnOk (ls.getD k lnA0).x && (riseOk (prevA ls k) (ls.getD k lnA0).z && lsOk (prevA ls (k + 1)) ((ls.drop (k + 1)).map (·.x)))) := by
 rw [List.drop_eq_getElem_cons hk, List.map_cons]
 have h : ls.getD k lnA0 = ls[k] := by rw [List.getD_eq_getElem?_getD, List.getElem?_eq_getElem hk]; rfl
 have h2 : prevA ls (k + 1) = some ls[k].z := by unfold prevA; rw [if_neg (by omega), Nat.add_sub_cancel, h]
 rw [h, h2]
 simp only [lsOk]
 rw [Bool.and_assoc]
 rfl
def lastA (es : List EnA) (j : Nat) : Int := if j = 0 then -1 else (es.getD (j - 1) enA0).e.no
theorem esOk_step {n r : Int} {es : List EnA} {j : Nat} (hj : j < es.length) : esOk n r (lastA es j) ((es.drop j).map (·.e)) = (enOk n r (lastA es j) (es.getD j enA0).e && esOk n r (lastA es (j + 1)) ((es.drop (j + 1)).map (·.e))) := by
 rw [List.drop_eq_getElem_cons hj, List.map_cons]
 have h : es.getD j enA0 = es[j] := by rw [List.getD_eq_getElem?_getD, List.getElem?_eq_getElem hj]; rfl
 have h2 : lastA es (j + 1) = es[j].e.no := by unfold lastA; rw [if_neg (by omega), Nat.add_sub_cancel, h]
 rw [h, h2]
 rfl
theorem ln_size {x : LnA} {w : World} (h : x.Ok w) : (Tryz.prog.info? 43).map (·.size) = some (KLn.cs x).toArray.size := by
 rw [List.size_toArray, show (KLn.cs x).length = 19 from LnA.len h]
 obtain ⟨i, hi, _, hs, _⟩ := info_parts infoLn
 rw [hi]
 exact congrArg some hs
theorem ln_ones (x : LnA) : (KLn.cs x).toArray.all (·.oneCell') = true := by
 rw [Array.all_eq_true_iff_forall_mem]
 intro u hu
 exact LnA.one x u (List.mem_toArray.1 hu)
theorem lnA0_size : (KLn.cs lnA0).toArray.size = 19 := by decide
set_option maxHeartbeats 16000000 in
theorem rmay12_any (m : MnA) (w : World) (h : m.Ok w) : Calls Tryz.prog 15 #[m.v] w fun e w' => e = .returned (.bool (mmay m.m)) ∧ Below w.heap.size w w' := by
 have HV := Lib.hid (show mmay m.m = (lsOk (prevA m.ls 0) ((m.ls.drop 0).map (·.x)) && decide (m.ls.length ≤ 10)) by simp [mmay, MnA.m, prevA])
 have hmn := MnAt.new w m
 obtain ⟨w1, hw1⟩ : ∃ w1, w1 = w.alloc (.cells m.cs.toArray 29) := ⟨_, rfl⟩
 rw [← hw1] at hmn
 have hb1 : Below w.heap.size w w1 := by rw [hw1]; exact (Below.refl _ _).alloc (Nat.le_refl _) _
 have h1 := MnA.below h (hb1.mono (Nat.le_refl _))
 have HB1 := Lib.hid hb1
 have HC := Lib.hid (fun X (hX : Below w1.heap.size w1 X) => (hmn.below hX hmn.lt).c32 h1.1)
 have HR := Lib.hid (fun h0 => ln_row h1.2.2 h0)
 have HOK := Lib.hid (fun k (hk : k < m.ls.length) => show LnA.Ok w1 (m.ls.getD k lnA0) from Kind.row_ok h1.2.2 hk)
 have hnb : m.ls.length ≤ 9223372036854775807 := by
  have a1 := h1.2.2.1
  have a2 := h1.2.2.2.1
  simp only [maxLen] at a2
  omega
 have hv : m.v = .agg m.cs.toArray := rfl
 rw [hv]
 generalize mmay m.m = V at *
 generalize m.cs.toArray = E at *
 obtain ⟨base, A, c, ls⟩ := m
 dsimp only at *
 have HLS := Lib.hid (fun k (hk : k < ls.length) => lsOk_step hk)
 generalize hn : ls.length = n at *
 have HN := Lib.hid hn
 have hz := zeroLn
 rw [show KLn.v lnA0 = .agg (KLn.cs lnA0).toArray from rfl] at hz
 have hzne : ¬ (KLn.cs lnA0).toArray = #[] := by decide
 have hzs := lnA0_size
 clear h h1 hmn hv hb1 hn
 subst hw1
 go_enter Tryz.func15, Tryz.ntmps15
 go_wp2
 generalize w.alloc (.cells E 29) = w1 at *
 go_loopw [3] (fun i wr => ∃ k : Nat, k ≤ n ∧ i = .int .i64 k ∧ Below w1.heap.size w1 wr ∧ V = (lsOk (prevA ls k) ((ls.drop k).map (·.x)) && decide (n ≤ 10))) (fun i _ => n - (intOf i).toNat)
 case atStart => exact ⟨0, Nat.zero_le _, rfl, Below.refl _ _, HV.out⟩
 case round =>
  obtain ⟨k, hk, rfl, hb, hf⟩ := hrel
  have HBB := Lib.hid hb
  have cc1 := HC.out wr hb
  by_cases hlt : k < n
  ·have t1 : (k : Int) < (n : Int) := by omega
   obtain ⟨b1, off1, hA1, hb1w, hx1, hi1⟩ := HR.out (by omega)
   have ix1 := hi1 k hlt k rfl
   rw [← hA1] at ix1
   have hok := HOK.out k hlt
   have LL := Lib.hid (load_ln (Kind.at_same (hx1 k hlt) (hb.block b1 hb1w)) (LnA.below hok (hb.mono (Nat.le_refl _))))
   rw [show KLn.v (ls.getD k lnA0) = .agg (KLn.cs (ls.getD k lnA0)).toArray from rfl] at LL
   rw [HLS.out k hlt] at hf
   have HPRV := Lib.hid (show prevA ls k = if k = 0 then none else some (ls.getD (k - 1) lnA0).z from rfl)
   have HPID : Hid (0 < k → ∀ X, Below w1.heap.size w1 X → KId.at X b1 (off1 + (k - 1) * 19) (ls.getD (k - 1) lnA0).z ∧ (ls.getD (k - 1) lnA0).z.length = 16 ∧ AllBytes (ls.getD (k - 1) lnA0).z) := Lib.hid (fun h0 X hX => by
    have ho := HOK.out (k - 1) (by omega)
    exact ⟨ln_id (Kind.at_same (hx1 (k - 1) (by omega)) (hX.block b1 hb1w)) ho.1, ho.1, ho.2.1⟩)
   have HIXP := Lib.hid (fun (h0 : 0 < k) X => by have h := hi1 (k - 1) (by omega) ((k : Int) - 1) (by omega) X; rw [← hA1] at h; exact h)
   generalize (ls.getD (k - 1) lnA0).z = pz at *
   generalize prevA ls k = PV at *
   generalize hrst : lsOk (prevA ls (k + 1)) ((ls.drop (k + 1)).map (·.x)) = rest at *
   have HRST := Lib.hid hrst
   generalize ls.getD k lnA0 = x at *
   -- the line's own box
   obtain ⟨pB, hpB⟩ : ∃ pB, pB = wr.heap.size := ⟨_, rfl⟩
   have hxb := Kind.blk_new (K := KLn) wr x 43
   rw [← hpB] at hxb
   have hba : Below wr.heap.size wr (wr.alloc (.cells (KLn.cs x).toArray 43)) := (Below.refl _ _).alloc (Nat.le_refl _) _
   have BA := Lib.hid (hb.trans (hba.mono hb.size))
   have HXB := Lib.hid hxb
   have a16 := ln_c16 (Kind.at_blk hxb) hok.1
   have a17 := ln_c17 (Kind.at_blk hxb) hok.1
   simp only [Nat.zero_add] at a16 a17
   have SZ := Lib.hid (ln_size hok)
   have SQ := Lib.hid (show (KLn.cs lnA0).toArray.size = (KLn.cs x).toArray.size by rw [lnA0_size, List.size_toArray]; exact (LnA.len hok).symm)
   have SO := Lib.hid (ln_ones x)
   have HOKX := Lib.hid hok
   have hMb : x.es.length ≤ 9223372036854775807 := by
    have a1 := hok.2.2.2.2.1
    have a2 := hok.2.2.2.2.2.1
    simp only [maxLen] at a2
    omega
   have HE := Lib.hid (fun h0 => en_row hok.2.2.2.2 h0)
   have HEO := Lib.hid (fun j (hj : j < x.es.length) => show EnA.Ok w1 (x.es.getD j enA0) from Kind.row_ok hok.2.2.2.2 hj)
   have HXC := Lib.hid (fun (P : World) (hP : Below (wr.alloc (.cells (KLn.cs x).toArray 43)).heap.size (wr.alloc (.cells (KLn.cs x).toArray 43)) P) => Kind.at_blk (Kind.blk_below hxb hP (Kind.blk_lt hxb)))
   have HMAY := Lib.hid (fun X => rdmay_any x.n x.r X)
   unfold st at HMAY
   have HLN := Lib.hid (show lnOk x.x = (may x.n x.r && (!(decide (x.es.map (·.e) = [] ∧ x.n = 0 ∧ x.r = 0)) && esOk x.n x.r (lastA x.es 0) ((x.es.drop 0).map (·.e)))) by unfold lnOk; rw [Bool.and_assoc]; rfl)
   have HES := Lib.hid (fun j (hj : j < x.es.length) => esOk_step (n := x.n) (r := x.r) hj)
   rw [HLN.out] at hf
   generalize hwx : wr.alloc (.cells (KLn.cs x).toArray 43) = wx at *
   generalize (KLn.cs x).toArray = E43 at *
   have HHF := Lib.hid hf
   obtain ⟨z, dn, dr, Ae, ce, es⟩ := x
   dsimp only at a16 a17 HE HEO HMAY HHF HES hMb
   generalize may dn dr = b0 at *
   have HNE := Lib.hid (show es.map (fun e : EnA => e.e) = [] ↔ es.length = 0 by simp)
   have k18 := Lib.hid (fun P hP => by have h := ln_c18 (HXC.out P hP) HOKX.out.1; rw [Nat.zero_add] at h; exact h)
   have k16 := Lib.hid (fun P hP => by have h := ln_c16 (HXC.out P hP) HOKX.out.1; rw [Nat.zero_add] at h; exact h)
   have k17 := Lib.hid (fun P hP => by have h := ln_c17 (HXC.out P hP) HOKX.out.1; rw [Nat.zero_add] at h; exact h)
   dsimp only at k16 k17 k18
   generalize hM : es.length = M at *
   have HM := Lib.hid hM
   have HHB := Lib.hid hb1w
   have HIX1 := Lib.hid hi1
   have HPB := Lib.hid hpB
   clear hf hx1 hi1 hA1 hok hxb hba hb hM hrst hb1w HLN
   subst hwx
   subst hpB
   go_wp2_with (first | ((with_reducible refine wpList_load_at (o := ⟨some 21, .load 43 (.tmp 20), _, _, _, _⟩) ?e1 43 (.tmp 20) ?e2 ⟨b1, off1 + k * 19, none⟩ ?e3 _ LL.out ?_); (case e1 => rfl); (case e2 => rfl); (case e3 => rfl)) | ((with_reducible refine wpList_store_new (o := ⟨none, .store 43 (.tmp 4) (.tmp 21), _, _, _, _⟩) ?e1 43 (.tmp 4) (.tmp 21) ?e2 ?e3 (KLn.cs lnA0).toArray E43 ?e4 SZ.out SQ.out SO.out ?_); (case e1 => rfl); (case e2 => rfl); (case e3 => rfl); (case e4 => rfl)))
   refine (HMAY.out _).mono ?_
   rintro e w3 ⟨rfl, hb3⟩
   have A16 := k16.out w3 hb3
   have A17 := k17.out w3 hb3
   have A18 := k18.out w3 hb3
   have B3 := Lib.hid (BA.out.trans (hb3.mono BA.out.size))
   have BX3 := Lib.hid hb3
   have BB := Lib.hid (HB1.out.trans (B3.out.mono HB1.out.size))
   clear a16 a17 cc1 ix1 hb3
   cases b0
   ·have HF := Lib.hid (show V = false by rw [HHF.out]; rfl)
    go_wp2
    go_ret
    exact ⟨by rw [HF.out]; try rfl, BB.out⟩
   have F18 := Lib.hid (fun w9 (h9 : Below w3.heap.size w3 w9) => k18.out w9 (BX3.out.trans (h9.mono BX3.out.size)))
   have F16 := Lib.hid (fun w9 (h9 : Below w3.heap.size w3 w9) => k16.out w9 (BX3.out.trans (h9.mono BX3.out.size)))
   have F17 := Lib.hid (fun w9 (h9 : Below w3.heap.size w3 w9) => k17.out w9 (BX3.out.trans (h9.mono BX3.out.size)))
   have HS32 := Lib.hid (fun w9 (h9 : Below w3.heap.size w3 w9) => HC.out w9 (B3.out.trans (h9.mono B3.out.size)))
   have HEQ := Lib.hid (fun X => eq_st (n := dn) (r := dr) (m := 0) (s := 0) X)
   by_cases hM0 : M = 0
   ·have t2 : (M : Int) = 0 := by omega
    by_cases hD : dn = 0 ∧ dr = 0
    ·have HF := Lib.hid (show V = false by rw [HHF.out, decide_eq_true (show es.map (fun e : EnA => e.e) = [] ∧ dn = 0 ∧ dr = 0 from ⟨HNE.out.2 hM0, hD⟩)]; rfl)
     rw [decide_eq_true hD] at HEQ
     clear HHF hD
     go_wp2_with (first | ((with_reducible refine wpList_eqlM (o := ⟨some 36, .binOp .eql 40 (.tmp 34) (.tmp 35) 40, _, _, _, _⟩) ?e1 40 (.tmp 34) (.tmp 35) 40 ?e2 ?e3 ?e4 guardStM (HEQ.out _) ?_); (case e1 => rfl); (case e2 => rfl); (case e3 => rfl); (case e4 => rfl)))
     go_ret
     exact ⟨by rw [HF.out]; try rfl, BB.out⟩
    ·have HF1 := Lib.hid (show V = ((esOk dn dr (lastA es 0) ((es.drop 0).map (·.e)) && (riseOk PV z && rest)) && decide (n ≤ 10)) by rw [HHF.out, decide_eq_false (show ¬ (es.map (fun e : EnA => e.e) = [] ∧ dn = 0 ∧ dr = 0) from fun h => hD h.2)]; rfl)
     rw [decide_eq_false hD] at HEQ
     clear HHF hD
     by_cases hk0 : k = 0
     ·have t5 : ¬ (0 : Int) < (k : Int) := by omega
      have HE0 := Lib.hid (show V = ((esOk dn dr (lastA es 0) ((es.drop 0).map (·.e)) && rest) && decide (n ≤ 10)) by rw [HF1.out, HPRV.out, if_pos hk0]; rfl)
      have BX0 := Lib.hid (Below.refl w3.heap.size w3)
      clear HF1
      go_wp2_with (first | ((with_reducible refine wpList_eqlM (o := ⟨some 36, .binOp .eql 40 (.tmp 34) (.tmp 35) 40, _, _, _, _⟩) ?e1 40 (.tmp 34) (.tmp 35) 40 ?e2 ?e3 ?e4 guardStM (HEQ.out _) ?_); (case e1 => rfl); (case e2 => rfl); (case e3 => rfl); (case e4 => rfl)))
      clear A16 A17 A18
      go_loopw [7, 8] (fun u7 u8 wr => ∃ j : Nat, j ≤ M ∧ u7 = .int .i64 (lastA es j) ∧ u8 = .int .i64 j ∧ Below w3.heap.size w3 wr ∧ V = ((esOk dn dr (lastA es j) ((es.drop j).map (·.e)) && rest) && decide (n ≤ 10))) (fun _ i _ => M - (intOf i).toNat)
      case atStart => exact ⟨0, Nat.zero_le _, rfl, rfl, BX0.out, HE0.out⟩
      case round =>
       obtain ⟨j, hj, rfl, rfl, hb2, hf2⟩ := hrel
       have HB2 := Lib.hid hb2
       have s18 := F18.out _ hb2
       by_cases hjt : j < M
       ·omega
       ·obtain rfl : j = M := by omega
        have t3 : ¬ (j : Int) < (j : Int) := by omega
        have HF := Lib.hid (show V = (rest && decide (n ≤ 10)) by rw [hf2, List.drop_eq_nil_of_le (by rw [HM.out]; exact Nat.le_refl _)]; rfl)
        have B10 := Lib.hid (B3.out.trans (hb2.mono B3.out.size))
        clear hf2 hb2
        go_wp2
        go_roundw
        case rel => exact ⟨k + 1, by omega, by go_num, B10.out, by rw [HRST.out]; exact HF.out⟩
        case measure => simp [intOf]; omega
     ·have t5 : (0 : Int) < (k : Int) := by omega
      have hk1 : 0 < k := by omega
      have HPV := Lib.hid (show PV = some pz by rw [HPRV.out, if_neg hk0])
      have hp := HPID.out hk1
      have LP := Lib.hid (fun w9 (h9 : Below w3.heap.size w3 w9) => (hp w9 (B3.out.trans (h9.mono B3.out.size))).1)
      have HPZ := Lib.hid (hp w3 B3.out).2.1
      have IXP := Lib.hid (HIXP.out hk1)
      have HLE := Lib.hid (fun X => rbless_any pz z X (hp w3 B3.out).2.2 HOKX.out.2.1 (hp w3 B3.out).2.1 HOKX.out.1)
      have LZ := Lib.hid (fun w9 (h9 : Below w3.heap.size w3 w9) => ln_id (HXC.out w9 (BX3.out.trans (h9.mono BX3.out.size))) HOKX.out.1)
      dsimp only at LZ
      have HZ16 := Lib.hid (show z.length = 16 from HOKX.out.1)
      have HF3 := Lib.hid (show V = ((esOk dn dr (lastA es 0) ((es.drop 0).map (·.e)) && (lessL pz z && rest)) && decide (n ≤ 10)) by rw [HF1.out, HPV.out]; rfl)
      clear HF1 HPRV HPV hp
      generalize lessL pz z = b8 at *
      cases b8
      ·have HF := Lib.hid (show V = false by rw [HF3.out]; simp)
       clear HF3
       go_wp2_with (first | ((with_reducible refine wpList_eqlM (o := ⟨some 36, .binOp .eql 40 (.tmp 34) (.tmp 35) 40, _, _, _, _⟩) ?e1 40 (.tmp 34) (.tmp 35) 40 ?e2 ?e3 ?e4 guardStM (HEQ.out _) ?_); (case e1 => rfl); (case e2 => rfl); (case e3 => rfl); (case e4 => rfl)))
       refine wp_region_G _ (by kernel_rfl) ?_
       refine wpGv (i := 0) (oi := ⟨some 41, _, _, _, _, _⟩) (v := ?_) rfl ?_ ?_; rotate_left; (focus (intro w9 hSw; go_simp; try with_reducible rfl)); simp only [Act.put, Z2, Z3, Z4]
       refine wpGv (i := 1) (oi := ⟨some 42, _, _, _, _, _⟩) (v := ?_) rfl ?_ ?_; rotate_left; (focus (intro w9 hSw; have q0 := HS32.out w9 hSw; go_simp; try with_reducible rfl)); simp only [Act.put, Z2, Z3, Z4]
       refine wpGv (i := 2) (oi := ⟨some 43, _, _, _, _, _⟩) (v := ?_) rfl ?_ ?_; rotate_left; (focus (intro w9 hSw; go_simp; try with_reducible rfl)); simp only [Act.put, Z2, Z3, Z4]
       refine wpGv (i := 3) (oi := ⟨some 44, _, _, _, _, _⟩) (v := ?_) rfl ?_ ?_; rotate_left; (focus (intro w9 hSw; have x1 : IntKind.i64.wrap ((k : Int) - 1) = (k : Int) - 1 := IntWalk.i64_in _ (by omega); go_simp; try with_reducible rfl)); simp only [Act.put, Z2, Z3, Z4]
       refine wpGv (i := 4) (oi := ⟨some 45, _, _, _, _, _⟩) (v := ?_) rfl ?_ ?_; rotate_left; (focus (intro w9 hSw; have q0 := IXP.out w9; go_simp; try with_reducible rfl)); simp only [Act.put, Z2, Z3, Z4]
       refine wpGv (i := 5) (oi := ⟨some 46, _, _, _, _, _⟩) (v := ?_) rfl ?_ ?_; rotate_left; (focus (intro w9 hSw; go_simp; try with_reducible rfl)); simp only [Act.put, Z2, Z3, Z4]
       refine wpGv (i := 6) (oi := ⟨some 47, _, _, _, _, _⟩) (v := (.agg (bvals pz))) rfl ?_ ?_; (focus (intro w9 hSw; exact exec_load_at 38 _ rfl _ rfl (load_idM (LP.out w9 hSw) HPZ.out))); simp only [Act.put, Z2, Z3, Z4]
       refine wpGv (i := 7) (oi := ⟨some 48, _, _, _, _, _⟩) (v := ?_) rfl ?_ ?_; rotate_left; (focus (intro w9 hSw; go_simp; try with_reducible rfl)); simp only [Act.put, Z2, Z3, Z4]
       refine wpGv (i := 8) (oi := ⟨some 49, _, _, _, _, _⟩) (v := (.agg (bvals z))) rfl ?_ ?_; (focus (intro w9 hSw; exact exec_load_at 38 _ rfl _ rfl (load_idM (LZ.out w9 hSw) HZ16.out))); simp only [Act.put, Z2, Z3, Z4]
       refine wpG_take (i := 9) (oi := ⟨some 50, _, _, _, _, _⟩) rfl (by kernel_rfl) (by kernel_rfl) (by kernel_rfl) (Or.inl ⟨by rfl, unib_call ?_ HLE.out⟩) ?_; (focus (intro w9 hSw; go_simp; try with_reducible rfl)); simp only [Act.put, Z2, Z3, Z4]
       refine wpGv (i := 10) (oi := ⟨some 6, _, _, _, _, _⟩) (v := ?_) rfl ?_ ?_; rotate_left; (focus (intro w9 hSw; go_simp; try with_reducible rfl)); simp only [Act.put, Z2, Z3, Z4]
       refine wpG_done (by kernel_rfl) ?_ _
       intro w9 hSw _
       have B10 := Lib.hid (HB1.out.trans ((B3.out.trans (hSw.mono B3.out.size)).mono HB1.out.size))
       clear hSw A16 A17 A18
       go_wp2
       go_ret
       exact ⟨by rw [HF.out]; try rfl, B10.out⟩
      ·have HE0 := Lib.hid (show V = ((esOk dn dr (lastA es 0) ((es.drop 0).map (·.e)) && rest) && decide (n ≤ 10)) by rw [HF3.out]; rfl)
       clear HF3
       go_wp2_with (first | ((with_reducible refine wpList_eqlM (o := ⟨some 36, .binOp .eql 40 (.tmp 34) (.tmp 35) 40, _, _, _, _⟩) ?e1 40 (.tmp 34) (.tmp 35) 40 ?e2 ?e3 ?e4 guardStM (HEQ.out _) ?_); (case e1 => rfl); (case e2 => rfl); (case e3 => rfl); (case e4 => rfl)))
       refine wp_region_G _ (by kernel_rfl) ?_
       refine wpGv (i := 0) (oi := ⟨some 41, _, _, _, _, _⟩) (v := ?_) rfl ?_ ?_; rotate_left; (focus (intro w9 hSw; go_simp; try with_reducible rfl)); simp only [Act.put, Z2, Z3, Z4]
       refine wpGv (i := 1) (oi := ⟨some 42, _, _, _, _, _⟩) (v := ?_) rfl ?_ ?_; rotate_left; (focus (intro w9 hSw; have q0 := HS32.out w9 hSw; go_simp; try with_reducible rfl)); simp only [Act.put, Z2, Z3, Z4]
       refine wpGv (i := 2) (oi := ⟨some 43, _, _, _, _, _⟩) (v := ?_) rfl ?_ ?_; rotate_left; (focus (intro w9 hSw; go_simp; try with_reducible rfl)); simp only [Act.put, Z2, Z3, Z4]
       refine wpGv (i := 3) (oi := ⟨some 44, _, _, _, _, _⟩) (v := ?_) rfl ?_ ?_; rotate_left; (focus (intro w9 hSw; have x1 : IntKind.i64.wrap ((k : Int) - 1) = (k : Int) - 1 := IntWalk.i64_in _ (by omega); go_simp; try with_reducible rfl)); simp only [Act.put, Z2, Z3, Z4]
       refine wpGv (i := 4) (oi := ⟨some 45, _, _, _, _, _⟩) (v := ?_) rfl ?_ ?_; rotate_left; (focus (intro w9 hSw; have q0 := IXP.out w9; go_simp; try with_reducible rfl)); simp only [Act.put, Z2, Z3, Z4]
       refine wpGv (i := 5) (oi := ⟨some 46, _, _, _, _, _⟩) (v := ?_) rfl ?_ ?_; rotate_left; (focus (intro w9 hSw; go_simp; try with_reducible rfl)); simp only [Act.put, Z2, Z3, Z4]
       refine wpGv (i := 6) (oi := ⟨some 47, _, _, _, _, _⟩) (v := (.agg (bvals pz))) rfl ?_ ?_; (focus (intro w9 hSw; exact exec_load_at 38 _ rfl _ rfl (load_idM (LP.out w9 hSw) HPZ.out))); simp only [Act.put, Z2, Z3, Z4]
       refine wpGv (i := 7) (oi := ⟨some 48, _, _, _, _, _⟩) (v := ?_) rfl ?_ ?_; rotate_left; (focus (intro w9 hSw; go_simp; try with_reducible rfl)); simp only [Act.put, Z2, Z3, Z4]
       refine wpGv (i := 8) (oi := ⟨some 49, _, _, _, _, _⟩) (v := (.agg (bvals z))) rfl ?_ ?_; (focus (intro w9 hSw; exact exec_load_at 38 _ rfl _ rfl (load_idM (LZ.out w9 hSw) HZ16.out))); simp only [Act.put, Z2, Z3, Z4]
       refine wpG_take (i := 9) (oi := ⟨some 50, _, _, _, _, _⟩) rfl (by kernel_rfl) (by kernel_rfl) (by kernel_rfl) (Or.inl ⟨by rfl, unib_call ?_ HLE.out⟩) ?_; (focus (intro w9 hSw; go_simp; try with_reducible rfl)); simp only [Act.put, Z2, Z3, Z4]
       refine wpGv (i := 10) (oi := ⟨some 6, _, _, _, _, _⟩) (v := ?_) rfl ?_ ?_; rotate_left; (focus (intro w9 hSw; go_simp; try with_reducible rfl)); simp only [Act.put, Z2, Z3, Z4]
       refine wpG_done (by kernel_rfl) ?_ _
       intro w9 hSw _
       have BX0 := Lib.hid hSw
       clear hSw A16 A17 A18
       go_wp2
       go_loopw [7, 8] (fun u7 u8 wr => ∃ j : Nat, j ≤ M ∧ u7 = .int .i64 (lastA es j) ∧ u8 = .int .i64 j ∧ Below w3.heap.size w3 wr ∧ V = ((esOk dn dr (lastA es j) ((es.drop j).map (·.e)) && rest) && decide (n ≤ 10))) (fun _ i _ => M - (intOf i).toNat)
       case atStart => exact ⟨0, Nat.zero_le _, rfl, rfl, BX0.out, HE0.out⟩
       case round =>
        obtain ⟨j, hj, rfl, rfl, hb2, hf2⟩ := hrel
        have HB2 := Lib.hid hb2
        have s18 := F18.out _ hb2
        by_cases hjt : j < M
        ·omega
        ·obtain rfl : j = M := by omega
         have t3 : ¬ (j : Int) < (j : Int) := by omega
         have HF := Lib.hid (show V = (rest && decide (n ≤ 10)) by rw [hf2, List.drop_eq_nil_of_le (by rw [HM.out]; exact Nat.le_refl _)]; rfl)
         have B10 := Lib.hid (B3.out.trans (hb2.mono B3.out.size))
         clear hf2 hb2
         go_wp2
         go_roundw
         case rel => exact ⟨k + 1, by omega, by go_num, B10.out, by rw [HRST.out]; exact HF.out⟩
         case measure => simp [intOf]; omega
   ·have t2 : ¬ (M : Int) = 0 := by omega
    have HF1 := Lib.hid (show V = ((esOk dn dr (lastA es 0) ((es.drop 0).map (·.e)) && (riseOk PV z && rest)) && decide (n ≤ 10)) by rw [HHF.out, decide_eq_false (show ¬ (es.map (fun e : EnA => e.e) = [] ∧ dn = 0 ∧ dr = 0) from fun h => hM0 (HNE.out.1 h.1))]; rfl)
    clear HHF
    by_cases hk0 : k = 0
    ·have t5 : ¬ (0 : Int) < (k : Int) := by omega
     have HE0 := Lib.hid (show V = ((esOk dn dr (lastA es 0) ((es.drop 0).map (·.e)) && rest) && decide (n ≤ 10)) by rw [HF1.out, HPRV.out, if_pos hk0]; rfl)
     have BX0 := Lib.hid (Below.refl w3.heap.size w3)
     clear HF1
     go_wp2
     clear A16 A17 A18
     go_loopw [7, 8] (fun u7 u8 wr => ∃ j : Nat, j ≤ M ∧ u7 = .int .i64 (lastA es j) ∧ u8 = .int .i64 j ∧ Below w3.heap.size w3 wr ∧ V = ((esOk dn dr (lastA es j) ((es.drop j).map (·.e)) && rest) && decide (n ≤ 10))) (fun _ i _ => M - (intOf i).toNat)
     case atStart => exact ⟨0, Nat.zero_le _, rfl, rfl, BX0.out, HE0.out⟩
     case round =>
      obtain ⟨j, hj, rfl, rfl, hb2, hf2⟩ := hrel
      have HB2 := Lib.hid hb2
      have s18 := F18.out _ hb2
      by_cases hjt : j < M
      ·have t3 : (j : Int) < (M : Int) := by omega
       obtain ⟨b2, off2, hA2, hb2w, hx2, hi2⟩ := HE.out (by omega)
       have IX2 := Lib.hid (hi2 j hjt j rfl)
       rw [← hA2] at IX2
       have Q2 := Lib.hid (hx2 j hjt)
       have HB2W := Lib.hid hb2w
       have HSAME := Lib.hid (fun w9 (h9 : Below wr.heap.size wr w9) b (hb9 : b < w1.heap.size) => (B3.out.trans ((hb2.trans (h9.mono hb2.size)).mono B3.out.size)).block b hb9)
       have hokE := HEO.out j hjt
       have HYO := Lib.hid (fun w9 (h9 : Below wr.heap.size wr w9) => EnA.below hokE ((B3.out.trans ((hb2.trans (h9.mono hb2.size)).mono B3.out.size)).mono (Nat.le_refl _)))
       have HX18 := Lib.hid (fun w9 (h9 : Below wr.heap.size wr w9) => F18.out w9 (hb2.trans (h9.mono hb2.size)))
       have HX16 := Lib.hid (fun w9 (h9 : Below wr.heap.size wr w9) => F16.out w9 (hb2.trans (h9.mono hb2.size)))
       have HX17 := Lib.hid (fun w9 (h9 : Below wr.heap.size wr w9) => F17.out w9 (hb2.trans (h9.mono hb2.size)))
       rw [HES.out j hjt] at hf2
       have HLA := Lib.hid (show lastA es (j + 1) = (es.getD j enA0).e.no by unfold lastA; rw [if_neg (by omega), Nat.add_sub_cancel])
       generalize lastA es j = L at *
       generalize es.getD j enA0 = y at *
       have HEN := Lib.hid (fun w9 (h9 : Below wr.heap.size wr w9) => rentry_any y L dn dr w9 (HYO.out w9 h9))
       rw [show KEn.v y = .agg (KEn.cs y).toArray from rfl] at HEN
       unfold st at HEN
       have HF2 := Lib.hid hf2
       have HC0 := Lib.hid (fun w9 (h9 : Below wr.heap.size wr w9) => by have h := en_c0 (Kind.at_same Q2.out (HSAME.out w9 h9 _ HB2W.out)); exact h)
       clear hx2 hi2 hA2 hokE hf2 hb2 hb2w
       generalize enOk dn dr L y.e = b9 at *
       cases b9
       ·have HF := Lib.hid (show V = false by rw [HF2.out]; rfl)
        clear HF2
        go_wp2_with fail
        refine wp_region_G _ (by kernel_rfl) ?_
        refine wpGv (i := 0) (oi := ⟨some 60, _, _, _, _, _⟩) (v := ?_) rfl ?_ ?_; rotate_left; (focus (intro w9 hSw; go_simp; try with_reducible rfl)); simp only [Act.put, Z2, Z3, Z4]
        refine wpGv (i := 1) (oi := ⟨some 61, _, _, _, _, _⟩) (v := ?_) rfl ?_ ?_; rotate_left; (focus (intro w9 hSw; have q0 := HX18.out w9 hSw; go_simp; try with_reducible rfl)); simp only [Act.put, Z2, Z3, Z4]
        refine wpGv (i := 2) (oi := ⟨some 62, _, _, _, _, _⟩) (v := ?_) rfl ?_ ?_; rotate_left; (focus (intro w9 hSw; go_simp; try with_reducible rfl)); simp only [Act.put, Z2, Z3, Z4]
        refine wpGv (i := 3) (oi := ⟨some 63, _, _, _, _, _⟩) (v := ?_) rfl ?_ ?_; rotate_left; (focus (intro w9 hSw; have q0 := IX2.out w9; go_simp; try with_reducible rfl)); simp only [Act.put, Z2, Z3, Z4]
        refine wpGv (i := 4) (oi := ⟨some 64, _, _, _, _, _⟩) (v := (.agg (KEn.cs y).toArray)) rfl ?_ ?_; (focus (intro w9 hSw; exact exec_load_at 48 _ rfl _ rfl (load_en (Kind.at_same Q2.out (HSAME.out w9 hSw _ HB2W.out)) (HYO.out w9 hSw)))); simp only [Act.put, Z2, Z3, Z4]
        refine wpGv (i := 5) (oi := ⟨some 65, _, _, _, _, _⟩) (v := ?_) rfl ?_ ?_; rotate_left; (focus (intro w9 hSw; go_simp; try with_reducible rfl)); simp only [Act.put, Z2, Z3, Z4]
        refine wpGv (i := 6) (oi := ⟨some 66, _, _, _, _, _⟩) (v := ?_) rfl ?_ ?_; rotate_left; (focus (intro w9 hSw; go_simp; try with_reducible rfl)); simp only [Act.put, Z2, Z3, Z4]
        refine wpGv (i := 7) (oi := ⟨some 67, _, _, _, _, _⟩) (v := ?_) rfl ?_ ?_; rotate_left; (focus (intro w9 hSw; have q0 := HX16.out w9 hSw; have q1 := HX17.out w9 hSw; go_simp; try with_reducible rfl)); simp only [Act.put, Z2, Z3, Z4]
        refine wpG_take (i := 8) (oi := ⟨some 68, _, _, _, _, _⟩) rfl (by kernel_rfl) (by kernel_rfl) (by kernel_rfl) (Or.inl ⟨by rfl, unib_call_if ?_ HEN.out⟩) ?_; (focus (intro w9 hSw; go_simp; try with_reducible rfl)); simp only [Act.put, Z2, Z3, Z4]
        refine wpGv (i := 9) (oi := ⟨some 9, _, _, _, _, _⟩) (v := ?_) rfl ?_ ?_; rotate_left; (focus (intro w9 hSw; go_simp; try with_reducible rfl)); simp only [Act.put, Z2, Z3, Z4]
        refine wpG_done (by kernel_rfl) ?_ _
        intro w9 hSw _
        have B10 := Lib.hid (HB1.out.trans ((B3.out.trans ((HB2.out.trans (hSw.mono HB2.out.size)).mono B3.out.size)).mono HB1.out.size))
        clear hSw s18
        go_wp2
        go_ret
        exact ⟨by rw [HF.out]; try rfl, B10.out⟩
       ·have HF := Lib.hid (show V = ((esOk dn dr (lastA es (j + 1)) ((es.drop (j + 1)).map (·.e)) && rest) && decide (n ≤ 10)) by rw [HF2.out]; rfl)
        clear HF2
        go_wp2_with fail
        refine wp_region_G _ (by kernel_rfl) ?_
        refine wpGv (i := 0) (oi := ⟨some 60, _, _, _, _, _⟩) (v := ?_) rfl ?_ ?_; rotate_left; (focus (intro w9 hSw; go_simp; try with_reducible rfl)); simp only [Act.put, Z2, Z3, Z4]
        refine wpGv (i := 1) (oi := ⟨some 61, _, _, _, _, _⟩) (v := ?_) rfl ?_ ?_; rotate_left; (focus (intro w9 hSw; have q0 := HX18.out w9 hSw; go_simp; try with_reducible rfl)); simp only [Act.put, Z2, Z3, Z4]
        refine wpGv (i := 2) (oi := ⟨some 62, _, _, _, _, _⟩) (v := ?_) rfl ?_ ?_; rotate_left; (focus (intro w9 hSw; go_simp; try with_reducible rfl)); simp only [Act.put, Z2, Z3, Z4]
        refine wpGv (i := 3) (oi := ⟨some 63, _, _, _, _, _⟩) (v := ?_) rfl ?_ ?_; rotate_left; (focus (intro w9 hSw; have q0 := IX2.out w9; go_simp; try with_reducible rfl)); simp only [Act.put, Z2, Z3, Z4]
        refine wpGv (i := 4) (oi := ⟨some 64, _, _, _, _, _⟩) (v := (.agg (KEn.cs y).toArray)) rfl ?_ ?_; (focus (intro w9 hSw; exact exec_load_at 48 _ rfl _ rfl (load_en (Kind.at_same Q2.out (HSAME.out w9 hSw _ HB2W.out)) (HYO.out w9 hSw)))); simp only [Act.put, Z2, Z3, Z4]
        refine wpGv (i := 5) (oi := ⟨some 65, _, _, _, _, _⟩) (v := ?_) rfl ?_ ?_; rotate_left; (focus (intro w9 hSw; go_simp; try with_reducible rfl)); simp only [Act.put, Z2, Z3, Z4]
        refine wpGv (i := 6) (oi := ⟨some 66, _, _, _, _, _⟩) (v := ?_) rfl ?_ ?_; rotate_left; (focus (intro w9 hSw; go_simp; try with_reducible rfl)); simp only [Act.put, Z2, Z3, Z4]
        refine wpGv (i := 7) (oi := ⟨some 67, _, _, _, _, _⟩) (v := ?_) rfl ?_ ?_; rotate_left; (focus (intro w9 hSw; have q0 := HX16.out w9 hSw; have q1 := HX17.out w9 hSw; go_simp; try with_reducible rfl)); simp only [Act.put, Z2, Z3, Z4]
        refine wpG_take (i := 8) (oi := ⟨some 68, _, _, _, _, _⟩) rfl (by kernel_rfl) (by kernel_rfl) (by kernel_rfl) (Or.inl ⟨by rfl, unib_call_if ?_ HEN.out⟩) ?_; (focus (intro w9 hSw; go_simp; try with_reducible rfl)); simp only [Act.put, Z2, Z3, Z4]
        refine wpGv (i := 9) (oi := ⟨some 9, _, _, _, _, _⟩) (v := ?_) rfl ?_ ?_; rotate_left; (focus (intro w9 hSw; go_simp; try with_reducible rfl)); simp only [Act.put, Z2, Z3, Z4]
        refine wpG_done (by kernel_rfl) ?_ _
        intro w9 hSw _
        have B10 := Lib.hid (HB2.out.trans (hSw.mono HB2.out.size))
        have s18 := HX18.out w9 hSw
        have ix2 := IX2.out w9
        have c0 := HC0.out w9 hSw
        clear hSw
        go_wp2
        go_roundw
        case rel => exact ⟨j + 1, by omega, by rw [HLA.out], by go_num, B10.out, HF.out⟩
        case measure => simp [intOf]; omega
      ·obtain rfl : j = M := by omega
       have t3 : ¬ (j : Int) < (j : Int) := by omega
       have HF := Lib.hid (show V = (rest && decide (n ≤ 10)) by rw [hf2, List.drop_eq_nil_of_le (by rw [HM.out]; exact Nat.le_refl _)]; rfl)
       have B10 := Lib.hid (B3.out.trans (hb2.mono B3.out.size))
       clear hf2 hb2
       go_wp2
       go_roundw
       case rel => exact ⟨k + 1, by omega, by go_num, B10.out, by rw [HRST.out]; exact HF.out⟩
       case measure => simp [intOf]; omega
    ·have t5 : (0 : Int) < (k : Int) := by omega
     have hk1 : 0 < k := by omega
     have HPV := Lib.hid (show PV = some pz by rw [HPRV.out, if_neg hk0])
     have hp := HPID.out hk1
     have LP := Lib.hid (fun w9 (h9 : Below w3.heap.size w3 w9) => (hp w9 (B3.out.trans (h9.mono B3.out.size))).1)
     have HPZ := Lib.hid (hp w3 B3.out).2.1
     have IXP := Lib.hid (HIXP.out hk1)
     have HLE := Lib.hid (fun X => rbless_any pz z X (hp w3 B3.out).2.2 HOKX.out.2.1 (hp w3 B3.out).2.1 HOKX.out.1)
     have LZ := Lib.hid (fun w9 (h9 : Below w3.heap.size w3 w9) => ln_id (HXC.out w9 (BX3.out.trans (h9.mono BX3.out.size))) HOKX.out.1)
     dsimp only at LZ
     have HZ16 := Lib.hid (show z.length = 16 from HOKX.out.1)
     have HF3 := Lib.hid (show V = ((esOk dn dr (lastA es 0) ((es.drop 0).map (·.e)) && (lessL pz z && rest)) && decide (n ≤ 10)) by rw [HF1.out, HPV.out]; rfl)
     clear HF1 HPRV HPV hp
     generalize lessL pz z = b8 at *
     cases b8
     ·have HF := Lib.hid (show V = false by rw [HF3.out]; simp)
      clear HF3
      go_wp2_with fail
      refine wp_region_G _ (by kernel_rfl) ?_
      refine wpGv (i := 0) (oi := ⟨some 41, _, _, _, _, _⟩) (v := ?_) rfl ?_ ?_; rotate_left; (focus (intro w9 hSw; go_simp; try with_reducible rfl)); simp only [Act.put, Z2, Z3, Z4]
      refine wpGv (i := 1) (oi := ⟨some 42, _, _, _, _, _⟩) (v := ?_) rfl ?_ ?_; rotate_left; (focus (intro w9 hSw; have q0 := HS32.out w9 hSw; go_simp; try with_reducible rfl)); simp only [Act.put, Z2, Z3, Z4]
      refine wpGv (i := 2) (oi := ⟨some 43, _, _, _, _, _⟩) (v := ?_) rfl ?_ ?_; rotate_left; (focus (intro w9 hSw; go_simp; try with_reducible rfl)); simp only [Act.put, Z2, Z3, Z4]
      refine wpGv (i := 3) (oi := ⟨some 44, _, _, _, _, _⟩) (v := ?_) rfl ?_ ?_; rotate_left; (focus (intro w9 hSw; have x1 : IntKind.i64.wrap ((k : Int) - 1) = (k : Int) - 1 := IntWalk.i64_in _ (by omega); go_simp; try with_reducible rfl)); simp only [Act.put, Z2, Z3, Z4]
      refine wpGv (i := 4) (oi := ⟨some 45, _, _, _, _, _⟩) (v := ?_) rfl ?_ ?_; rotate_left; (focus (intro w9 hSw; have q0 := IXP.out w9; go_simp; try with_reducible rfl)); simp only [Act.put, Z2, Z3, Z4]
      refine wpGv (i := 5) (oi := ⟨some 46, _, _, _, _, _⟩) (v := ?_) rfl ?_ ?_; rotate_left; (focus (intro w9 hSw; go_simp; try with_reducible rfl)); simp only [Act.put, Z2, Z3, Z4]
      refine wpGv (i := 6) (oi := ⟨some 47, _, _, _, _, _⟩) (v := (.agg (bvals pz))) rfl ?_ ?_; (focus (intro w9 hSw; exact exec_load_at 38 _ rfl _ rfl (load_idM (LP.out w9 hSw) HPZ.out))); simp only [Act.put, Z2, Z3, Z4]
      refine wpGv (i := 7) (oi := ⟨some 48, _, _, _, _, _⟩) (v := ?_) rfl ?_ ?_; rotate_left; (focus (intro w9 hSw; go_simp; try with_reducible rfl)); simp only [Act.put, Z2, Z3, Z4]
      refine wpGv (i := 8) (oi := ⟨some 49, _, _, _, _, _⟩) (v := (.agg (bvals z))) rfl ?_ ?_; (focus (intro w9 hSw; exact exec_load_at 38 _ rfl _ rfl (load_idM (LZ.out w9 hSw) HZ16.out))); simp only [Act.put, Z2, Z3, Z4]
      refine wpG_take (i := 9) (oi := ⟨some 50, _, _, _, _, _⟩) rfl (by kernel_rfl) (by kernel_rfl) (by kernel_rfl) (Or.inl ⟨by rfl, unib_call ?_ HLE.out⟩) ?_; (focus (intro w9 hSw; go_simp; try with_reducible rfl)); simp only [Act.put, Z2, Z3, Z4]
      refine wpGv (i := 10) (oi := ⟨some 6, _, _, _, _, _⟩) (v := ?_) rfl ?_ ?_; rotate_left; (focus (intro w9 hSw; go_simp; try with_reducible rfl)); simp only [Act.put, Z2, Z3, Z4]
      refine wpG_done (by kernel_rfl) ?_ _
      intro w9 hSw _
      have B10 := Lib.hid (HB1.out.trans ((B3.out.trans (hSw.mono B3.out.size)).mono HB1.out.size))
      clear hSw A16 A17 A18
      go_wp2
      go_ret
      exact ⟨by rw [HF.out]; try rfl, B10.out⟩
     ·have HE0 := Lib.hid (show V = ((esOk dn dr (lastA es 0) ((es.drop 0).map (·.e)) && rest) && decide (n ≤ 10)) by rw [HF3.out]; rfl)
      clear HF3
      go_wp2_with fail
      refine wp_region_G _ (by kernel_rfl) ?_
      refine wpGv (i := 0) (oi := ⟨some 41, _, _, _, _, _⟩) (v := ?_) rfl ?_ ?_; rotate_left; (focus (intro w9 hSw; go_simp; try with_reducible rfl)); simp only [Act.put, Z2, Z3, Z4]
      refine wpGv (i := 1) (oi := ⟨some 42, _, _, _, _, _⟩) (v := ?_) rfl ?_ ?_; rotate_left; (focus (intro w9 hSw; have q0 := HS32.out w9 hSw; go_simp; try with_reducible rfl)); simp only [Act.put, Z2, Z3, Z4]
      refine wpGv (i := 2) (oi := ⟨some 43, _, _, _, _, _⟩) (v := ?_) rfl ?_ ?_; rotate_left; (focus (intro w9 hSw; go_simp; try with_reducible rfl)); simp only [Act.put, Z2, Z3, Z4]
      refine wpGv (i := 3) (oi := ⟨some 44, _, _, _, _, _⟩) (v := ?_) rfl ?_ ?_; rotate_left; (focus (intro w9 hSw; have x1 : IntKind.i64.wrap ((k : Int) - 1) = (k : Int) - 1 := IntWalk.i64_in _ (by omega); go_simp; try with_reducible rfl)); simp only [Act.put, Z2, Z3, Z4]
      refine wpGv (i := 4) (oi := ⟨some 45, _, _, _, _, _⟩) (v := ?_) rfl ?_ ?_; rotate_left; (focus (intro w9 hSw; have q0 := IXP.out w9; go_simp; try with_reducible rfl)); simp only [Act.put, Z2, Z3, Z4]
      refine wpGv (i := 5) (oi := ⟨some 46, _, _, _, _, _⟩) (v := ?_) rfl ?_ ?_; rotate_left; (focus (intro w9 hSw; go_simp; try with_reducible rfl)); simp only [Act.put, Z2, Z3, Z4]
      refine wpGv (i := 6) (oi := ⟨some 47, _, _, _, _, _⟩) (v := (.agg (bvals pz))) rfl ?_ ?_; (focus (intro w9 hSw; exact exec_load_at 38 _ rfl _ rfl (load_idM (LP.out w9 hSw) HPZ.out))); simp only [Act.put, Z2, Z3, Z4]
      refine wpGv (i := 7) (oi := ⟨some 48, _, _, _, _, _⟩) (v := ?_) rfl ?_ ?_; rotate_left; (focus (intro w9 hSw; go_simp; try with_reducible rfl)); simp only [Act.put, Z2, Z3, Z4]
      refine wpGv (i := 8) (oi := ⟨some 49, _, _, _, _, _⟩) (v := (.agg (bvals z))) rfl ?_ ?_; (focus (intro w9 hSw; exact exec_load_at 38 _ rfl _ rfl (load_idM (LZ.out w9 hSw) HZ16.out))); simp only [Act.put, Z2, Z3, Z4]
      refine wpG_take (i := 9) (oi := ⟨some 50, _, _, _, _, _⟩) rfl (by kernel_rfl) (by kernel_rfl) (by kernel_rfl) (Or.inl ⟨by rfl, unib_call ?_ HLE.out⟩) ?_; (focus (intro w9 hSw; go_simp; try with_reducible rfl)); simp only [Act.put, Z2, Z3, Z4]
      refine wpGv (i := 10) (oi := ⟨some 6, _, _, _, _, _⟩) (v := ?_) rfl ?_ ?_; rotate_left; (focus (intro w9 hSw; go_simp; try with_reducible rfl)); simp only [Act.put, Z2, Z3, Z4]
      refine wpG_done (by kernel_rfl) ?_ _
      intro w9 hSw _
      have BX0 := Lib.hid hSw
      clear hSw A16 A17 A18
      go_wp2
      go_loopw [7, 8] (fun u7 u8 wr => ∃ j : Nat, j ≤ M ∧ u7 = .int .i64 (lastA es j) ∧ u8 = .int .i64 j ∧ Below w3.heap.size w3 wr ∧ V = ((esOk dn dr (lastA es j) ((es.drop j).map (·.e)) && rest) && decide (n ≤ 10))) (fun _ i _ => M - (intOf i).toNat)
      case atStart => exact ⟨0, Nat.zero_le _, rfl, rfl, BX0.out, HE0.out⟩
      case round =>
       obtain ⟨j, hj, rfl, rfl, hb2, hf2⟩ := hrel
       have HB2 := Lib.hid hb2
       have s18 := F18.out _ hb2
       by_cases hjt : j < M
       ·have t3 : (j : Int) < (M : Int) := by omega
        obtain ⟨b2, off2, hA2, hb2w, hx2, hi2⟩ := HE.out (by omega)
        have IX2 := Lib.hid (hi2 j hjt j rfl)
        rw [← hA2] at IX2
        have Q2 := Lib.hid (hx2 j hjt)
        have HB2W := Lib.hid hb2w
        have HSAME := Lib.hid (fun w9 (h9 : Below wr.heap.size wr w9) b (hb9 : b < w1.heap.size) => (B3.out.trans ((hb2.trans (h9.mono hb2.size)).mono B3.out.size)).block b hb9)
        have hokE := HEO.out j hjt
        have HYO := Lib.hid (fun w9 (h9 : Below wr.heap.size wr w9) => EnA.below hokE ((B3.out.trans ((hb2.trans (h9.mono hb2.size)).mono B3.out.size)).mono (Nat.le_refl _)))
        have HX18 := Lib.hid (fun w9 (h9 : Below wr.heap.size wr w9) => F18.out w9 (hb2.trans (h9.mono hb2.size)))
        have HX16 := Lib.hid (fun w9 (h9 : Below wr.heap.size wr w9) => F16.out w9 (hb2.trans (h9.mono hb2.size)))
        have HX17 := Lib.hid (fun w9 (h9 : Below wr.heap.size wr w9) => F17.out w9 (hb2.trans (h9.mono hb2.size)))
        rw [HES.out j hjt] at hf2
        have HLA := Lib.hid (show lastA es (j + 1) = (es.getD j enA0).e.no by unfold lastA; rw [if_neg (by omega), Nat.add_sub_cancel])
        generalize lastA es j = L at *
        generalize es.getD j enA0 = y at *
        have HEN := Lib.hid (fun w9 (h9 : Below wr.heap.size wr w9) => rentry_any y L dn dr w9 (HYO.out w9 h9))
        rw [show KEn.v y = .agg (KEn.cs y).toArray from rfl] at HEN
        unfold st at HEN
        have HF2 := Lib.hid hf2
        have HC0 := Lib.hid (fun w9 (h9 : Below wr.heap.size wr w9) => by have h := en_c0 (Kind.at_same Q2.out (HSAME.out w9 h9 _ HB2W.out)); exact h)
        clear hx2 hi2 hA2 hokE hf2 hb2 hb2w
        generalize enOk dn dr L y.e = b9 at *
        cases b9
        ·have HF := Lib.hid (show V = false by rw [HF2.out]; rfl)
         clear HF2
         go_wp2_with fail
         refine wp_region_G _ (by kernel_rfl) ?_
         refine wpGv (i := 0) (oi := ⟨some 60, _, _, _, _, _⟩) (v := ?_) rfl ?_ ?_; rotate_left; (focus (intro w9 hSw; go_simp; try with_reducible rfl)); simp only [Act.put, Z2, Z3, Z4]
         refine wpGv (i := 1) (oi := ⟨some 61, _, _, _, _, _⟩) (v := ?_) rfl ?_ ?_; rotate_left; (focus (intro w9 hSw; have q0 := HX18.out w9 hSw; go_simp; try with_reducible rfl)); simp only [Act.put, Z2, Z3, Z4]
         refine wpGv (i := 2) (oi := ⟨some 62, _, _, _, _, _⟩) (v := ?_) rfl ?_ ?_; rotate_left; (focus (intro w9 hSw; go_simp; try with_reducible rfl)); simp only [Act.put, Z2, Z3, Z4]
         refine wpGv (i := 3) (oi := ⟨some 63, _, _, _, _, _⟩) (v := ?_) rfl ?_ ?_; rotate_left; (focus (intro w9 hSw; have q0 := IX2.out w9; go_simp; try with_reducible rfl)); simp only [Act.put, Z2, Z3, Z4]
         refine wpGv (i := 4) (oi := ⟨some 64, _, _, _, _, _⟩) (v := (.agg (KEn.cs y).toArray)) rfl ?_ ?_; (focus (intro w9 hSw; exact exec_load_at 48 _ rfl _ rfl (load_en (Kind.at_same Q2.out (HSAME.out w9 hSw _ HB2W.out)) (HYO.out w9 hSw)))); simp only [Act.put, Z2, Z3, Z4]
         refine wpGv (i := 5) (oi := ⟨some 65, _, _, _, _, _⟩) (v := ?_) rfl ?_ ?_; rotate_left; (focus (intro w9 hSw; go_simp; try with_reducible rfl)); simp only [Act.put, Z2, Z3, Z4]
         refine wpGv (i := 6) (oi := ⟨some 66, _, _, _, _, _⟩) (v := ?_) rfl ?_ ?_; rotate_left; (focus (intro w9 hSw; go_simp; try with_reducible rfl)); simp only [Act.put, Z2, Z3, Z4]
         refine wpGv (i := 7) (oi := ⟨some 67, _, _, _, _, _⟩) (v := ?_) rfl ?_ ?_; rotate_left; (focus (intro w9 hSw; have q0 := HX16.out w9 hSw; have q1 := HX17.out w9 hSw; go_simp; try with_reducible rfl)); simp only [Act.put, Z2, Z3, Z4]
         refine wpG_take (i := 8) (oi := ⟨some 68, _, _, _, _, _⟩) rfl (by kernel_rfl) (by kernel_rfl) (by kernel_rfl) (Or.inl ⟨by rfl, unib_call_if ?_ HEN.out⟩) ?_; (focus (intro w9 hSw; go_simp; try with_reducible rfl)); simp only [Act.put, Z2, Z3, Z4]
         refine wpGv (i := 9) (oi := ⟨some 9, _, _, _, _, _⟩) (v := ?_) rfl ?_ ?_; rotate_left; (focus (intro w9 hSw; go_simp; try with_reducible rfl)); simp only [Act.put, Z2, Z3, Z4]
         refine wpG_done (by kernel_rfl) ?_ _
         intro w9 hSw _
         have B10 := Lib.hid (HB1.out.trans ((B3.out.trans ((HB2.out.trans (hSw.mono HB2.out.size)).mono B3.out.size)).mono HB1.out.size))
         clear hSw s18
         go_wp2
         go_ret
         exact ⟨by rw [HF.out]; try rfl, B10.out⟩
        ·have HF := Lib.hid (show V = ((esOk dn dr (lastA es (j + 1)) ((es.drop (j + 1)).map (·.e)) && rest) && decide (n ≤ 10)) by rw [HF2.out]; rfl)
         clear HF2
         go_wp2_with fail
         refine wp_region_G _ (by kernel_rfl) ?_
         refine wpGv (i := 0) (oi := ⟨some 60, _, _, _, _, _⟩) (v := ?_) rfl ?_ ?_; rotate_left; (focus (intro w9 hSw; go_simp; try with_reducible rfl)); simp only [Act.put, Z2, Z3, Z4]
         refine wpGv (i := 1) (oi := ⟨some 61, _, _, _, _, _⟩) (v := ?_) rfl ?_ ?_; rotate_left; (focus (intro w9 hSw; have q0 := HX18.out w9 hSw; go_simp; try with_reducible rfl)); simp only [Act.put, Z2, Z3, Z4]
         refine wpGv (i := 2) (oi := ⟨some 62, _, _, _, _, _⟩) (v := ?_) rfl ?_ ?_; rotate_left; (focus (intro w9 hSw; go_simp; try with_reducible rfl)); simp only [Act.put, Z2, Z3, Z4]
         refine wpGv (i := 3) (oi := ⟨some 63, _, _, _, _, _⟩) (v := ?_) rfl ?_ ?_; rotate_left; (focus (intro w9 hSw; have q0 := IX2.out w9; go_simp; try with_reducible rfl)); simp only [Act.put, Z2, Z3, Z4]
         refine wpGv (i := 4) (oi := ⟨some 64, _, _, _, _, _⟩) (v := (.agg (KEn.cs y).toArray)) rfl ?_ ?_; (focus (intro w9 hSw; exact exec_load_at 48 _ rfl _ rfl (load_en (Kind.at_same Q2.out (HSAME.out w9 hSw _ HB2W.out)) (HYO.out w9 hSw)))); simp only [Act.put, Z2, Z3, Z4]
         refine wpGv (i := 5) (oi := ⟨some 65, _, _, _, _, _⟩) (v := ?_) rfl ?_ ?_; rotate_left; (focus (intro w9 hSw; go_simp; try with_reducible rfl)); simp only [Act.put, Z2, Z3, Z4]
         refine wpGv (i := 6) (oi := ⟨some 66, _, _, _, _, _⟩) (v := ?_) rfl ?_ ?_; rotate_left; (focus (intro w9 hSw; go_simp; try with_reducible rfl)); simp only [Act.put, Z2, Z3, Z4]
         refine wpGv (i := 7) (oi := ⟨some 67, _, _, _, _, _⟩) (v := ?_) rfl ?_ ?_; rotate_left; (focus (intro w9 hSw; have q0 := HX16.out w9 hSw; have q1 := HX17.out w9 hSw; go_simp; try with_reducible rfl)); simp only [Act.put, Z2, Z3, Z4]
         refine wpG_take (i := 8) (oi := ⟨some 68, _, _, _, _, _⟩) rfl (by kernel_rfl) (by kernel_rfl) (by kernel_rfl) (Or.inl ⟨by rfl, unib_call_if ?_ HEN.out⟩) ?_; (focus (intro w9 hSw; go_simp; try with_reducible rfl)); simp only [Act.put, Z2, Z3, Z4]
         refine wpGv (i := 9) (oi := ⟨some 9, _, _, _, _, _⟩) (v := ?_) rfl ?_ ?_; rotate_left; (focus (intro w9 hSw; go_simp; try with_reducible rfl)); simp only [Act.put, Z2, Z3, Z4]
         refine wpG_done (by kernel_rfl) ?_ _
         intro w9 hSw _
         have B10 := Lib.hid (HB2.out.trans (hSw.mono HB2.out.size))
         have s18 := HX18.out w9 hSw
         have ix2 := IX2.out w9
         have c0 := HC0.out w9 hSw
         clear hSw
         go_wp2
         go_roundw
         case rel => exact ⟨j + 1, by omega, by rw [HLA.out], by go_num, B10.out, HF.out⟩
         case measure => simp [intOf]; omega
       ·obtain rfl : j = M := by omega
        have t3 : ¬ (j : Int) < (j : Int) := by omega
        have HF := Lib.hid (show V = (rest && decide (n ≤ 10)) by rw [hf2, List.drop_eq_nil_of_le (by rw [HM.out]; exact Nat.le_refl _)]; rfl)
        have B10 := Lib.hid (B3.out.trans (hb2.mono B3.out.size))
        clear hf2 hb2
        go_wp2
        go_roundw
        case rel => exact ⟨k + 1, by omega, by go_num, B10.out, by rw [HRST.out]; exact HF.out⟩
        case measure => simp [intOf]; omega
  ·obtain rfl : k = n := by omega
   have t1 : ¬ (k : Int) < (k : Int) := by omega
   have HF := Lib.hid (show V = decide ((k : Int) ≤ 10) by rw [hf, List.drop_eq_nil_of_le (by rw [HN.out]; exact Nat.le_refl _)]; simp [lsOk]; omega)
   have B9 := Lib.hid (HB1.out.trans (hb.mono HB1.out.size))
   clear hf hb
   go_wp2
   go_ret
   exact ⟨by rw [HF.out]; try rfl, B9.out⟩
end
end Go.Proofs.YtbkopnpafmjicaaGreatDoor
