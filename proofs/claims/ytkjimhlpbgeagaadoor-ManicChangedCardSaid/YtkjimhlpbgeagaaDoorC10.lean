import Derived.Test.YtkjimhlpbgeagaaDoorC0
import Derived.Test.YtkjimhlpbgeagaaDoorC1
import Derived.Test.YtkjimhlpbgeagaaDoorC9
import Derived.Test.YtkjimhlpbgeagaaDoorC8
import Derived.RangeFuncBox
import Derived.Lib.AppendZeros
import Derived.Deep.Draws
import Derived.Maps.OwnSet
import Derived.Maps.Views
import Derived.RangeFuncNested
import Derived.RangeFuncBound
import Derived.RangeFuncCalls
import Derived.RangeFuncLeaves
import Derived.Shelf.Abstract
import Derived.Shelf.RegionOpen
import Derived.WalkKit
import Derived.OwnWalkIn
import Derived.TacticsInMore
import Derived.LoopNIn
import Derived.LoopIn
import Derived.Maps.OwnIn
import Derived.BigQuiet
import Derived.Lib.Bytealg
import Derived.Sort.Grow
/-
  What the functions that a law of this layer reaches answer, part 10. Nothing that was there is written.
-/
namespace Go.Proofs.YtkjimhlpbgeagaaDoor
set_option linter.unusedVariables false
set_option linter.unusedSimpArgs false
section
section
open Go.RowKit WM
set_option maxHeartbeats 400000 in
theorem text_gives (s : ByteArray) (w : World) (hs : s.size ≤ 140737488355000) : Calls Tryd.prog 76 #[.string s] w (Gives w (txt s)) := by
 obtain ⟨i0, hi, hz0, hz1, hz2⟩ := info_parts infoByte
 have hel := enc_len s.size
 go_enter Tryd.func76, Tryd.ntmps76
 go_wp2_with (first
  | (go_at_call 14; refine (put_gives _ _ (by omega) (by omega)).mono ?_; rintro e w1 ⟨A, n, c, rfl, hn, hnc, hcm, hown, hbel⟩; have HN := Lib.hid hn; clear hn)
  | (at_builtin; refine Lib.wpList_append_own_string _ rfl _ _ 27 9 rfl w.heap.size 5 i0 Tryd.underlying27 Tryd.underlying9 hi hz0 hz1 hz2 (.slice A n c) n _ rfl hown s rfl ?h1 ?h2 hbel.size ?_; rotate_right; intro v2 w2 ho2 hg2 _))
 case h1 => have := HN.out; unfold maxLen; omega
 case h2 => have := HN.out; omega
 go_ret
 refine gives_own (n := n + s.size) ?_ (hbel.grown hg2 hbel.size (fun g hg => own_base hown hg))
 rw [txt, List.map_append, nums_cells]
 exact ho2
end
section
open Go.RowKit WM
set_option maxRecDepth 20000
def rd (zs : List Int) (most : Int) : Option (List Int × Nat) :=
 match dec zs with
 | none => none
 | some (n, k) => if (zs.length : Int) - k < n then none else if most < n then none else some ((zs.drop k).take n.toNat, k + n.toNat)
end
section
open Go.RowKit WM
def cenc (c : Cel) : List Int := enc (c.n * 8 + c.r) ++ txt c.s
theorem cenc_bytes (c : Cel) : AllBytes (cenc c) := all_append (enc_bytes _) (txt_bytes _)
theorem cenc_len (c : Cel) (h : c.s.size ≤ 200) : (cenc c).length ≤ 220 ∧ 2 ≤ (cenc c).length := by
 have h1 := enc_len (c.n * 8 + c.r)
 have h2 := enc_len c.s.size
 have h3 := nums_len c.s
 unfold cenc txt
 rw [List.length_append, List.length_append]
 omega
def CPutPost (w : World) (c : Cel) (e : Ending) (w' : World) : Prop :=
 if cmay c then GivesT w (cenc c) e w' else e = .returned (.tuple #[.slice none 0 0, .bool false]) ∧ Below w.heap.size w w'
set_option maxHeartbeats 1000000 in
theorem cput_any (c : Cel) (w : World) : Calls Tryd.prog 72 #[c.v] w (CPutPost w c) := by
 obtain ⟨i0, hi, hz0, hz1, hz2⟩ := info_parts infoByte
 have S0 := Lib.hid (ClAt.new w c)
 have B0 := Lib.hid ((((Below.refl w.heap.size w).alloc (Nat.le_refl _) (.cells #[.int .i64 c.n, .int .i64 c.r, .string c.s] 101))))
 have HP := Lib.hid (stPut_any c.n c.r)
 have HM := Lib.hid (cmay_any c)
 cases hm : cmay c
 ·have HN : Hid (∀ e w', e = .returned (.tuple #[.slice none 0 0, .bool false]) → Below w.heap.size w w' → CPutPost w c e w') := Lib.hid (fun e w' h1 h2 => by unfold CPutPost; rw [hm]; exact ⟨h1, h2⟩)
  rw [hm] at HM
  unfold StPutPost at HP
  clear hm
  cases hs : may c.n c.r
  ·rw [hs] at HP
   simp only [Bool.false_eq_true, if_false] at HP
   unfold st at HP
   unfold Cel.v
   clear hs
   go_enter Tryd.func72, Tryd.ntmps72
   go_wp2_with fail
   refine (HP.out _).mono ?_
   rintro e w1 ⟨rfl, hb⟩
   have B1 := Lib.hid (B0.out.trans (hb.mono B0.out.size))
   clear hb
   go_wp2
   go_ret2
   exact HN.out _ _ rfl B1.out
  ·rw [hs] at HP
   simp only [if_true] at HP
   unfold st at HP
   unfold Cel.v at HM ⊢
   clear hs
   go_enter Tryd.func72, Tryd.ntmps72
   go_wp2_with fail
   refine (HP.out _).mono ?_
   rintro e w1 ⟨A, n, k, rfl, hn, hnk, hkm, hown, hb⟩
   have B1 := Lib.hid (B0.out.trans (hb.mono B0.out.size))
   have s0 := S0.out.below hb S0.out.lt
   have a0 := s0.c0
   have a1 := s0.c1
   have a2 := s0.c2
   clear hb s0 hn hnk hkm hown
   go_wp2_with fail
   refine (HM.out _).mono ?_
   rintro e w2 ⟨rfl, hb⟩
   have B2 := Lib.hid (B1.out.trans (hb.mono B1.out.size))
   clear hb a0 a1 a2
   go_wp2
   go_ret2
   exact HN.out _ _ rfl B2.out
 ·have HN : Hid (∀ e w', GivesT w (cenc c) e w' → CPutPost w c e w') := Lib.hid (fun e w' h1 => by unfold CPutPost; rw [hm]; exact h1)
  rw [hm] at HM
  obtain ⟨hs, hn1, hsz⟩ := cmay_iff.1 hm
  have HT := Lib.hid (fun w => text_gives c.s w (by omega))
  have hlen := cenc_len c hsz
  unfold cenc at hlen HN
  rw [List.length_append] at hlen
  unfold StPutPost at HP
  rw [hs] at HP
  simp only [if_true] at HP
  generalize enc (c.n * 8 + c.r) = E at *
  generalize txt c.s = F at *
  unfold st at HP
  unfold Cel.v at HM ⊢
  clear hs hm hn1 hsz
  go_enter Tryd.func72, Tryd.ntmps72
  go_wp2_with fail
  refine (HP.out _).mono ?_
  rintro e w1 ⟨A, n, k, rfl, hn, hnk, hkm, hown, hb⟩
  have B1 := Lib.hid (B0.out.trans (hb.mono B0.out.size))
  have O1 := Lib.hid (own_wide hown B0.out.size)
  have S1 := Lib.hid (S0.out.below hb S0.out.lt)
  have a0 := S1.out.c0
  have a1 := S1.out.c1
  have a2 := S1.out.c2
  have HL1 := Lib.hid hn
  clear hb hn hnk hkm hown
  go_wp2_with fail
  refine (HM.out _).mono ?_
  rintro e w2 ⟨rfl, hb⟩
  have B2 := Lib.hid (B1.out.trans (hb.mono B1.out.size))
  have O2 := Lib.hid (own_below O1.out hb)
  have S2 := Lib.hid (S1.out.below hb S1.out.lt)
  clear hb a0 a1 a2
  have a2 := S2.out.c2
  go_wp2_with fail
  refine (HT.out _).mono ?_
  rintro e w3 ⟨A3, n3, k3, rfl, hn3, hnk3, hkm3, hown3, hb⟩
  have B3 := Lib.hid (B2.out.trans (hb.mono B2.out.size))
  have O3 := Lib.hid (own_below O2.out hb)
  have hnil := Lib.hid (own_nil hown3)
  have hby := Lib.hid (Byt.own hown3)
  have HL3 := Lib.hid hn3
  have hlen3 : n + n3 ≤ 140737488355328 := by have := HL1.out; omega
  clear hb a2 hn3 hnk3 hkm3 hown3 hlen
  go_wp2_with (at_builtin; refine wpList_append_byt _ rfl _ _ 27 rfl w.heap.size 5 i0 Tryd.underlying27 hi hz0 hz1 hz2 _ n E rfl O3.out w3.heap.size A3 n3 k3 F rfl hby.out HL3.out hnil.out hlen3 B3.out.size ?_; intro v4 w4 ho4 hg4; have G4 := Lib.hid (HN.out _ _ (givesT_own ho4 (B3.out.grown hg4 B3.out.size (fun g hg => own_base O3.out hg)))); clear ho4 hg4)
  go_ret2
  exact G4.out
end
end
section
section
open Go.RowKit WM
def okFrom (n r : Int) : Int → List Fld → Bool
 | _, [] => true
 | m, f :: fs => decide (m ≤ f.no) && decide (f.no < 8) && cmay f.c && stLess n r f.c.n f.c.r && okFrom n r (f.no + 1) fs
def rmay (n r : Int) (fs : List Fld) : Bool := may n r && !(decide (fs.length = 0) && decide (n = 0) && decide (r = 0)) && okFrom n r 0 fs
theorem okFrom_drop (n r m : Int) {fs : List Fld} {k : Nat} (hk : k < fs.length) : okFrom n r m (fs.drop k) =
  (decide (m ≤ (fs.getD k fld0).no) && decide ((fs.getD k fld0).no < 8) && cmay (fs.getD k fld0).c && stLess n r (fs.getD k fld0).c.n (fs.getD k fld0).c.r && okFrom n r ((fs.getD k fld0).no + 1) (fs.drop (k + 1))) := by
 rw [List.drop_eq_getElem_cons hk, okFrom]
 simp only [List.getD, List.getElem?_eq_getElem hk, Option.getD_some]
def MayPost (w : World) (v : Bool) (e : Ending) (w' : World) : Prop := e = .returned (.bool v) ∧ Below w.heap.size w w'
set_option maxHeartbeats 4000000 in
theorem rmay_any (z : List Int) (n r : Int) (A : Option Addr) (len c : Nat) (fs : List Fld) (w : World) (hz : z.length = 16) (hl : fs.length = len) (h : FsAt w A c fs) :
  Calls Tryd.prog 43 #[rv z n r (.slice A len c)] w (MayPost w (rmay n r fs)) := by
 obtain ⟨hc1, hc2, hc3, hcell⟩ := h
 simp only [maxLen] at hc2
 have HL := Lib.hid hl
 have HC := Lib.hid hcell
 have S0 := Lib.hid (RcAt.new w hz n r (.slice A len c))
 have HB := Lib.hid ((Below.refl w.heap.size w).alloc (Nat.le_refl _) (.cells (rcells z n r (.slice A len c)) 73))
 have HM := Lib.hid (may_any n r)
 have hlen : len ≤ c := by omega
 have s0 := S0.out.c16
 have s1 := S0.out.c17
 clear hcell hc1 hl
 unfold rv
 unfold st at HM
 cases hm : may n r
 ·have HV := Lib.hid (show rmay n r fs = false by simp [rmay, hm])
  rw [hm] at HM
  clear hm
  go_enter Tryd.func43, Tryd.ntmps43
  go_wp2_with fail
  refine (HM.out _).mono ?_
  rintro e w1 ⟨rfl, hb1⟩
  have bw := Lib.hid (HB.out.trans (hb1.mono HB.out.size))
  clear hb1
  go_wp2
  go_ret
  exact ⟨by rw [HV.out]; rfl, bw.out⟩
 ·rw [hm] at HM
  by_cases h0 : len = 0 ∧ n = 0 ∧ r = 0
  ·obtain ⟨rfl, rfl, rfl⟩ := h0
   have HV := Lib.hid (show rmay 0 0 fs = false by simp [rmay, hm, HL.out])
   clear hm
   go_enter Tryd.func43, Tryd.ntmps43
   go_wp2_with fail
   refine (HM.out _).mono ?_
   rintro e w1 ⟨rfl, hb1⟩
   have s2 := S0.out.below hb1 S0.out.lt
   have d0 := s2.c16
   have d1 := s2.c17
   have d2 := s2.c18
   have bw := Lib.hid (HB.out.trans (hb1.mono HB.out.size))
   clear hb1 s2
   go_wp2
   go_ret
   exact ⟨by rw [HV.out]; rfl, bw.out⟩
  ·have HV := Lib.hid (show rmay n r fs = okFrom n r 0 (fs.drop 0) by
    simp only [rmay, hm, HL.out, Bool.true_and, List.drop_zero]
    have : (decide (len = 0) && decide (n = 0) && decide (r = 0)) = false := by
     simp only [Bool.and_eq_false_iff, decide_eq_false_iff_not]
     omega
    rw [this]
    rfl)
   by_cases hl0 : len = 0
   ·subst hl0
    have HT := Lib.hid (show rmay n r fs = true by rw [HV.out, List.drop_eq_nil_of_le (by rw [HL.out]; exact Nat.zero_le _)]; rfl)
    have hne := st_ne (n := n) (r := r) (m := 0) (s := 0) (by omega)
    clear hm h0 HV
    go_enter Tryd.func43, Tryd.ntmps43
    go_wp2_with fail
    refine (HM.out _).mono ?_
    rintro e w1 ⟨rfl, hb1⟩
    have s2 := S0.out.below hb1 S0.out.lt
    have d0 := s2.c16
    have d1 := s2.c17
    have d2 := s2.c18
    have bw := Lib.hid (HB.out.trans (hb1.mono HB.out.size))
    clear hb1 s2
    go_wp2
    refine wp_loop_rounds 1 ?_
    rw [rounds_succ]
    go_wp2
    go_ret
    exact ⟨by rw [HT.out]; rfl, bw.out⟩
   ·have hln : ¬ (len : Int) = 0 := by omega
    clear hm h0
    go_enter Tryd.func43, Tryd.ntmps43
    go_wp2_with fail
    refine (HM.out _).mono ?_
    rintro e w1 ⟨rfl, hb1⟩
    have s2 := S0.out.below hb1 S0.out.lt
    have d0 := s2.c16
    have d1 := s2.c17
    have d2 := s2.c18
    have bw := Lib.hid (HB.out.trans (hb1.mono HB.out.size))
    have S2 := Lib.hid s2
    clear hb1 s2
    go_wp2
    clear d0 d1 d2
    go_loopw [3, 25] (fun v i wr => ∃ (k : Nat) (m : Int), k ≤ len ∧ i = .int .i64 k ∧ v = .int .i64 m ∧ 0 ≤ m ∧ m ≤ 8 ∧ RcAt wr w.heap.size z n r (.slice A len c) ∧ Below w.heap.size w wr ∧ rmay n r fs = okFrom n r m (fs.drop k)) (fun _ i _ => len - (intOf i).toNat)
    case atStart => exact ⟨0, 0, Nat.zero_le _, rfl, rfl, by omega, by omega, S2.out, bw.out, HV.out⟩
    case round =>
     obtain ⟨k, m, hk, rfl, rfl, hm0, hm8, hs, hb, hf⟩ := hrel
     by_cases hlt : k < len
     ·obtain ⟨b, off, rfl, hbB, hcc⟩ := HC.out (by rw [HL.out]; omega)
      obtain ⟨c0, c1, c2, c3⟩ := hcc k (by rw [HL.out]; exact hlt)
      have c0 := (hb.cell (p := ⟨b, off + k * 4, none⟩) hbB).trans c0
      have c1 := (hb.cell (p := ⟨b, off + k * 4 + 1, none⟩) hbB).trans c1
      have c2 := (hb.cell (p := ⟨b, off + k * 4 + 2, none⟩) hbB).trans c2
      have c3 := (hb.cell (p := ⟨b, off + k * 4 + 3, none⟩) hbB).trans c3
      have IX := ix_fld b off len c k hlt k rfl
      rw [okFrom_drop n r m (by rw [HL.out]; exact hlt)] at hf
      generalize fs.getD k fld0 = f at c0 c1 c2 c3 hf
      obtain ⟨no, x⟩ := f
      dsimp only at c0 c1 c2 c3 hf
      generalize off + k * 4 = o at c0 c1 c2 c3 IX
      have hO := Lib.hid (hs.old (.cells #[.int .i64 no, .int .i64 x.n, .int .i64 x.r, .string x.s] 103))
      have hbO := Lib.hid (hb.alloc hb.size (.cells #[.int .i64 no, .int .i64 x.n, .int .i64 x.r, .string x.s] 103))
      have hF := Lib.hid (FlAt.new wr ⟨no, x⟩)
      dsimp only at hF
      clear hcc hs hb
      by_cases h1 : m ≤ no
      ·by_cases h2 : no < 8
       ·have t1 : ¬ no < m := by omega
        have t2 : ¬ 8 ≤ no := by omega
        rw [decide_eq_true h1, decide_eq_true h2] at hf
        simp only [Bool.true_and] at hf
        have HCM := Lib.hid (cmay_any x)
        have HLV := Lib.hid (lives_any n r x)
        unfold st at HLV
        unfold Cel.v at HCM HLV
        cases hc : cmay x
        ·rw [hc] at hf HCM
         simp only [Bool.false_and] at hf
         have HF := Lib.hid hf
         clear hc hf
         go_wp2_with fail
         refine (HCM.out _).mono ?_
         rintro e w2 ⟨rfl, hb2⟩
         have b2 := Lib.hid (hbO.out.trans (hb2.mono hbO.out.size))
         clear hb2
         go_wp2
         go_ret
         exact ⟨by rw [HF.out]; rfl, b2.out⟩
        ·rw [hc] at hf HCM
         simp only [Bool.true_and] at hf
         clear hc
         cases hv : stLess n r x.n x.r
         ·rw [hv] at hf HLV
          simp only [Bool.false_and] at hf
          have HF := Lib.hid hf
          clear hv hf
          go_wp2_with fail
          refine (HCM.out _).mono ?_
          rintro e w2 ⟨rfl, hb2⟩
          have b2 := Lib.hid (hbO.out.trans (hb2.mono hbO.out.size))
          have g := hF.out.below hb2 hF.out.lt
          have g0 := g.c0
          have g1 := g.c1
          have g2 := g.c2
          have g3 := g.c3
          have s := hO.out.below hb2 hO.out.lt
          have d0 := s.c16
          have d1 := s.c17
          clear hb2 g s
          go_wp2_with fail
          refine (HLV.out _).mono ?_
          rintro e w3 ⟨rfl, hb3⟩
          have b3 := Lib.hid (b2.out.trans (hb3.mono b2.out.size))
          clear hb3
          go_wp2
          go_ret
          exact ⟨by rw [HF.out]; rfl, b3.out⟩
         ·rw [hv] at hf HLV
          simp only [Bool.true_and] at hf
          have HF := Lib.hid hf
          clear hv hf
          go_wp2_with fail
          refine (HCM.out _).mono ?_
          rintro e w2 ⟨rfl, hb2⟩
          have b2 := Lib.hid (hbO.out.trans (hb2.mono hbO.out.size))
          have g := hF.out.below hb2 hF.out.lt
          have G2 := Lib.hid g
          have g0 := g.c0
          have g1 := g.c1
          have g2 := g.c2
          have g3 := g.c3
          have s := hO.out.below hb2 hO.out.lt
          have O2 := Lib.hid s
          have d0 := s.c16
          have d1 := s.c17
          clear hb2 g s
          go_wp2_with fail
          refine (HLV.out _).mono ?_
          rintro e w3 ⟨rfl, hb3⟩
          have b3 := Lib.hid (b2.out.trans (hb3.mono b2.out.size))
          have O3 := Lib.hid (O2.out.below hb3 O2.out.lt)
          have g := G2.out.below hb3 G2.out.lt
          have k0 := g.c0
          clear hb3 g g0 g1 g2 g3 d0 d1
          go_wp2
          go_roundw
          case rel => exact ⟨k + 1, no + 1, by omega, by go_num, by go_num, by omega, by omega, O3.out, b3.out, HF.out⟩
          case measure => simp [intOf]; omega
       ·rw [decide_eq_false h2] at hf
        simp only [Bool.and_false, Bool.false_and] at hf
        have HF := Lib.hid hf
        have t1 : ¬ no < m := by omega
        have t2 : 8 ≤ no := by omega
        clear hf
        go_wp2
        go_ret
        exact ⟨by rw [HF.out]; rfl, hbO.out⟩
      ·rw [decide_eq_false h1] at hf
       simp only [Bool.false_and] at hf
       have HF := Lib.hid hf
       have t1 : no < m := by omega
       clear hf
       go_wp2
       go_ret
       exact ⟨by rw [HF.out]; rfl, hbO.out⟩
     ·obtain rfl : k = len := by omega
      rw [List.drop_eq_nil_of_le (by rw [HL.out]; exact Nat.le_refl _), okFrom] at hf
      have HF := Lib.hid hf
      have HB2 := Lib.hid hb
      clear hf hb hs
      go_wp2
      go_ret
      exact ⟨by rw [HF.out]; rfl, HB2.out⟩
end
end
section
open Go.RowKit WM
def z16 : List Int := List.replicate 16 0
theorem z16_len : z16.length = 16 := rfl
theorem zeroRec (w : World) : (zeroValue 73).run Tryd.prog w = .ok (rv z16 0 0 (.slice none 0 0)) w := (zero_of_info (show (Tryd.prog.info? 73).map (fun i => (i.zero, i.size)) = some (some (rv z16 0 0 (.slice none 0 0)), 19) by kernel_rfl)).1 w
theorem list16 {z : List Int} (h : z.length = 16) : ∃ a b c d e f g i j k l m n o p q, z = [a, b, c, d, e, f, g, i, j, k, l, m, n, o, p, q] := by
 match z, h with
 | [a, b, c, d, e, f, g, i, j, k, l, m, n, o, p, q], _ => exact ⟨a, b, c, d, e, f, g, i, j, k, l, m, n, o, p, q, rfl⟩
theorem rcells_one {z : List Int} {n r : Int} {v : Value} (hv : v.oneCell' = true) : (rcells z n r v).all (·.oneCell') = true := by
 rw [Array.all_eq_true_iff_forall_mem]
 intro u hu
 simp only [rcells, List.mem_toArray, List.mem_append, List.mem_map, List.mem_cons, List.not_mem_nil, or_false] at hu
 rcases hu with ⟨x, _, rfl⟩ | rfl | rfl | rfl
 ·rfl
 ·rfl
 ·rfl
 ·exact hv
theorem size_rcells {z : List Int} (hz : z.length = 16) (n r : Int) (v : Value) : (Tryd.prog.info? 73).map (·.size) = some (rcells z n r v).size := by rw [rcells_size hz]; exact sizeRec
theorem RcAt.hp {w : World} {b : Nat} {z : List Int} {n r : Int} {v : Value} (h : RcAt w b z n r v) : w.heap[b]? = some (.cells (rcells z n r v) 73) := h.2
theorem exec_load_by {P : Program} {o : Oper} {ρ : Operand → Value} {w : World} (ty : TypeId) (x : Operand) (ho : o.op = .load ty x) (ad : Addr) (hx : ρ x = .pointer (some ad)) {v : Value} (hv : (loadVar ty ad).run P w = .ok v w) :
  (execOp ρ o).run P w = .ok (.value v) w := by
 unfold execOp
 simp only [ho, hx, Instr.loadAt, Instr.sureAddr, Sem.run_bind, Sem.run_pure, Result.andThen_ok, hv]
structure Rc where
 z : List Int
 n : Int
 r : Int
 fs : List Fld
def rc0 : Rc := ⟨z16, 0, 0, []⟩
def Rc.v (R : Rc) (A : Option Addr) (c : Nat) : Value := rv R.z R.n R.r (.slice A R.fs.length c)
def Rc.Ok (R : Rc) : Prop := R.z.length = 16 ∧ AllBytes R.z
def Rc.may (R : Rc) : Bool := rmay R.n R.r R.fs
theorem okFrom_len (n r : Int) : ∀ (fs : List Fld) (m : Int), okFrom n r m fs = true → 0 ≤ m → m ≤ 8 → (fs.length : Int) + m ≤ 8
 | [], m, _, _, h => by simpa using h
 | f :: fs, m, h, h0, h8 => by
  simp only [okFrom, Bool.and_eq_true, decide_eq_true_eq] at h
  have := okFrom_len n r fs (f.no + 1) h.2 (by omega) (by omega)
  simp only [List.length_cons]
  omega
theorem okFrom_all (n r : Int) : ∀ (fs : List Fld) (m : Int), okFrom n r m fs = true → 0 ≤ m → ∀ f ∈ fs, m ≤ f.no ∧ f.no < 8 ∧ cmay f.c = true ∧ stLess n r f.c.n f.c.r = true
 | [], _, _, _, f, hf => by cases hf
 | g :: fs, m, h, h0, f, hf => by
  simp only [okFrom, Bool.and_eq_true, decide_eq_true_eq] at h
  rcases List.mem_cons.1 hf with rfl | hf
  ·exact ⟨h.1.1.1.1, h.1.1.1.2, h.1.1.2, h.1.2⟩
  ·obtain ⟨h1, h2⟩ := okFrom_all n r fs (g.no + 1) h.2 (by omega) f hf
   exact ⟨by omega, h2⟩
theorem rmay_okFrom {n r : Int} {fs : List Fld} (h : rmay n r fs = true) : okFrom n r 0 fs = true := by
 simp only [rmay, Bool.and_eq_true] at h
 exact h.2
theorem rmay_len {n r : Int} {fs : List Fld} (h : rmay n r fs = true) : fs.length ≤ 8 := by
 have := okFrom_len n r fs 0 (rmay_okFrom h) (by omega) (by omega)
 omega
theorem rmay_all {n r : Int} {fs : List Fld} (h : rmay n r fs = true) : ∀ f ∈ fs, 0 ≤ f.no ∧ f.no < 8 ∧ cmay f.c = true ∧ stLess n r f.c.n f.c.r = true := okFrom_all n r fs 0 (rmay_okFrom h) (by omega)
end
section
section
open Go.RowKit Go.Shelf WM
set_option maxRecDepth 100000
attribute [local go_sem] Oper.semAt_some
end
section
open Go.RowKit Go.Shelf WM
theorem own_slice {W : World} {base k : Nat} {e : TypeId} {size : Nat} {v : Value} {xs : List Value} (h : W.ownsRow base e size v k xs) : ∃ A c, v = .slice A k c := by
 rcases h.2 with ⟨rfl, rfl⟩ | ⟨g, cap, cur, rfl, _⟩
 ·exact ⟨none, 0, rfl⟩
 ·exact ⟨_, cap, rfl⟩
theorem grownBy_setRow (W : World) (b : Nat) (cs : Array Value) : W.grownBy (W.setRow b cs) (some b) :=
 ⟨rfl, rfl, rfl, by simp, fun k _ hk => setRow_other W b k _ (fun e => hk (by rw [e]))⟩
end
section
open Go.RowKit Go.Shelf WM
set_option maxRecDepth 100000
attribute [local go_sem] Oper.semAt_some
end
section
open Go.RowKit WM
set_option maxRecDepth 100000
theorem putR (w : World) (c c' : Array Value) : (w.alloc (.cells c 73)).setRow w.heap.size c' = w.alloc (.cells c' 73) := World.setRow_alloc_new w _ _ _
theorem may_any' (a : Rc) (A : Option Addr) (c : Nat) (w : World) (ha : a.Ok) (h : FsAt w A c a.fs) : Calls Tryd.prog 43 #[a.v A c] w fun e w' => e = .returned (.bool a.may) ∧ Below w.heap.size w w' :=
 rmay_any a.z a.n a.r A a.fs.length c a.fs w ha.1 rfl h
end
end
section
section
open Go.RowKit WM
set_option maxRecDepth 20000
def cmpB : List Int → List Int → Int
 | [], [] => 0
 | [], _ :: _ => -1
 | _ :: _, [] => 1
 | a :: x, b :: y => if a < b then -1 else if b < a then 1 else cmpB x y
def toU (xs : List Int) : List UInt8 := xs.map fun z => z.toNat.toUInt8
theorem u8_lt {a b : Int} (ha : 0 ≤ a ∧ a ≤ 255) (hb : 0 ≤ b ∧ b ≤ 255) : (a.toNat.toUInt8 < b.toNat.toUInt8) ↔ a < b := by
 rw [UInt8.lt_iff_toNat_lt]
 have h1 : a.toNat.toUInt8.toNat = a.toNat := by simp [Nat.toUInt8, UInt8.toNat_ofNat']; omega
 have h2 : b.toNat.toUInt8.toNat = b.toNat := by simp [Nat.toUInt8, UInt8.toNat_ofNat']; omega
 rw [h1, h2]
 omega
theorem cmp_toU : ∀ {xs ys : List Int}, AllBytes xs → AllBytes ys → Lib.compareBytes (toU xs) (toU ys) = cmpB xs ys
 | [], [], _, _ => rfl
 | [], _ :: _, _, _ => rfl
 | _ :: _, [], _, _ => rfl
 | a :: x, b :: y, hx, hy => by
  have ha := hx a (by simp)
  have hb := hy b (by simp)
  have ih := cmp_toU (xs := x) (ys := y) (fun z hz => hx z (by simp [hz])) (fun z hz => hy z (by simp [hz]))
  show (if a.toNat.toUInt8 < b.toNat.toUInt8 then (-1 : Int) else if b.toNat.toUInt8 < a.toNat.toUInt8 then 1 else Lib.compareBytes (toU x) (toU y)) = _
  rw [ih, cmpB]
  simp only [u8_lt ha hb, u8_lt hb ha]
theorem cmpB_less : ∀ {xs ys : List Int}, decide (cmpB xs ys < 0) = lessL xs ys
 | [], [] => rfl
 | [], _ :: _ => rfl
 | _ :: _, [] => rfl
 | a :: x, b :: y => by
  rw [cmpB, lessL]
  by_cases h : a < b
  ·simp [h]
  ·rw [if_neg h]
   by_cases h2 : b < a
   ·rw [if_pos h2]
    have : (a == b) = false := by rw [beq_eq_false_iff_ne]; omega
    simp [h, this]
   ·rw [if_neg h2, cmpB_less]
    have : (a == b) = true := by rw [beq_iff_eq]; omega
    simp [h, this]
theorem loadBytes_row {w : World} : ∀ (xs : List Int) (b off : Nat) (acc : List UInt8), (∀ i, i < xs.length → w.cell? ⟨b, off + i, none⟩ = some (.int .u8 (xs.getD i 0))) →
  (Extern.Bytes.loadBytes ⟨b, off, none⟩ xs.length ⟨acc.toArray⟩).run Tryd.prog w = .ok ⟨(acc ++ toU xs).toArray⟩ w
 | [], b, off, acc, _ => by simp [Extern.Bytes.loadBytes, toU]
 | x :: xs, b, off, acc, h => by
  have h0 := h 0 (by simp)
  rw [Nat.add_zero] at h0
  have hr := loadBytes_row xs b (off + 1) (acc ++ [x.toNat.toUInt8]) (fun i hi => by
   have := h (i + 1) (by simp; omega)
   rw [show off + 1 + i = off + (i + 1) by omega]
   simpa using this)
  have e : (ByteArray.mk acc.toArray).push x.toNat.toUInt8 = ⟨(acc ++ [x.toNat.toUInt8]).toArray⟩ := by simp [ByteArray.push]
  have hl : (load ⟨b, off, none⟩).run Tryd.prog w = .ok (.int .u8 x) w := by
   rw [List.getD_cons_zero] at h0
   go_simp
  rw [List.length_cons, Extern.Bytes.loadBytes, Sem.run_bind, hl]
  simp only [Result.andThen, e, Addr.add_lit]
  rw [hr]
  simp [toU]
theorem run_compareBytes {w : World} {xs ys : List Int} {b1 o1 c1 b2 o2 c2 : Nat} (hx : AllBytes xs) (hy : AllBytes ys)
  (h1 : ∀ i, i < xs.length → w.cell? ⟨b1, o1 + i, none⟩ = some (.int .u8 (xs.getD i 0))) (h2 : ∀ i, i < ys.length → w.cell? ⟨b2, o2 + i, none⟩ = some (.int .u8 (ys.getD i 0))) :
  (Extern.BytealgCompare.compare #[.slice (some ⟨b1, o1, none⟩) xs.length c1, .slice (some ⟨b2, o2, none⟩) ys.length c2]).run Tryd.prog w = .ok (.int .i64 (cmpB xs ys)) w := by
 have l1 : (Extern.Bytes.bytesOf (.slice (some ⟨b1, o1, none⟩) xs.length c1)).run Tryd.prog w = .ok ⟨(toU xs).toArray⟩ w := loadBytes_row xs b1 o1 [] h1
 have l2 : (Extern.Bytes.bytesOf (.slice (some ⟨b2, o2, none⟩) ys.length c2)).run Tryd.prog w = .ok ⟨(toU ys).toArray⟩ w := loadBytes_row ys b2 o2 [] h2
 change Sem.run Tryd.prog (do pure (goInt (Extern.BytealgCompare.cmp (← Extern.Bytes.bytesOf (.slice (some ⟨b1, o1, none⟩) xs.length c1)) (← Extern.Bytes.bytesOf (.slice (some ⟨b2, o2, none⟩) ys.length c2))))) w = _
 simp only [Sem.run_bind, l1, l2, Sem.run_pure, Result.andThen, Lib.cmp_eq, cmp_toU hx hy]
 rfl
set_option maxHeartbeats 1000000 in
theorem bcompare_any {w : World} {xs ys : List Int} {n1 n2 b1 o1 c1 b2 o2 c2 : Nat} (hx : AllBytes xs) (hy : AllBytes ys) (l1 : xs.length = n1) (l2 : ys.length = n2)
  (h1 : ∀ i, i < xs.length → w.cell? ⟨b1, o1 + i, none⟩ = some (.int .u8 (xs.getD i 0))) (h2 : ∀ i, i < ys.length → w.cell? ⟨b2, o2 + i, none⟩ = some (.int .u8 (ys.getD i 0))) :
  Calls Tryd.prog 51 #[.slice (some ⟨b1, o1, none⟩) n1 c1, .slice (some ⟨b2, o2, none⟩) n2 c2] w fun e w' => e = .returned (.int .i64 (cmpB xs ys)) ∧ w' = w := by
 subst l1 l2
 have HR := run_compareBytes (c1 := c1) (c2 := c2) hx hy h1 h2
 generalize cmpB xs ys = r at HR ⊢
 generalize xs.length = n1 at *
 generalize ys.length = n2 at *
 clear hx hy h1 h2
 go_enter Tryd.func51, Tryd.ntmps51
 go_wp2
 rw [run_callFunc_extern Tryd.func68 (by kernel_rfl) (by kernel_rfl) (by kernel_rfl) (e := Extern.BytealgCompare.compare) (by kernel_rfl), HR]
 simp only [Result.andThen]
 rw [Oper.upon_value]
 go_wp2
 go_ret
 exact ⟨rfl, rfl⟩
def IdAt (w : World) (b : Nat) (z : List Int) : Prop := z.length = 16 ∧ w.heap[b]? = some (.cells (bvals z) 44)
theorem wpList_load_by16 {P : Program} {ops : Array Oper} {rest : List Oper} {o : Oper} {a : Act} {w : World} {Q : Exit → Act → World → Prop} (hw : Region.wanted o (yielded ops a.tmps) = true) (ty : TypeId) (x : Operand) (ho : o.op = .load ty x)
  (ad : Addr) (hx : a.eval x = .pointer (some ad)) (v : Value) (hv : (loadVar ty ad).run P w = .ok v w)
  (h : wpList P ops Q rest (a.put o.dst v) w) : wpList P ops Q (o :: rest) a w :=
 BigFrame.wpList_want hw fun _ hK => by
  unfold Oper.wp execOp
  simp only [ho, hx, Instr.loadAt, Instr.sureAddr, Sem.run_bind, Sem.run_pure, Result.andThen_ok, hv]
  exact hK _ _ h
theorem sizeID16 : (Tryd.prog.info? 44).map (·.size) = some 16 := by kernel_rfl
theorem load_arr16 {w : World} {b : Nat} {z : List Int} (h : IdAt w b z) : (loadVar 44 ⟨b, 0, none⟩).run Tryd.prog w = .ok (.agg (bvals z)) w :=
 run_loadVar_row w b 44 44 _ (0, 0) _ h.2 Tryd.underlying44 rfl (by rw [show (bvals z).size = 16 by simp [bvals, h.1]]; exact sizeID16)
theorem IdAt.cell {w : World} {b : Nat} {z : List Int} (h : IdAt w b z) : ∀ i, i < z.length → w.cell? ⟨b, 0 + i, none⟩ = some (.int .u8 (z.getD i 0)) := fun i hi => by
 rw [Nat.zero_add, cell_of_row _ _ _ _ _ _ h.2]
 simp [bvals, List.getD, List.getElem?_eq_getElem hi]
set_option maxHeartbeats 1000000 in
theorem compare_any (x y : List Int) (w : World) (hx : AllBytes x) (hy : AllBytes y) (lx : x.length = 16) (ly : y.length = 16) :
  Calls Tryd.prog 34 #[.agg (bvals x), .agg (bvals y)] w fun e w' => e = .returned (.int .i64 (cmpB x y)) ∧ ∃ q os, w' = Go.Sort.grow (w.drewN q) os := by
 have I1 : IdAt ((w.alloc (.cells (bvals x) 44)).alloc (.cells (bvals y) 44)) w.heap.size x := ⟨lx, by rw [Below.heap_alloc _ _ _ (by simp)]; exact heap_alloc_new w _⟩
 have I2 : IdAt ((w.alloc (.cells (bvals x) 44)).alloc (.cells (bvals y) 44)) (w.heap.size + 1) y := ⟨ly, by rw [← World.size_alloc w (.cells (bvals x) 44)]; exact heap_alloc_new _ _⟩
 have HC := Lib.hid (fun q => bcompare_any (w := ((w.alloc (.cells (bvals x) 44)).alloc (.cells (bvals y) 44)).drewN q) (c1 := 16) (c2 := 16) hx hy lx ly (fun i hi => I1.cell i hi) (fun i hi => I2.cell i hi))
 generalize cmpB x y = r at HC ⊢
 clear I1 I2 hx hy lx ly
 generalize bvals x = X at *
 generalize bvals y = Y at *
 go_enter Tryd.func34, Tryd.ntmps34
 go_wp2_with fail
 go_quiet (refine Calls.quiet_of_same (HC.out _))
 go_wp2
 go_ret
 exact ⟨rfl, _, _, by rw [Go.Sort.alloc_eq_grow, Go.Sort.alloc_eq_grow, Go.Sort.grow_grow]; rfl⟩
theorem below_grow {w : World} (q : Nat) (os : Array Obj) : Below w.heap.size w (Go.Sort.grow (w.drewN q) os) :=
 ⟨rfl, rfl, rfl, by rw [Go.Sort.size_grow]; exact Nat.le_add_right _ _, fun k hk => by
  show (w.heap ++ os)[k]? = w.heap[k]?
  rw [Array.getElem?_append_left hk]⟩
set_option maxHeartbeats 1000000 in
theorem bless_any (x y : List Int) (w : World) (hx : AllBytes x) (hy : AllBytes y) (lx : x.length = 16) (ly : y.length = 16) :
  Calls Tryd.prog 18 #[.agg (bvals x), .agg (bvals y)] w fun e w' => e = .returned (.bool (lessL x y)) ∧ Below w.heap.size w w' := by
 have I1 : IdAt ((w.alloc (.cells (bvals x) 44)).alloc (.cells (bvals y) 44)) w.heap.size x := ⟨lx, by rw [Below.heap_alloc _ _ _ (by simp)]; exact heap_alloc_new w _⟩
 have I2 : IdAt ((w.alloc (.cells (bvals x) 44)).alloc (.cells (bvals y) 44)) (w.heap.size + 1) y := ⟨ly, by rw [← World.size_alloc w (.cells (bvals x) 44)]; exact heap_alloc_new _ _⟩
 have L1 := Lib.hid (load_arr16 I1)
 have L2 := Lib.hid (load_arr16 I2)
 have HC := Lib.hid (compare_any x y ((w.alloc (.cells (bvals x) 44)).alloc (.cells (bvals y) 44)) hx hy lx ly)
 have HV := Lib.hid (cmpB_less (xs := x) (ys := y))
 have HB := Lib.hid (((Below.refl w.heap.size w).alloc (Nat.le_refl _) (.cells (bvals x) 44)).alloc (by simp) (.cells (bvals y) 44))
 generalize cmpB x y = r at HC HV
 generalize lessL x y = v at HV ⊢
 clear I1 I2 hx hy lx ly
 generalize bvals x = X at *
 generalize bvals y = Y at *
 go_enter Tryd.func18, Tryd.ntmps18
 go_wp2_with (first | ((with_reducible refine wpList_load_by16 (o := ⟨some 5, .load 44 (.tmp 2), _, _, _, _⟩) ?e1 44 (.tmp 2) ?e2 ⟨w.heap.size, 0, none⟩ ?e3 _ L1.out ?_); (case e1 => rfl); (case e2 => rfl); (case e3 => rfl)) | ((with_reducible refine wpList_load_by16 (o := ⟨some 6, .load 44 (.tmp 3), _, _, _, _⟩) ?e1 44 (.tmp 3) ?e2 ⟨(w.heap.size + 1), 0, none⟩ ?e3 _ L2.out ?_); (case e1 => rfl); (case e2 => rfl); (case e3 => rfl)))
 refine HC.out.mono ?_
 rintro e w1 ⟨rfl, q, os, rfl⟩
 have HB2 := Lib.hid (HB.out.trans ((below_grow q os).mono HB.out.size))
 generalize Go.Sort.grow _ os = w9 at HB2 ⊢
 go_wp2
 go_ret
 exact ⟨by rw [← HV.out]; rfl, HB2.out⟩
end
section
open Go.RowKit WM
set_option maxRecDepth 20000
structure RcA where
 R : Rc
 A : Option Addr
 c : Nat
def rcA0 : RcA := ⟨rc0, none, 0⟩
def RcA.s (x : RcA) : Value := .slice x.A x.R.fs.length x.c
def RcA.cells (x : RcA) : Array Value := rcells x.R.z x.R.n x.R.r x.s
def RcA.cs (x : RcA) : List Value := x.cells.toList
def RcA.v (x : RcA) : Value := .agg x.cells
def RvAt (w : World) (x : RcA) : Prop := x.R.Ok ∧ FsAt w x.A x.c x.R.fs
theorem RvAt.below {w w' : World} {B : Nat} {x : RcA} (h : RvAt w x) (hb : Below B w w') (hB : w.heap.size ≤ B) : RvAt w' x := ⟨h.1, h.2.below hb hB⟩
theorem RvAt.len {w : World} {x : RcA} (h : RvAt w x) : x.R.z.length = 16 := h.1.1
theorem cells_len {x : RcA} (h : x.R.z.length = 16) : x.cells.size = 19 := rcells_size h _ _ _
theorem cs_len {x : RcA} (h : x.R.z.length = 16) : x.cs.length = 19 := by rw [RcA.cs, Array.length_toList, cells_len h]
def RecAt (w : World) (b o : Nat) (x : RcA) : Prop := x.R.z.length = 16 ∧ ∀ j, j < 19 → w.cell? ⟨b, o + j, none⟩ = x.cs[j]?
theorem RecAt.of_row {w : World} {b : Nat} {x : RcA} {t : TypeId} (hz : x.R.z.length = 16) (h : w.heap[b]? = some (.cells x.cells t)) : RecAt w b 0 x := ⟨hz, fun j hj => by
 rw [Nat.zero_add, cell_of_row _ _ _ _ _ _ h, RcA.cs, Array.getElem?_toList]⟩
section
variable {w w' : World} {b o : Nat} {x : RcA}
theorem RecAt.same (h : RecAt w b o x) (hb : w'.heap[b]? = w.heap[b]?) : RecAt w' b o x := ⟨h.1, fun j hj => (World.cell?_of_block (a := ⟨b, o + j, none⟩) hb).trans (h.2 j hj)⟩
theorem RecAt.load (h : RecAt w b o x) : (loadVar 73 ⟨b, o, none⟩).run Tryd.prog w = .ok x.v w := by
 have hl : (loadCells ⟨b, o, none⟩ 19).run Tryd.prog w = .ok x.cells w := by
  have h1 := run_loadCells_list (P := Tryd.prog) w ⟨b, o, none⟩ x.cs (fun j u hu => by
   rw [Addr.add_lit, h.2 j (by have := (List.getElem?_eq_some_iff.1 hu).1; rw [cs_len h.1] at this; exact this)]
   exact hu)
  rw [cs_len h.1] at h1
  exact h1
 have hs := sizeRec
 cases hq : Tryd.prog.info? 73 with
 | none => simp [hq] at hs
 | some i =>
  have hs : i.size = 19 := by simpa [hq] using hs
  have hagg : (isAgg 73).run Tryd.prog w = .ok true w := by
   unfold isAgg
   rw [Sem.run_bind, run_underlying Tryd.underlying73 w]
   simp
  simp [loadVar, Sem.run_bind, hagg, sizeOf, typeInfo, hq, hs, hl, RcA.v]
theorem RecAt.cellz (h : RecAt w b o x) {j : Nat} (hj : j < 16) : w.cell? ⟨b, o + j, none⟩ = some (.int .u8 (x.R.z.getD j 0)) := by
 rw [h.2 j (by omega), RcA.cs, RcA.cells, rcells]
 rw [List.getElem?_append_left (by simp [h.1]; omega)]
 simp [List.getD, List.getElem?_eq_getElem (show j < x.R.z.length by rw [h.1]; exact hj)]
theorem RecAt.load_id (h : RecAt w b o x) : (loadVar 44 ⟨b, o, none⟩).run Tryd.prog w = .ok (.agg (bvals x.R.z)) w := by
 have hl : (loadCells ⟨b, o, none⟩ 16).run Tryd.prog w = .ok (bvals x.R.z) w := by
  have h1 := run_loadCells_list (P := Tryd.prog) w ⟨b, o, none⟩ (x.R.z.map (Value.int .u8)) (fun j u hu => by
   have hj : j < 16 := by have := (List.getElem?_eq_some_iff.1 hu).1; rw [List.length_map, h.1] at this; exact this
   rw [Addr.add_lit, h.cellz hj]
   rw [List.getElem?_map, List.getElem?_eq_getElem (show j < x.R.z.length by rw [h.1]; exact hj)] at hu
   simpa [List.getD, List.getElem?_eq_getElem (show j < x.R.z.length by rw [h.1]; exact hj)] using hu)
  rw [List.length_map, h.1] at h1
  exact h1
 have hs := sizeID
 cases hq : Tryd.prog.info? 44 with
 | none => simp [hq] at hs
 | some i =>
  have hs : i.size = 16 := by simpa [hq] using hs
  have hagg : (isAgg 44).run Tryd.prog w = .ok true w := by
   unfold isAgg
   rw [Sem.run_bind, run_underlying Tryd.underlying44 w]
   simp
  simp [loadVar, Sem.run_bind, hagg, sizeOf, typeInfo, hq, hs, hl]
end
def RsAt (w : World) (A : Option Addr) (c : Nat) (xs : List RcA) : Prop :=
 xs.length ≤ c ∧ c ≤ maxLen ∧ (A = none → c = 0) ∧
 (0 < xs.length → ∃ b off, A = some ⟨b, off, none⟩ ∧ b < w.heap.size ∧ ∀ i, i < xs.length → RecAt w b (off + i * 19) (xs.getD i rcA0)) ∧ ∀ x ∈ xs, RvAt w x
theorem RsAt.below {w w' : World} {B : Nat} {A : Option Addr} {c : Nat} {xs : List RcA} (h : RsAt w A c xs) (hb : Below B w w') (hB : w.heap.size ≤ B) : RsAt w' A c xs := by
 obtain ⟨h1, h2, h3, h4, h5⟩ := h
 refine ⟨h1, h2, h3, fun h0 => ?_, fun x hx => (h5 x hx).below hb hB⟩
 obtain ⟨b, off, rfl, hlt, hc⟩ := h4 h0
 exact ⟨b, off, rfl, Nat.lt_of_lt_of_le hlt hb.size, fun i hi => (hc i hi).same (hb.block b (Nat.lt_of_lt_of_le hlt hB))⟩
theorem RsAt.nil (w : World) (A : Option Addr) (c : Nat) (hc : c ≤ maxLen) (h : A = none → c = 0) : RsAt w A c [] := ⟨Nat.zero_le _, hc, h, fun h => absurd h (by simp), fun x hx => by cases hx⟩
theorem RsAt.rv {w : World} {A : Option Addr} {c : Nat} {xs : List RcA} (h : RsAt w A c xs) {i : Nat} (hi : i < xs.length) : RvAt w (xs.getD i rcA0) := by
 rw [List.getD_eq_getElem?_getD, List.getElem?_eq_getElem hi]
 exact h.2.2.2.2 _ (List.getElem_mem hi)
theorem sizeRecW (w : World) : (sizeOf 73).run Tryd.prog w = .ok 19 w := by
 simp [sizeOf, go_sem]
 rfl
theorem elemRec : Tryd.prog.elem 40 = 73 := by kernel_rfl
theorem ix_rec (b off len cap i : Nat) (h : i < len) (I : Int) (e : I = i) (w : World) : (Instr.indexAt 40 (.slice (some ⟨b, off, none⟩) len cap) (.int .i64 I)).run Tryd.prog w = .ok (.pointer (some ⟨b, off + i * 19, none⟩)) w := by
 subst e
 rw [run_indexAt_slice w 40 _ len cap .i64 i (by rw [elemRec]; exact Tryd.underlying40), if_pos (by omega), elemRec, sizeRecW]
 simp [Result.andThen, Addr.add_lit]
structure Bk where
 xs : List RcA
 A : Option Addr
 c : Nat
def bk0 : Bk := ⟨[], none, 0⟩
def Bk.s (b : Bk) : Value := .slice b.A b.xs.length b.c
def Bk.v (b : Bk) : Value := .agg #[b.s]
def Bk.rs (b : Bk) : List Rc := b.xs.map (·.R)
def BkAt (w : World) (b : Bk) : Prop := RsAt w b.A b.c b.xs
theorem BkAt.below {w w' : World} {B : Nat} {b : Bk} (h : BkAt w b) (hb : Below B w w') (hB : w.heap.size ≤ B) : BkAt w' b := RsAt.below h hb hB
theorem BkAt.zero (w : World) : BkAt w bk0 := RsAt.nil _ _ _ (by decide) (fun _ => rfl)
def BoAt (w : World) (p : Nat) (v : Value) : Prop := w.heap[p]? = some (.cells #[v] 42)
section
variable {w w' : World} {p B : Nat} {v : Value}
theorem BoAt.c0 (h : BoAt w p v) : w.cell? ⟨p, 0, none⟩ = some v := by rw [cell_of_row _ _ _ _ _ _ h]; rfl
theorem BoAt.lt (h : BoAt w p v) : p < w.heap.size := by
 rcases Nat.lt_or_ge p w.heap.size with h1 | h1
 ·exact h1
 ·unfold BoAt at h; rw [Array.getElem?_eq_none h1] at h; cases h
theorem BoAt.below (h : BoAt w p v) (hb : Below B w w') (hB : p < B) : BoAt w' p v := by unfold BoAt; rw [hb.block p hB]; exact h
theorem BoAt.new (w : World) (v : Value) : BoAt (w.alloc (.cells #[v] 42)) w.heap.size v := heap_alloc_new w _
theorem BoAt.old (h : BoAt w p v) (o : Obj) : BoAt (w.alloc o) p v := h.below ((Below.refl w.heap.size w).alloc (Nat.le_refl _) o) h.lt
theorem BoAt.load (h : BoAt w p v) : (loadVar 42 ⟨p, 0, none⟩).run Tryd.prog w = .ok (.agg #[v]) w :=
 run_loadVar_row w p 42 42 _ (0, 0) _ h Tryd.underlying42 rfl (show (Tryd.prog.info? 42).map (·.size) = some 1 by kernel_rfl)
end
theorem zeroBook (w : World) : (zeroValue 42).run Tryd.prog w = .ok bk0.v w := (zero_of_info (show (Tryd.prog.info? 42).map (fun i => (i.zero, i.size)) = some (some bk0.v, 1) by kernel_rfl)).1 w
end
end
end Go.Proofs.YtkjimhlpbgeagaaDoor
