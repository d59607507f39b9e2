import Derived.Test.YtbkopnpafmjicaaGreatDoorQ0
import Derived.Test.YtbkopnpafmjicaaGreatDoorQ13
import Derived.Test.YtbkopnpafmjicaaGreatDoorQ1
import Derived.Test.YtbkopnpafmjicaaGreatDoorQ16
import Derived.Test.YtbkopnpafmjicaaGreatDoorQ7
import Derived.Test.YtbkopnpafmjicaaGreatDoorQ11
import Derived.Test.YtbkopnpafmjicaaGreatDoorQ6
import Derived.Test.YtbkopnpafmjicaaGreatDoorQ8
import Derived.Test.YtbkopnpafmjicaaGreatDoorQ14
/-
  What the functions that a law of this layer reaches answer, part 17. Nothing that was there is written.
-/
namespace Go.Proofs.YtbkopnpafmjicaaGreatDoor
set_option linter.unusedVariables false
set_option linter.unusedSimpArgs false
section
section
open Go.RowKit WM
set_option maxRecDepth 20000
set_option maxHeartbeats 1000000 in
theorem rcmay_any (c : Cel) (w : World) : Calls Tryz.prog 91 #[c.v] w fun e w' => e = .returned (.bool (cmay c)) ∧ Below w.heap.size w w' := by
 have HC := Lib.hid (rdmay_any c.n c.r)
 have S0 := Lib.hid (ClAt.new w c)
 have HB := Lib.hid ((((Below.refl w.heap.size w).alloc (Nat.le_refl _) (.cells #[.int .i64 c.n, .int .i64 c.r, .string c.s] 62))))
 unfold Cel.v
 cases hm : may c.n c.r
 ·have HV := Lib.hid (show cmay c = false by simp [cmay, hm])
  rw [hm] at HC
  unfold st at HC
  clear hm
  go_enter Tryz.func91, Tryz.ntmps91
  go_wp2_with fail
  refine (HC.out _).mono ?_
  rintro e w1 ⟨rfl, hb1⟩
  have bw := Lib.hid (HB.out.trans (hb1.mono HB.out.size))
  clear hb1
  go_wp2
  go_ret
  exact ⟨by rw [HV.out]; rfl, bw.out⟩
 ·rw [hm] at HC
  have hmay := may_iff.1 hm
  by_cases h0 : 1 ≤ c.n
  ·have t1 : 0 < c.n := by omega
   have HV := Lib.hid (show cmay c = decide ((c.s.size : Int) ≤ 200) by simp [cmay, hm, h0]; omega)
   unfold st at HC
   clear hm hmay
   go_enter Tryz.func91, Tryz.ntmps91
   go_wp2_with fail
   refine (HC.out _).mono ?_
   rintro e w1 ⟨rfl, hb1⟩
   have bw := Lib.hid (HB.out.trans (hb1.mono HB.out.size))
   have s0 := S0.out.below hb1 S0.out.lt
   have a0 := s0.c0
   have a1 := s0.c1
   have a2 := s0.c2
   clear hb1 s0
   go_wp2
   go_ret
   exact ⟨by rw [HV.out]; rfl, bw.out⟩
  ·have t1 : ¬ 0 < c.n := by omega
   have HV := Lib.hid (show cmay c = false by simp [cmay, h0])
   unfold st at HC
   clear hm hmay h0
   go_enter Tryz.func91, Tryz.ntmps91
   go_wp2_with fail
   refine (HC.out _).mono ?_
   rintro e w1 ⟨rfl, hb1⟩
   have bw := Lib.hid (HB.out.trans (hb1.mono HB.out.size))
   have s0 := S0.out.below hb1 S0.out.lt
   have a0 := s0.c0
   have a1 := s0.c1
   have a2 := s0.c2
   clear hb1 s0
   go_wp2
   go_ret
   exact ⟨by rw [HV.out]; rfl, bw.out⟩
end
section
open Go.RowKit WM
set_option maxRecDepth 20000
end
end
section
section
open Go.RowKit WM
set_option maxRecDepth 100000
end
section
open Go.RowKit WM
set_option maxRecDepth 100000
end
section
open Go.RowKit WM
set_option maxRecDepth 100000
theorem build_st0 (w : World) : (Instr.build 40 #[]).run Tryz.prog w = .ok (.agg #[.int .i64 0, .int .i64 0]) w := run_build w _ _ _ (by kernel_rfl)
theorem same_pairM {n r : Int} (w : World) : (Op.equalIn 10000 40 (.agg #[.int .i64 n, .int .i64 r]) (.agg #[.int .i64 n, .int .i64 r])).run Tryz.prog w = .ok true w := by rw [same_pair]; simp
set_option maxHeartbeats 4000000 in
theorem rrmay_any (z : List Int) (n r : Int) (A : Option Addr) (len c : Nat) (fs : List Fld) (w : World) (hz : z.length = 16) (hl : fs.length = len) (hln : len ≤ 1000) (h : FsAt w A c fs) :
  Calls Tryz.prog 67 #[rv z n r (.slice A len c)] w (MayPost w (rmay n r fs)) := by
 obtain ⟨hc1, hc2, hc3, hcell⟩ := h
 simp only [maxLen] at hc2
 have HL := Lib.hid hl
 have HC := Lib.hid hcell
 have S0 := Lib.hid (RcAt.new w hz n r (.slice A len c))
 have HB := Lib.hid ((Below.refl w.heap.size w).alloc (Nat.le_refl _) (.cells (rcells z n r (.slice A len c)) 58))
 have HM0 := Lib.hid (rdmay_any n r)
 have hlen : len ≤ c := by omega
 have s0 := S0.out.c16
 have s1 := S0.out.c17
 have hbs := build_st0
 clear hcell hc1 hl
 unfold rv
 unfold st at HM0
 cases hm : may n r
 ·have HV := Lib.hid (show rmay n r fs = false by simp [rmay, hm])
  rw [hm] at HM0
  clear hm
  go_enter Tryz.func67, Tryz.ntmps67
  go_wp2_with fail
  refine (HM0.out _).mono ?_
  rintro e w1 ⟨rfl, hb1⟩
  have s2 := S0.out.below hb1 S0.out.lt
  have d0 := s2.c16
  have d1 := s2.c17
  have d2 := s2.c18
  have bw := Lib.hid (HB.out.trans (hb1.mono HB.out.size))
  have S2 := Lib.hid s2
  clear hb1 s2
  go_wp2
  go_ret
  exact ⟨by rw [HV.out]; rfl, bw.out⟩
 ·rw [hm] at HM0
  by_cases h0 : len = 0 ∧ n = 0 ∧ r = 0
  ·obtain ⟨rfl, rfl, rfl⟩ := h0
   have HV := Lib.hid (show rmay 0 0 fs = false by simp [rmay, hm, HL.out])
   have sp := fun w9 => (same_pairM (n := 0) (r := 0) w9)
   clear hm
   go_enter Tryz.func67, Tryz.ntmps67
   go_wp2_with fail
   refine (HM0.out _).mono ?_
   rintro e w1 ⟨rfl, hb1⟩
   have s2 := S0.out.below hb1 S0.out.lt
   have d0 := s2.c16
   have d1 := s2.c17
   have d2 := s2.c18
   have bw := Lib.hid (HB.out.trans (hb1.mono HB.out.size))
   have S2 := Lib.hid s2
   clear hb1 s2
   go_wp2
   go_ret
   exact ⟨by rw [HV.out]; rfl, bw.out⟩
  ·have HV2 := Lib.hid (show rmay n r fs = okFrom n r 0 (fs.drop 0) by
    simp only [rmay, hm, HL.out, Bool.true_and, List.drop_zero]
    have : (decide (len = 0) && decide (n = 0) && decide (r = 0)) = false := by
     simp only [Bool.and_eq_false_iff, decide_eq_false_iff_not]
     omega
    rw [this]
    rfl)
   generalize rmay n r fs = V at *
   by_cases hl0 : len = 0
   ·subst hl0
    have hne := st_ne (n := n) (r := r) (m := 0) (s := 0) (by omega)
    clear hm h0
    go_enter Tryz.func67, Tryz.ntmps67
    go_wp2_with fail
    refine (HM0.out _).mono ?_
    rintro e w1 ⟨rfl, hb1⟩
    have s2 := S0.out.below hb1 S0.out.lt
    have d0 := s2.c16
    have d1 := s2.c17
    have d2 := s2.c18
    have bw := Lib.hid (HB.out.trans (hb1.mono HB.out.size))
    have S2 := Lib.hid s2
    clear hb1 s2
    go_wp2
    clear d0 d1 d2 s0 s1
    go_loopw [4, 5] (fun v i wr => ∃ (k : Nat) (m : Int), k ≤ 0 ∧ i = .int .i64 k ∧ v = .int .i64 (m - 1) ∧ 0 ≤ m ∧ m ≤ 8 ∧ RcAt wr w.heap.size z n r (.slice A 0 c) ∧ Below w.heap.size w wr ∧ V = okFrom n r m (fs.drop k)) (fun _ i _ => 0 - (intOf i).toNat)
    case atStart => exact ⟨0, 0, Nat.zero_le _, rfl, rfl, by omega, by omega, S2.out, bw.out, HV2.out⟩
    case round =>
     obtain ⟨k, m, hk, rfl, rfl, hm0, hm8, hr, hb, hf⟩ := hrel
     have d18 := hr.c18
     by_cases hlt : k < 0
     ·exact absurd hlt (by omega)
     ·have t1 : ¬ (k : Int) < (0 : Int) := by omega
      obtain rfl : k = 0 := by omega
      rw [List.drop_eq_nil_of_le (by rw [HL.out]; exact Nat.le_refl _), okFrom] at hf
      have HF := Lib.hid hf
      have HB := Lib.hid hb
      clear hf hb hr
      go_wp2
      go_ret
      exact ⟨by rw [HF.out]; rfl, HB.out⟩
   ·have hln0 : ¬ (len : Int) = 0 := by omega
    clear hm h0
    go_enter Tryz.func67, Tryz.ntmps67
    go_wp2_with fail
    refine (HM0.out _).mono ?_
    rintro e w1 ⟨rfl, hb1⟩
    have s2 := S0.out.below hb1 S0.out.lt
    have d0 := s2.c16
    have d1 := s2.c17
    have d2 := s2.c18
    have bw := Lib.hid (HB.out.trans (hb1.mono HB.out.size))
    have S2 := Lib.hid s2
    clear hb1 s2
    go_wp2
    clear d0 d1 d2 s0 s1
    go_loopw [4, 5] (fun v i wr => ∃ (k : Nat) (m : Int), k ≤ len ∧ i = .int .i64 k ∧ v = .int .i64 (m - 1) ∧ 0 ≤ m ∧ m ≤ 8 ∧ RcAt wr w.heap.size z n r (.slice A len c) ∧ Below w.heap.size w wr ∧ V = okFrom n r m (fs.drop k)) (fun _ i _ => len - (intOf i).toNat)
    case atStart => exact ⟨0, 0, Nat.zero_le _, rfl, rfl, by omega, by omega, S2.out, bw.out, HV2.out⟩
    case round =>
     obtain ⟨k, m, hk, rfl, rfl, hm0, hm8, hr, hb, hf⟩ := hrel
     have d18 := hr.c18
     by_cases hlt : k < len
     ·have t1 : (k : Int) < (len : Int) := by omega
      obtain ⟨b, off, hA, hbB, hcc⟩ := HC.out (by rw [HL.out]; omega)
      obtain ⟨c0, c1, c2, c3⟩ := hcc k (by rw [HL.out]; exact hlt)
      have c0 := (hb.cell (p := ⟨b, off + k * 4, none⟩) hbB).trans c0
      have c1 := (hb.cell (p := ⟨b, off + k * 4 + 1, none⟩) hbB).trans c1
      have c2 := (hb.cell (p := ⟨b, off + k * 4 + 2, none⟩) hbB).trans c2
      have c3 := (hb.cell (p := ⟨b, off + k * 4 + 3, none⟩) hbB).trans c3
      have IX := ix_fld b off len c k hlt k rfl
      rw [← hA] at IX
      rw [okFrom_drop n r m (by rw [HL.out]; exact hlt)] at hf
      generalize fs.getD k fld0 = f at c0 c1 c2 c3 hf
      generalize off + k * 4 = o at c0 c1 c2 c3 IX
      clear hcc hA
      have F1 := Lib.hid (FlAt.new wr f)
      have R1 := Lib.hid (hr.old (.cells #[.int .i64 f.no, .int .i64 f.c.n, .int .i64 f.c.r, .string f.c.s] 80))
      have B1 := Lib.hid (hb.alloc hb.size (.cells #[.int .i64 f.no, .int .i64 f.c.n, .int .i64 f.c.r, .string f.c.s] 80))
      have f1 := F1.out.c1
      have f2 := F1.out.c2
      have f3 := F1.out.c3
      have HM := Lib.hid (rcmay_any f.c (wr.alloc (.cells #[.int .i64 f.no, .int .i64 f.c.n, .int .i64 f.c.r, .string f.c.s] 80)))
      unfold Cel.v at HM
      have HS := Lib.hid (rless_any n r f.c.n f.c.r)
      unfold st at HS
      clear hr hb
      cases hcm : cmay f.c
      ·rw [hcm] at HM hf
       have HF := Lib.hid (show V = false by rw [hf]; simp)
       clear hf hcm
       go_wp2_with fail
       refine HM.out.mono ?_
       rintro e w2 ⟨rfl, hb2⟩
       have R2 := R1.out.below hb2 R1.out.lt
       have F2 := F1.out.below hb2 F1.out.lt
       have B2 := B1.out.trans (hb2.mono B1.out.size)
       have r16 := R2.c16
       have r17 := R2.c17
       have g1 := F2.c1
       have g2 := F2.c2
       have HR2 := Lib.hid R2
       have HF2 := Lib.hid F2
       have HB2 := Lib.hid B2
       clear hb2 R2 F2 B2
       go_wp2_with fail
       refine (HS.out w2).mono ?_
       rintro e w3 ⟨rfl, hb3⟩
       have F3 := HF2.out.below hb3 HF2.out.lt
       have g0 := F3.c0
       have HR3 := Lib.hid (HR2.out.below hb3 HR2.out.lt)
       have HB3 := Lib.hid (HB2.out.trans (hb3.mono HB2.out.size))
       clear hb3 F3 r16 r17 g1 g2
       go_wp2
       go_ret
       exact ⟨by rw [HF.out]; rfl, HB3.out⟩
      ·rw [hcm] at HM hf
       cases hsl : stLess n r f.c.n f.c.r
       ·rw [hsl] at HS hf
        have HF := Lib.hid (show V = false by rw [hf]; simp)
        clear hf hcm hsl
        go_wp2_with fail
        refine HM.out.mono ?_
        rintro e w2 ⟨rfl, hb2⟩
        have R2 := R1.out.below hb2 R1.out.lt
        have F2 := F1.out.below hb2 F1.out.lt
        have B2 := B1.out.trans (hb2.mono B1.out.size)
        have r16 := R2.c16
        have r17 := R2.c17
        have g1 := F2.c1
        have g2 := F2.c2
        have HR2 := Lib.hid R2
        have HF2 := Lib.hid F2
        have HB2 := Lib.hid B2
        clear hb2 R2 F2 B2
        go_wp2_with fail
        refine (HS.out w2).mono ?_
        rintro e w3 ⟨rfl, hb3⟩
        have F3 := HF2.out.below hb3 HF2.out.lt
        have g0 := F3.c0
        have HR3 := Lib.hid (HR2.out.below hb3 HR2.out.lt)
        have HB3 := Lib.hid (HB2.out.trans (hb3.mono HB2.out.size))
        clear hb3 F3 r16 r17 g1 g2
        go_wp2
        go_ret
        exact ⟨by rw [HF.out]; rfl, HB3.out⟩
       ·rw [hsl] at HS hf
        by_cases h1 : m ≤ f.no
        ·have t2 : ¬ f.no ≤ m - 1 := by omega
         by_cases h2 : f.no < 8
         ·have t3 : ¬ 8 ≤ f.no := by omega
          have HF := Lib.hid (show V = okFrom n r (f.no + 1) (fs.drop (k + 1)) by rw [hf]; simp [h1, h2])
          clear hf hcm hsl
          go_wp2_with fail
          refine HM.out.mono ?_
          rintro e w2 ⟨rfl, hb2⟩
          have R2 := R1.out.below hb2 R1.out.lt
          have F2 := F1.out.below hb2 F1.out.lt
          have B2 := B1.out.trans (hb2.mono B1.out.size)
          have r16 := R2.c16
          have r17 := R2.c17
          have g1 := F2.c1
          have g2 := F2.c2
          have HR2 := Lib.hid R2
          have HF2 := Lib.hid F2
          have HB2 := Lib.hid B2
          clear hb2 R2 F2 B2
          go_wp2_with fail
          refine (HS.out w2).mono ?_
          rintro e w3 ⟨rfl, hb3⟩
          have F3 := HF2.out.below hb3 HF2.out.lt
          have g0 := F3.c0
          have HR3 := Lib.hid (HR2.out.below hb3 HR2.out.lt)
          have HB3 := Lib.hid (HB2.out.trans (hb3.mono HB2.out.size))
          clear hb3 F3 r16 r17 g1 g2
          go_wp2
          go_roundw
          case rel => exact ⟨k + 1, f.no + 1, by omega, by go_num, by rw [show f.no + 1 - 1 = f.no by omega], by omega, by omega, HR3.out, HB3.out, HF.out⟩
          case measure => simp [intOf]; omega
         ·have t3 : 8 ≤ f.no := by omega
          have HF := Lib.hid (show V = false by rw [hf]; simp [h2])
          clear hf hcm hsl
          go_wp2_with fail
          refine HM.out.mono ?_
          rintro e w2 ⟨rfl, hb2⟩
          have R2 := R1.out.below hb2 R1.out.lt
          have F2 := F1.out.below hb2 F1.out.lt
          have B2 := B1.out.trans (hb2.mono B1.out.size)
          have r16 := R2.c16
          have r17 := R2.c17
          have g1 := F2.c1
          have g2 := F2.c2
          have HR2 := Lib.hid R2
          have HF2 := Lib.hid F2
          have HB2 := Lib.hid B2
          clear hb2 R2 F2 B2
          go_wp2_with fail
          refine (HS.out w2).mono ?_
          rintro e w3 ⟨rfl, hb3⟩
          have F3 := HF2.out.below hb3 HF2.out.lt
          have g0 := F3.c0
          have HR3 := Lib.hid (HR2.out.below hb3 HR2.out.lt)
          have HB3 := Lib.hid (HB2.out.trans (hb3.mono HB2.out.size))
          clear hb3 F3 r16 r17 g1 g2
          go_wp2
          go_ret
          exact ⟨by rw [HF.out]; rfl, HB3.out⟩
        ·have t2 : f.no ≤ m - 1 := by omega
         have HF := Lib.hid (show V = false by rw [hf]; simp [h1])
         clear hf hcm hsl
         go_wp2_with fail
         refine HM.out.mono ?_
         rintro e w2 ⟨rfl, hb2⟩
         have R2 := R1.out.below hb2 R1.out.lt
         have F2 := F1.out.below hb2 F1.out.lt
         have B2 := B1.out.trans (hb2.mono B1.out.size)
         have r16 := R2.c16
         have r17 := R2.c17
         have g1 := F2.c1
         have g2 := F2.c2
         have HR2 := Lib.hid R2
         have HF2 := Lib.hid F2
         have HB2 := Lib.hid B2
         clear hb2 R2 F2 B2
         go_wp2_with fail
         refine (HS.out w2).mono ?_
         rintro e w3 ⟨rfl, hb3⟩
         have F3 := HF2.out.below hb3 HF2.out.lt
         have g0 := F3.c0
         have HR3 := Lib.hid (HR2.out.below hb3 HR2.out.lt)
         have HB3 := Lib.hid (HB2.out.trans (hb3.mono HB2.out.size))
         clear hb3 F3 r16 r17 g1 g2
         go_wp2
         go_ret
         exact ⟨by rw [HF.out]; rfl, HB3.out⟩
     ·have t1 : ¬ (k : Int) < (len : Int) := by omega
      obtain rfl : k = len := by omega
      rw [List.drop_eq_nil_of_le (by rw [HL.out]; exact Nat.le_refl _), okFrom] at hf
      have HF := Lib.hid hf
      have HB := Lib.hid hb
      clear hf hb hr
      go_wp2
      go_ret
      exact ⟨by rw [HF.out]; rfl, HB.out⟩
end
end
section
open Go.RowKit WM
set_option maxRecDepth 100000
theorem bsame_drop {xs ys : List RcA} {k : Nat} (h1 : k < xs.length) (h2 : k < ys.length) : bsame ((xs.drop k).map (·.R)) ((ys.drop k).map (·.R)) =
  ((xs.getD k rcA0).R.same (ys.getD k rcA0).R && bsame ((xs.drop (k + 1)).map (·.R)) ((ys.drop (k + 1)).map (·.R))) := by
 rw [List.drop_eq_getElem_cons h1, List.drop_eq_getElem_cons h2, List.map_cons, List.map_cons, bsame]
 simp only [List.getD, List.getElem?_eq_getElem h1, List.getElem?_eq_getElem h2, Option.getD_some]
set_option maxHeartbeats 4000000 in
theorem beqf_any (A1 A2 : Option Addr) (len1 len2 c1 c2 : Nat) (xs ys : List RcA) (w : World) (hl1 : xs.length = len1) (hl2 : ys.length = len2) (h1 : RsAt w A1 c1 xs) (h2 : RsAt w A2 c2 ys) :
  Calls Tryz.prog 57 #[.slice A1 len1 c1, .slice A2 len2 c2, .func (.func 58) #[] #[]] w fun e w' => e = .returned (.bool (bsame (xs.map (·.R)) (ys.map (·.R)))) ∧ Below w.heap.size w w' := by
 have HR1 := Lib.hid (fun i (hi : i < xs.length) => RsAt.rv h1 hi)
 have HR2 := Lib.hid (fun i (hi : i < ys.length) => RsAt.rv h2 hi)
 obtain ⟨hc1, hm1, hn1, hcell1, _⟩ := h1
 obtain ⟨hc2, hm2, hn2, hcell2, _⟩ := h2
 simp only [maxLen] at hm1 hm2
 have HL1 := Lib.hid hl1
 have HC1 := Lib.hid hcell1
 have HL2 := Lib.hid hl2
 have HC2 := Lib.hid hcell2
 have hlen1 : len1 ≤ c1 := by omega
 have hlen2 : len2 ≤ c2 := by omega
 have hz := zeroX
 clear hcell1 hcell2 hc1 hc2 hl1 hl2 hn1 hn2
 by_cases hl : len1 = len2
 ·subst hl
  have HV := Lib.hid (show bsame (xs.map (·.R)) (ys.map (·.R)) = bsame ((xs.drop 0).map (·.R)) ((ys.drop 0).map (·.R)) by rw [List.drop_zero, List.drop_zero])
  have HB0 := Lib.hid (Below.refl w.heap.size w)
  generalize bsame (xs.map (·.R)) (ys.map (·.R)) = V at HV ⊢
  go_enter Tryz.func57, Tryz.ntmps57
  go_wp2
  go_loopw [17] (fun i wr => ∃ k : Nat, k ≤ len1 ∧ i = .int .i64 k ∧ Below w.heap.size w wr ∧ V = bsame ((xs.drop k).map (·.R)) ((ys.drop k).map (·.R))) (fun i _ => len1 - (intOf i).toNat)
  case atStart => exact ⟨0, Nat.zero_le _, rfl, HB0.out, HV.out⟩
  case round =>
   obtain ⟨k, hk, rfl, hb, hf⟩ := hrel
   by_cases hlt : k < len1
   ·obtain ⟨b1, off1, rfl, hB1, hcc1⟩ := HC1.out (by rw [HL1.out]; omega)
    obtain ⟨b2, off2, rfl, hB2, hcc2⟩ := HC2.out (by rw [HL2.out]; omega)
    have hx := (hcc1 k (by rw [HL1.out]; exact hlt)).same (hb.block b1 hB1)
    have hy := (hcc2 k (by rw [HL2.out]; exact hlt)).same (hb.block b2 hB2)
    have IX1 := ix_rec b1 off1 len1 c1 k hlt k rfl
    have IX2 := ix_rec b2 off2 len1 c2 k hlt k rfl
    have hvx := (HR1.out k (by rw [HL1.out]; exact hlt)).below hb (Nat.le_refl _)
    have hvy := (HR2.out k (by rw [HL2.out]; exact hlt)).below hb (Nat.le_refl _)
    have hdr := bsame_drop (xs := xs) (ys := ys) (k := k) (by rw [HL1.out]; exact hlt) (by rw [HL2.out]; exact hlt)
    have hB2 := Nat.lt_of_lt_of_le hB2 hb.size
    rw [hdr] at hf
    generalize xs.getD k rcA0 = x at *
    generalize ys.getD k rcA0 = y at *
    generalize off1 + k * 19 = o1 at *
    generalize off2 + k * 19 = o2 at *
    have LX := Lib.hid hx.load
    have HY := Lib.hid hy
    have HVX := Lib.hid hvx
    have HVY := Lib.hid hvy
    have ZX := Lib.hid hvx.len
    have ZY := Lib.hid hvy.len
    have HBB := Lib.hid hb
    clear hcc1 hcc2 hx hy hvx hvy hdr hb
    cases hs : x.R.same y.R
    ·rw [hs, Bool.false_and] at hf
     have HS := Lib.hid hs
     have HF := Lib.hid hf
     clear hs hf
     go_wp2_with (first | ((with_reducible refine wpList_load_by (o := ⟨some 21, .load 58 (.tmp 20), _, _, _, _⟩) ?e1 58 (.tmp 20) ?e2 ⟨b1, o1, none⟩ ?e3 _ LX.out ?_); (case e1 => rfl); (case e2 => rfl); (case e3 => rfl)) | ((with_reducible refine wpList_store_newx (o := ⟨none, .store 58 (.tmp 8) (.tmp 21), _, _, _, _⟩) (w := wr) ?e1 (.tmp 8) (.tmp 21) ?e2 wr.heap.size ?e0 ?e3 x ?e4 ZX.out ?_); (case e1 => rfl); (case e2 => rfl); (case e0 => rfl); (case e3 => rfl); (case e4 => rfl); intro w2 hb2 hx2 hs2; have X2 := Lib.hid hx2; have HW2 := Lib.hid hb2; have LY := Lib.hid (HY.out.same (hb2.block b2 hB2)).load; clear hx2 hb2 hs2) | ((with_reducible refine wpList_load_by (o := ⟨some 25, .load 58 (.tmp 24), _, _, _, _⟩) ?e1 58 (.tmp 24) ?e2 ⟨b2, o2, none⟩ ?e3 _ LY.out ?_); (case e1 => rfl); (case e2 => rfl); (case e3 => rfl)) | ((with_reducible refine wpList_store_newx (o := ⟨none, .store 58 (.tmp 9) (.tmp 25), _, _, _, _⟩) (w := w2) ?e1 (.tmp 9) (.tmp 25) ?e2 w2.heap.size ?e0 ?e3 y ?e4 ZY.out ?_); (case e1 => rfl); (case e2 => rfl); (case e0 => rfl); (case e3 => rfl); (case e4 => rfl); intro w3 hb3 hy3 hs3; have HB3 := Lib.hid (HW2.out.trans (hb3.mono HW2.out.size)); have L27 := Lib.hid (X2.out.below hb3 X2.out.lt).load; have L28 := Lib.hid hy3.load; have HC := Lib.hid (xsame_any x y w3 (HVX.out.below HB3.out (Nat.le_refl _)) (HVY.out.below HB3.out (Nat.le_refl _))); rw [HS.out] at HC; clear hb3 hy3 hs3) | ((with_reducible refine wpList_load_by (o := ⟨some 27, .load 58 (.tmp 8), _, _, _, _⟩) ?e1 58 (.tmp 8) ?e2 ⟨wr.heap.size, 0, none⟩ ?e3 _ L27.out ?_); (case e1 => rfl); (case e2 => rfl); (case e3 => rfl)) | ((with_reducible refine wpList_load_by (o := ⟨some 28, .load 58 (.tmp 9), _, _, _, _⟩) ?e1 58 (.tmp 9) ?e2 ⟨w2.heap.size, 0, none⟩ ?e3 _ L28.out ?_); (case e1 => rfl); (case e2 => rfl); (case e3 => rfl)))
     refine HC.out.mono ?_
     rintro e w4 ⟨rfl, hb4⟩
     have B4 := Lib.hid (HBB.out.trans ((HB3.out.trans (hb4.mono HB3.out.size)).mono HBB.out.size))
     clear hb4
     go_wp2
     go_ret
     exact ⟨by rw [HF.out]; rfl, B4.out⟩
    ·rw [hs, Bool.true_and] at hf
     have HS := Lib.hid hs
     have HF := Lib.hid hf
     clear hs hf
     go_wp2_with (first | ((with_reducible refine wpList_load_by (o := ⟨some 21, .load 58 (.tmp 20), _, _, _, _⟩) ?e1 58 (.tmp 20) ?e2 ⟨b1, o1, none⟩ ?e3 _ LX.out ?_); (case e1 => rfl); (case e2 => rfl); (case e3 => rfl)) | ((with_reducible refine wpList_store_newx (o := ⟨none, .store 58 (.tmp 8) (.tmp 21), _, _, _, _⟩) (w := wr) ?e1 (.tmp 8) (.tmp 21) ?e2 wr.heap.size ?e0 ?e3 x ?e4 ZX.out ?_); (case e1 => rfl); (case e2 => rfl); (case e0 => rfl); (case e3 => rfl); (case e4 => rfl); intro w2 hb2 hx2 hs2; have X2 := Lib.hid hx2; have HW2 := Lib.hid hb2; have LY := Lib.hid (HY.out.same (hb2.block b2 hB2)).load; clear hx2 hb2 hs2) | ((with_reducible refine wpList_load_by (o := ⟨some 25, .load 58 (.tmp 24), _, _, _, _⟩) ?e1 58 (.tmp 24) ?e2 ⟨b2, o2, none⟩ ?e3 _ LY.out ?_); (case e1 => rfl); (case e2 => rfl); (case e3 => rfl)) | ((with_reducible refine wpList_store_newx (o := ⟨none, .store 58 (.tmp 9) (.tmp 25), _, _, _, _⟩) (w := w2) ?e1 (.tmp 9) (.tmp 25) ?e2 w2.heap.size ?e0 ?e3 y ?e4 ZY.out ?_); (case e1 => rfl); (case e2 => rfl); (case e0 => rfl); (case e3 => rfl); (case e4 => rfl); intro w3 hb3 hy3 hs3; have HB3 := Lib.hid (HW2.out.trans (hb3.mono HW2.out.size)); have L27 := Lib.hid (X2.out.below hb3 X2.out.lt).load; have L28 := Lib.hid hy3.load; have HC := Lib.hid (xsame_any x y w3 (HVX.out.below HB3.out (Nat.le_refl _)) (HVY.out.below HB3.out (Nat.le_refl _))); rw [HS.out] at HC; clear hb3 hy3 hs3) | ((with_reducible refine wpList_load_by (o := ⟨some 27, .load 58 (.tmp 8), _, _, _, _⟩) ?e1 58 (.tmp 8) ?e2 ⟨wr.heap.size, 0, none⟩ ?e3 _ L27.out ?_); (case e1 => rfl); (case e2 => rfl); (case e3 => rfl)) | ((with_reducible refine wpList_load_by (o := ⟨some 28, .load 58 (.tmp 9), _, _, _, _⟩) ?e1 58 (.tmp 9) ?e2 ⟨w2.heap.size, 0, none⟩ ?e3 _ L28.out ?_); (case e1 => rfl); (case e2 => rfl); (case e3 => rfl)))
     refine HC.out.mono ?_
     rintro e w4 ⟨rfl, hb4⟩
     have B4 := Lib.hid (HBB.out.trans ((HB3.out.trans (hb4.mono HB3.out.size)).mono HBB.out.size))
     clear hb4
     go_wp2
     go_roundw
     case rel => exact ⟨k + 1, by omega, by go_num, B4.out, HF.out⟩
     case measure => simp [intOf]; omega
   ·obtain rfl : k = len1 := by omega
    rw [List.drop_eq_nil_of_le (by rw [HL1.out]; exact Nat.le_refl _), List.drop_eq_nil_of_le (by rw [HL2.out]; exact Nat.le_refl _)] at hf
    have HF := Lib.hid hf
    have HB := Lib.hid hb
    clear hf hb
    go_wp2
    go_ret
    exact ⟨by rw [HF.out]; rfl, HB.out⟩
 ·have HF := Lib.hid (show bsame (xs.map (·.R)) (ys.map (·.R)) = false by
   cases h : bsame (xs.map (·.R)) (ys.map (·.R)) with
   | false => rfl
   | true =>
    have h2 := congrArg List.length (bsame_iff.1 h)
    rw [List.length_map, List.length_map, HL1.out, HL2.out] at h2
    exact absurd h2 hl)
  have hne : ¬ (len1 : Int) = (len2 : Int) := by omega
  have HB0 := Lib.hid (Below.refl w.heap.size w)
  go_enter Tryz.func57, Tryz.ntmps57
  go_wp2
  go_ret
  exact ⟨by rw [HF.out]; rfl, HB0.out⟩
set_option maxHeartbeats 1000000 in
theorem bsame_any (a b : Bk) (w : World) (h1 : BkAt w a) (h2 : BkAt w b) :
  Calls Tryz.prog 33 #[.agg #[.slice a.A a.xs.length a.c], .agg #[.slice b.A b.xs.length b.c]] w fun e w' => e = .returned (.bool (bsame a.rs b.rs)) ∧ Below w.heap.size w w' := by
 obtain ⟨xs, A, c⟩ := a
 obtain ⟨ys, B, d⟩ := b
 unfold BkAt at h1 h2
 dsimp only at h1 h2 ⊢
 have S1 := (BoAt.new w (.slice A xs.length c)).old (.cells #[.slice B ys.length d] 24)
 have S2 := BoAt.new (w.alloc (.cells #[.slice A xs.length c] 24)) (.slice B ys.length d)
 rw [World.size_alloc] at S2
 have HB := Lib.hid (((Below.refl w.heap.size w).alloc (Nat.le_refl _) (.cells #[.slice A xs.length c] 24)).alloc (by simp) (.cells #[.slice B ys.length d] 24))
 have s1 := S1.c0
 have s2 := S2.c0
 have HC := Lib.hid (beqf_any A B _ _ c d xs ys _ rfl rfl (h1.below HB.out (Nat.le_refl _)) (h2.below HB.out (Nat.le_refl _)))
 clear S1 S2 h1 h2
 unfold Bk.rs
 dsimp only
 generalize xs.length = l1 at *
 generalize ys.length = l2 at *
 generalize bsame (xs.map (·.R)) (ys.map (·.R)) = V at *
 go_enter Tryz.func33, Tryz.ntmps33
 go_wp2_with fail
 refine HC.out.mono ?_
 rintro e w1 ⟨rfl, hb⟩
 have B1 := Lib.hid (HB.out.trans (hb.mono HB.out.size))
 clear hb
 go_wp2
 go_ret
 exact ⟨rfl, B1.out⟩
end
end Go.Proofs.YtbkopnpafmjicaaGreatDoor
