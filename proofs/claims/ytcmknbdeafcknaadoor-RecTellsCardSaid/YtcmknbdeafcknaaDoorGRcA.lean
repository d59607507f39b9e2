import Derived.Test.YtcmknbdeafcknaaDoorGCl
section
/-
  What rec.Find answers. Nothing that was there is written.
-/
namespace Go.Proofs.YtcmknbdeafcknaaDoor
open Go.RowKit WM
set_option linter.unusedVariables false
/-- The first field of a number. -/
def rfind (fs : List Fld) (no : Int) : Option Cel := (fs.find? fun f => decide (f.no = no)).map (·.c)
theorem rfind_nil (no : Int) : rfind [] no = none := rfl
theorem rfind_cons (f : Fld) (fs : List Fld) (no : Int) : rfind (f :: fs) no = if f.no = no then some f.c else rfind fs no := by
  by_cases h : f.no = no <;> simp [rfind, h]
theorem rfind_drop {fs : List Fld} {no : Int} {k : Nat} (hk : k < fs.length) : rfind (fs.drop k) no = if (fs.getD k fld0).no = no then some (fs.getD k fld0).c else rfind (fs.drop (k + 1)) no := by
  rw [List.drop_eq_getElem_cons hk, rfind_cons]
  simp [List.getD, List.getElem?_eq_getElem hk]
def FindPost (w : World) (o : Option Cel) (e : Ending) (w' : World) : Prop := e = .returned (.tuple #[(o.getD cel00).v, .bool o.isSome]) ∧ Below w.heap.size w w'
set_option maxHeartbeats 1000000 in
theorem find_any (z : List Int) (n r : Int) (A : Option Addr) (len c : Nat) (fs : List Fld) (no : Int) (w : World) (hz : z.length = 16) (hl : fs.length = len) (h : FsAt w A c fs) :
    Calls Tryd.prog 6 #[rv z n r (.slice A len c), .int .i64 no] w (FindPost w (rfind fs no)) := by
  obtain ⟨hc1, hc2, hc3, hcell⟩ := h
  simp only [maxLen] at hc2
  have HL := Lib.hid hl
  have HC := Lib.hid hcell
  have S0 := (RcAt.new w hz n r (.slice A len c)).old (.cells #[.int .i64 0, .int .i64 0, .string ⟨#[]⟩] 32)
  have c18 := S0.c18
  have S1 := ClAt.new (w.alloc (.cells (rcells z n r (.slice A len c)) 28)) cel00
  rw [World.size_alloc] at S1
  have HB := ((Below.refl w.heap.size w).alloc (Nat.le_refl _) (.cells (rcells z n r (.slice A len c)) 28)).alloc (by simp) (.cells #[.int .i64 0, .int .i64 0, .string ⟨#[]⟩] 32)
  have H1 := Lib.hid (And.intro S1 HB)
  have hlen : len ≤ c := by omega
  clear hcell S0 S1 HB hc1 hl
  have hp : FindPost w (rfind fs no) = FindPost w (rfind (fs.drop 0) no) := rfl
  unfold rv
  go_enter Tryd.func6, Tryd.ntmps6
  go_wp2
  go_loopw [11] (fun i wr => ∃ k : Nat, k ≤ len ∧ i = .int .i64 k ∧ ClAt wr (w.heap.size + 1) cel00 ∧ Below w.heap.size w wr ∧ rfind fs no = rfind (fs.drop k) no) (fun i _ => len - (intOf i).toNat)
  case atStart => exact ⟨0, Nat.zero_le _, rfl, H1.out.1, H1.out.2, rfl⟩
  case round =>
    obtain ⟨k, hk, rfl, hs, hb, hf⟩ := hrel
    by_cases hlt : k < len
    · obtain ⟨b, off, rfl, hbB, hcc⟩ := HC.out (by rw [HL.out]; omega)
      obtain ⟨c0, c1, c2, c3⟩ := hcc k (by rw [HL.out]; exact hlt)
      have c0 := (hb.cell (p := ⟨b, off + k * 4, none⟩) hbB).trans c0
      have c1 := (hb.cell (p := ⟨b, off + k * 4 + 1, none⟩) hbB).trans c1
      have c2 := (hb.cell (p := ⟨b, off + k * 4 + 2, none⟩) hbB).trans c2
      have c3 := (hb.cell (p := ⟨b, off + k * 4 + 3, none⟩) hbB).trans c3
      have IX := ix_fld b off len c k hlt k rfl
      rw [rfind_drop (by rw [HL.out]; exact hlt)] at hf
      generalize fs.getD k fld0 = f at c0 c1 c2 c3 hf
      obtain ⟨m, x⟩ := f
      dsimp only at c0 c1 c2 c3 hf
      generalize off + k * 4 = o at c0 c1 c2 c3 IX
      have hO := hs.old (.cells #[.int .i64 m, .int .i64 x.n, .int .i64 x.r, .string x.s] 40)
      have hbO := hb.alloc hb.size (.cells #[.int .i64 m, .int .i64 x.n, .int .i64 x.r, .string x.s] 40)
      clear hcc
      by_cases he : m = no
      · subst he
        have d0 := hO.c0
        have d1 := hO.c1
        have d2 := hO.c2
        have e0 := hO.fz 0
        have e1 := hO.fz 1
        have e2 := hO.fz 2
        have HP := Lib.hid (hO.put x)
        have HQ := Lib.hid (below_put3 hbO (show w.heap.size ≤ w.heap.size + 1 by omega) (.int .i64 x.n) (.int .i64 x.r) (.string x.s))
        rw [if_pos rfl] at hf
        have HF := Lib.hid hf
        clear hs hb hO hbO hf
        go_wp2
        refine bodyPost_ret (v := .tuple #[x.v, .bool true]) ?_ rfl ⟨?_, HQ.out⟩
        · exact res_cl2 Tryd.results6 rfl HP.out
        · rw [HF.out]; rfl
      · rw [if_neg he] at hf
        have HF := Lib.hid hf
        have HO := Lib.hid hO
        have HBO := Lib.hid hbO
        clear hs hb hO hbO hf
        go_wp2
        go_roundw
        case rel => exact ⟨k + 1, by omega, by go_num, HO.out, HBO.out, HF.out⟩
        case measure => simp [intOf]; omega
    · obtain rfl : k = len := by omega
      have e0 := hs.fz 0
      have e1 := hs.fz 1
      have e2 := hs.fz 2
      have d0 := hs.c0
      have d1 := hs.c1
      have d2 := hs.c2
      have HP := Lib.hid (hs.put cel00)
      have HQ := Lib.hid (below_put3 hb (show w.heap.size ≤ w.heap.size + 1 by omega) (.int .i64 0) (.int .i64 0) (.string ⟨#[]⟩))
      rw [List.drop_eq_nil_of_le (by rw [HL.out]; exact Nat.le_refl _), rfind_nil] at hf
      have HF := Lib.hid hf
      clear hs hb hf
      go_wp2
      refine bodyPost_ret (v := .tuple #[cel00.v, .bool false]) ?_ rfl ⟨?_, HQ.out⟩
      · exact res_cl2 Tryd.results6 rfl HP.out
      · rw [HF.out]; rfl
end Go.Proofs.YtcmknbdeafcknaaDoor

end
section
/-
  What rec.May answers. Nothing that was there is written.
-/
namespace Go.Proofs.YtcmknbdeafcknaaDoor
open Go.RowKit WM
set_option linter.unusedVariables false
/-- May fields stand behind a number, in a record that is dead since n, r? -/
def okFrom (n r : Int) : Int → List Fld → Bool
  | _, [] => true
  | m, f :: fs => decide (m ≤ f.no) && decide (f.no < 8) && cmay f.c && stLess n r f.c.n f.c.r && okFrom n r (f.no + 1) fs
def rmay (n r : Int) (fs : List Fld) : Bool := may n r && !(decide (fs.length = 0) && decide (n = 0) && decide (r = 0)) && okFrom n r 0 fs
theorem okFrom_drop (n r m : Int) {fs : List Fld} {k : Nat} (hk : k < fs.length) : okFrom n r m (fs.drop k) =
    (decide (m ≤ (fs.getD k fld0).no) && decide ((fs.getD k fld0).no < 8) && cmay (fs.getD k fld0).c && stLess n r (fs.getD k fld0).c.n (fs.getD k fld0).c.r && okFrom n r ((fs.getD k fld0).no + 1) (fs.drop (k + 1))) := by
  rw [List.drop_eq_getElem_cons hk, okFrom]
  simp only [List.getD, List.getElem?_eq_getElem hk, Option.getD_some]
def MayPost (w : World) (v : Bool) (e : Ending) (w' : World) : Prop := e = .returned (.bool v) ∧ Below w.heap.size w w'
set_option maxHeartbeats 4000000 in
theorem rmay_any (z : List Int) (n r : Int) (A : Option Addr) (len c : Nat) (fs : List Fld) (w : World) (hz : z.length = 16) (hl : fs.length = len) (h : FsAt w A c fs) :
    Calls Tryd.prog 13 #[rv z n r (.slice A len c)] w (MayPost w (rmay n r fs)) := by
  obtain ⟨hc1, hc2, hc3, hcell⟩ := h
  simp only [maxLen] at hc2
  have HL := Lib.hid hl
  have HC := Lib.hid hcell
  have S0 := Lib.hid (RcAt.new w hz n r (.slice A len c))
  have HB := Lib.hid ((Below.refl w.heap.size w).alloc (Nat.le_refl _) (.cells (rcells z n r (.slice A len c)) 28))
  have HM := Lib.hid (may_any n r)
  have hlen : len ≤ c := by omega
  have s0 := S0.out.c16
  have s1 := S0.out.c17
  clear hcell hc1 hl
  unfold rv
  unfold st at HM
  cases hm : may n r
  · have HV := Lib.hid (show rmay n r fs = false by simp [rmay, hm])
    rw [hm] at HM
    clear hm
    go_enter Tryd.func13, Tryd.ntmps13
    go_wp2_with fail
    refine (HM.out _).mono ?_
    rintro e w1 ⟨rfl, hb1⟩
    have bw := Lib.hid (HB.out.trans (hb1.mono HB.out.size))
    clear hb1
    go_wp2
    go_ret
    exact ⟨by rw [HV.out]; rfl, bw.out⟩
  · rw [hm] at HM
    by_cases h0 : len = 0 ∧ n = 0 ∧ r = 0
    · obtain ⟨rfl, rfl, rfl⟩ := h0
      have HV := Lib.hid (show rmay 0 0 fs = false by simp [rmay, hm, HL.out])
      clear hm
      go_enter Tryd.func13, Tryd.ntmps13
      go_wp2_with fail
      refine (HM.out _).mono ?_
      rintro e w1 ⟨rfl, hb1⟩
      have s2 := S0.out.below hb1 S0.out.lt
      have d0 := s2.c16
      have d1 := s2.c17
      have d2 := s2.c18
      have bw := Lib.hid (HB.out.trans (hb1.mono HB.out.size))
      clear hb1 s2
      go_wp2
      go_ret
      exact ⟨by rw [HV.out]; rfl, bw.out⟩
    · have HV := Lib.hid (show rmay n r fs = okFrom n r 0 (fs.drop 0) by
        simp only [rmay, hm, HL.out, Bool.true_and, List.drop_zero]
        have : (decide (len = 0) && decide (n = 0) && decide (r = 0)) = false := by
          simp only [Bool.and_eq_false_iff, decide_eq_false_iff_not]
          omega
        rw [this]
        rfl)
      by_cases hl0 : len = 0
      · subst hl0
        have HT := Lib.hid (show rmay n r fs = true by rw [HV.out, List.drop_eq_nil_of_le (by rw [HL.out]; exact Nat.zero_le _)]; rfl)
        have hne := st_ne (n := n) (r := r) (m := 0) (s := 0) (by omega)
        clear hm h0 HV
        go_enter Tryd.func13, Tryd.ntmps13
        go_wp2_with fail
        refine (HM.out _).mono ?_
        rintro e w1 ⟨rfl, hb1⟩
        have s2 := S0.out.below hb1 S0.out.lt
        have d0 := s2.c16
        have d1 := s2.c17
        have d2 := s2.c18
        have bw := Lib.hid (HB.out.trans (hb1.mono HB.out.size))
        clear hb1 s2
        go_wp2
        refine wp_loop_rounds 1 ?_
        rw [rounds_succ]
        go_wp2
        go_ret
        exact ⟨by rw [HT.out]; rfl, bw.out⟩
      · have hln : ¬ (len : Int) = 0 := by omega
        clear hm h0
        go_enter Tryd.func13, Tryd.ntmps13
        go_wp2_with fail
        refine (HM.out _).mono ?_
        rintro e w1 ⟨rfl, hb1⟩
        have s2 := S0.out.below hb1 S0.out.lt
        have d0 := s2.c16
        have d1 := s2.c17
        have d2 := s2.c18
        have bw := Lib.hid (HB.out.trans (hb1.mono HB.out.size))
        have S2 := Lib.hid s2
        clear hb1 s2
        go_wp2
        clear d0 d1 d2
        go_loopw [3, 25] (fun v i wr => ∃ (k : Nat) (m : Int), k ≤ len ∧ i = .int .i64 k ∧ v = .int .i64 m ∧ 0 ≤ m ∧ m ≤ 8 ∧ RcAt wr w.heap.size z n r (.slice A len c) ∧ Below w.heap.size w wr ∧ rmay n r fs = okFrom n r m (fs.drop k)) (fun _ i _ => len - (intOf i).toNat)
        case atStart => exact ⟨0, 0, Nat.zero_le _, rfl, rfl, by omega, by omega, S2.out, bw.out, HV.out⟩
        case round =>
          obtain ⟨k, m, hk, rfl, rfl, hm0, hm8, hs, hb, hf⟩ := hrel
          by_cases hlt : k < len
          · obtain ⟨b, off, rfl, hbB, hcc⟩ := HC.out (by rw [HL.out]; omega)
            obtain ⟨c0, c1, c2, c3⟩ := hcc k (by rw [HL.out]; exact hlt)
            have c0 := (hb.cell (p := ⟨b, off + k * 4, none⟩) hbB).trans c0
            have c1 := (hb.cell (p := ⟨b, off + k * 4 + 1, none⟩) hbB).trans c1
            have c2 := (hb.cell (p := ⟨b, off + k * 4 + 2, none⟩) hbB).trans c2
            have c3 := (hb.cell (p := ⟨b, off + k * 4 + 3, none⟩) hbB).trans c3
            have IX := ix_fld b off len c k hlt k rfl
            rw [okFrom_drop n r m (by rw [HL.out]; exact hlt)] at hf
            generalize fs.getD k fld0 = f at c0 c1 c2 c3 hf
            obtain ⟨no, x⟩ := f
            dsimp only at c0 c1 c2 c3 hf
            generalize off + k * 4 = o at c0 c1 c2 c3 IX
            have hO := Lib.hid (hs.old (.cells #[.int .i64 no, .int .i64 x.n, .int .i64 x.r, .string x.s] 40))
            have hbO := Lib.hid (hb.alloc hb.size (.cells #[.int .i64 no, .int .i64 x.n, .int .i64 x.r, .string x.s] 40))
            have hF := Lib.hid (FlAt.new wr ⟨no, x⟩)
            dsimp only at hF
            clear hcc hs hb
            by_cases h1 : m ≤ no
            · by_cases h2 : no < 8
              · have t1 : ¬ no < m := by omega
                have t2 : ¬ 8 ≤ no := by omega
                rw [decide_eq_true h1, decide_eq_true h2] at hf
                simp only [Bool.true_and] at hf
                have HCM := Lib.hid (cmay_any x)
                have HLV := Lib.hid (lives_any n r x)
                unfold st at HLV
                unfold Cel.v at HCM HLV
                cases hc : cmay x
                · rw [hc] at hf HCM
                  simp only [Bool.false_and] at hf
                  have HF := Lib.hid hf
                  clear hc hf
                  go_wp2_with fail
                  refine (HCM.out _).mono ?_
                  rintro e w2 ⟨rfl, hb2⟩
                  have b2 := Lib.hid (hbO.out.trans (hb2.mono hbO.out.size))
                  clear hb2
                  go_wp2
                  go_ret
                  exact ⟨by rw [HF.out]; rfl, b2.out⟩
                · rw [hc] at hf HCM
                  simp only [Bool.true_and] at hf
                  clear hc
                  cases hv : stLess n r x.n x.r
                  · rw [hv] at hf HLV
                    simp only [Bool.false_and] at hf
                    have HF := Lib.hid hf
                    clear hv hf
                    go_wp2_with fail
                    refine (HCM.out _).mono ?_
                    rintro e w2 ⟨rfl, hb2⟩
                    have b2 := Lib.hid (hbO.out.trans (hb2.mono hbO.out.size))
                    have g := hF.out.below hb2 hF.out.lt
                    have g0 := g.c0
                    have g1 := g.c1
                    have g2 := g.c2
                    have g3 := g.c3
                    have s := hO.out.below hb2 hO.out.lt
                    have d0 := s.c16
                    have d1 := s.c17
                    clear hb2 g s
                    go_wp2_with fail
                    refine (HLV.out _).mono ?_
                    rintro e w3 ⟨rfl, hb3⟩
                    have b3 := Lib.hid (b2.out.trans (hb3.mono b2.out.size))
                    clear hb3
                    go_wp2
                    go_ret
                    exact ⟨by rw [HF.out]; rfl, b3.out⟩
                  · rw [hv] at hf HLV
                    simp only [Bool.true_and] at hf
                    have HF := Lib.hid hf
                    clear hv hf
                    go_wp2_with fail
                    refine (HCM.out _).mono ?_
                    rintro e w2 ⟨rfl, hb2⟩
                    have b2 := Lib.hid (hbO.out.trans (hb2.mono hbO.out.size))
                    have g := hF.out.below hb2 hF.out.lt
                    have G2 := Lib.hid g
                    have g0 := g.c0
                    have g1 := g.c1
                    have g2 := g.c2
                    have g3 := g.c3
                    have s := hO.out.below hb2 hO.out.lt
                    have O2 := Lib.hid s
                    have d0 := s.c16
                    have d1 := s.c17
                    clear hb2 g s
                    go_wp2_with fail
                    refine (HLV.out _).mono ?_
                    rintro e w3 ⟨rfl, hb3⟩
                    have b3 := Lib.hid (b2.out.trans (hb3.mono b2.out.size))
                    have O3 := Lib.hid (O2.out.below hb3 O2.out.lt)
                    have g := G2.out.below hb3 G2.out.lt
                    have k0 := g.c0
                    clear hb3 g g0 g1 g2 g3 d0 d1
                    go_wp2
                    go_roundw
                    case rel => exact ⟨k + 1, no + 1, by omega, by go_num, by go_num, by omega, by omega, O3.out, b3.out, HF.out⟩
                    case measure => simp [intOf]; omega
              · rw [decide_eq_false h2] at hf
                simp only [Bool.and_false, Bool.false_and] at hf
                have HF := Lib.hid hf
                have t1 : ¬ no < m := by omega
                have t2 : 8 ≤ no := by omega
                clear hf
                go_wp2
                go_ret
                exact ⟨by rw [HF.out]; rfl, hbO.out⟩
            · rw [decide_eq_false h1] at hf
              simp only [Bool.false_and] at hf
              have HF := Lib.hid hf
              have t1 : no < m := by omega
              clear hf
              go_wp2
              go_ret
              exact ⟨by rw [HF.out]; rfl, hbO.out⟩
          · obtain rfl : k = len := by omega
            rw [List.drop_eq_nil_of_le (by rw [HL.out]; exact Nat.le_refl _), okFrom] at hf
            have HF := Lib.hid hf
            have HB2 := Lib.hid hb
            clear hf hb hs
            go_wp2
            go_ret
            exact ⟨by rw [HF.out]; rfl, HB2.out⟩
end Go.Proofs.YtcmknbdeafcknaaDoor

end
