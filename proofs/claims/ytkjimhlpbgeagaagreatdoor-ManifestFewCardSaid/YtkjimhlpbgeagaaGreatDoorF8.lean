import Derived.Test.YtkjimhlpbgeagaaGreatDoorF0
import Derived.Test.YtkjimhlpbgeagaaGreatDoorF7
import Derived.Test.YtkjimhlpbgeagaaGreatDoorF6
import Derived.Lib.AppendZeros
import Derived.Deep.Draws
/-
  What the functions that a law of this layer reaches answer, part 8. Nothing that was there is written.
-/
namespace Go.Proofs.YtkjimhlpbgeagaaGreatDoor
set_option linter.unusedVariables false
set_option linter.unusedSimpArgs false
section
section
open Go.RowKit WM
def rfind (fs : List Fld) (no : Int) : Option Cel := (fs.find? fun f => decide (f.no = no)).map (·.c)
theorem rfind_cons (f : Fld) (fs : List Fld) (no : Int) : rfind (f :: fs) no = if f.no = no then some f.c else rfind fs no := by
 by_cases h : f.no = no <;> simp [rfind, h]
end
section
open Go.RowKit WM
def okFrom (n r : Int) : Int → List Fld → Bool
 | _, [] => true
 | m, f :: fs => decide (m ≤ f.no) && decide (f.no < 8) && cmay f.c && stLess n r f.c.n f.c.r && okFrom n r (f.no + 1) fs
def rmay (n r : Int) (fs : List Fld) : Bool := may n r && !(decide (fs.length = 0) && decide (n = 0) && decide (r = 0)) && okFrom n r 0 fs
theorem okFrom_drop (n r m : Int) {fs : List Fld} {k : Nat} (hk : k < fs.length) : okFrom n r m (fs.drop k) =
  (decide (m ≤ (fs.getD k fld0).no) && decide ((fs.getD k fld0).no < 8) && cmay (fs.getD k fld0).c && stLess n r (fs.getD k fld0).c.n (fs.getD k fld0).c.r && okFrom n r ((fs.getD k fld0).no + 1) (fs.drop (k + 1))) := by
 rw [List.drop_eq_getElem_cons hk, okFrom]
 simp only [List.getD, List.getElem?_eq_getElem hk, Option.getD_some]
def MayPost (w : World) (v : Bool) (e : Ending) (w' : World) : Prop := e = .returned (.bool v) ∧ Below w.heap.size w w'
set_option maxHeartbeats 4000000 in
theorem rmay_any (z : List Int) (n r : Int) (A : Option Addr) (len c : Nat) (fs : List Fld) (w : World) (hz : z.length = 16) (hl : fs.length = len) (h : FsAt w A c fs) :
  Calls Tryz.prog 36 #[rv z n r (.slice A len c)] w (MayPost w (rmay n r fs)) := by
 obtain ⟨hc1, hc2, hc3, hcell⟩ := h
 simp only [maxLen] at hc2
 have HL := Lib.hid hl
 have HC := Lib.hid hcell
 have S0 := Lib.hid (RcAt.new w hz n r (.slice A len c))
 have HB := Lib.hid ((Below.refl w.heap.size w).alloc (Nat.le_refl _) (.cells (rcells z n r (.slice A len c)) 61))
 have HM := Lib.hid (may_any n r)
 have hlen : len ≤ c := by omega
 have s0 := S0.out.c16
 have s1 := S0.out.c17
 clear hcell hc1 hl
 unfold rv
 unfold st at HM
 cases hm : may n r
 ·have HV := Lib.hid (show rmay n r fs = false by simp [rmay, hm])
  rw [hm] at HM
  clear hm
  go_enter Tryz.func36, Tryz.ntmps36
  go_wp2_with fail
  refine (HM.out _).mono ?_
  rintro e w1 ⟨rfl, hb1⟩
  have bw := Lib.hid (HB.out.trans (hb1.mono HB.out.size))
  clear hb1
  go_wp2
  go_ret
  exact ⟨by rw [HV.out]; rfl, bw.out⟩
 ·rw [hm] at HM
  by_cases h0 : len = 0 ∧ n = 0 ∧ r = 0
  ·obtain ⟨rfl, rfl, rfl⟩ := h0
   have HV := Lib.hid (show rmay 0 0 fs = false by simp [rmay, hm, HL.out])
   clear hm
   go_enter Tryz.func36, Tryz.ntmps36
   go_wp2_with fail
   refine (HM.out _).mono ?_
   rintro e w1 ⟨rfl, hb1⟩
   have s2 := S0.out.below hb1 S0.out.lt
   have d0 := s2.c16
   have d1 := s2.c17
   have d2 := s2.c18
   have bw := Lib.hid (HB.out.trans (hb1.mono HB.out.size))
   clear hb1 s2
   go_wp2
   go_ret
   exact ⟨by rw [HV.out]; rfl, bw.out⟩
  ·have HV := Lib.hid (show rmay n r fs = okFrom n r 0 (fs.drop 0) by
    simp only [rmay, hm, HL.out, Bool.true_and, List.drop_zero]
    have : (decide (len = 0) && decide (n = 0) && decide (r = 0)) = false := by
     simp only [Bool.and_eq_false_iff, decide_eq_false_iff_not]
     omega
    rw [this]
    rfl)
   by_cases hl0 : len = 0
   ·subst hl0
    have HT := Lib.hid (show rmay n r fs = true by rw [HV.out, List.drop_eq_nil_of_le (by rw [HL.out]; exact Nat.zero_le _)]; rfl)
    have hne := st_ne (n := n) (r := r) (m := 0) (s := 0) (by omega)
    clear hm h0 HV
    go_enter Tryz.func36, Tryz.ntmps36
    go_wp2_with fail
    refine (HM.out _).mono ?_
    rintro e w1 ⟨rfl, hb1⟩
    have s2 := S0.out.below hb1 S0.out.lt
    have d0 := s2.c16
    have d1 := s2.c17
    have d2 := s2.c18
    have bw := Lib.hid (HB.out.trans (hb1.mono HB.out.size))
    clear hb1 s2
    go_wp2
    refine wp_loop_rounds 1 ?_
    rw [rounds_succ]
    go_wp2
    go_ret
    exact ⟨by rw [HT.out]; rfl, bw.out⟩
   ·have hln : ¬ (len : Int) = 0 := by omega
    clear hm h0
    go_enter Tryz.func36, Tryz.ntmps36
    go_wp2_with fail
    refine (HM.out _).mono ?_
    rintro e w1 ⟨rfl, hb1⟩
    have s2 := S0.out.below hb1 S0.out.lt
    have d0 := s2.c16
    have d1 := s2.c17
    have d2 := s2.c18
    have bw := Lib.hid (HB.out.trans (hb1.mono HB.out.size))
    have S2 := Lib.hid s2
    clear hb1 s2
    go_wp2
    clear d0 d1 d2
    go_loopw [3, 25] (fun v i wr => ∃ (k : Nat) (m : Int), k ≤ len ∧ i = .int .i64 k ∧ v = .int .i64 m ∧ 0 ≤ m ∧ m ≤ 8 ∧ RcAt wr w.heap.size z n r (.slice A len c) ∧ Below w.heap.size w wr ∧ rmay n r fs = okFrom n r m (fs.drop k)) (fun _ i _ => len - (intOf i).toNat)
    case atStart => exact ⟨0, 0, Nat.zero_le _, rfl, rfl, by omega, by omega, S2.out, bw.out, HV.out⟩
    case round =>
     obtain ⟨k, m, hk, rfl, rfl, hm0, hm8, hs, hb, hf⟩ := hrel
     by_cases hlt : k < len
     ·obtain ⟨b, off, rfl, hbB, hcc⟩ := HC.out (by rw [HL.out]; omega)
      obtain ⟨c0, c1, c2, c3⟩ := hcc k (by rw [HL.out]; exact hlt)
      have c0 := (hb.cell (p := ⟨b, off + k * 4, none⟩) hbB).trans c0
      have c1 := (hb.cell (p := ⟨b, off + k * 4 + 1, none⟩) hbB).trans c1
      have c2 := (hb.cell (p := ⟨b, off + k * 4 + 2, none⟩) hbB).trans c2
      have c3 := (hb.cell (p := ⟨b, off + k * 4 + 3, none⟩) hbB).trans c3
      have IX := ix_fld b off len c k hlt k rfl
      rw [okFrom_drop n r m (by rw [HL.out]; exact hlt)] at hf
      generalize fs.getD k fld0 = f at c0 c1 c2 c3 hf
      obtain ⟨no, x⟩ := f
      dsimp only at c0 c1 c2 c3 hf
      generalize off + k * 4 = o at c0 c1 c2 c3 IX
      have hO := Lib.hid (hs.old (.cells #[.int .i64 no, .int .i64 x.n, .int .i64 x.r, .string x.s] 71))
      have hbO := Lib.hid (hb.alloc hb.size (.cells #[.int .i64 no, .int .i64 x.n, .int .i64 x.r, .string x.s] 71))
      have hF := Lib.hid (FlAt.new wr ⟨no, x⟩)
      dsimp only at hF
      clear hcc hs hb
      by_cases h1 : m ≤ no
      ·by_cases h2 : no < 8
       ·have t1 : ¬ no < m := by omega
        have t2 : ¬ 8 ≤ no := by omega
        rw [decide_eq_true h1, decide_eq_true h2] at hf
        simp only [Bool.true_and] at hf
        have HCM := Lib.hid (cmay_any x)
        have HLV := Lib.hid (lives_any n r x)
        unfold st at HLV
        unfold Cel.v at HCM HLV
        cases hc : cmay x
        ·rw [hc] at hf HCM
         simp only [Bool.false_and] at hf
         have HF := Lib.hid hf
         clear hc hf
         go_wp2_with fail
         refine (HCM.out _).mono ?_
         rintro e w2 ⟨rfl, hb2⟩
         have b2 := Lib.hid (hbO.out.trans (hb2.mono hbO.out.size))
         clear hb2
         go_wp2
         go_ret
         exact ⟨by rw [HF.out]; rfl, b2.out⟩
        ·rw [hc] at hf HCM
         simp only [Bool.true_and] at hf
         clear hc
         cases hv : stLess n r x.n x.r
         ·rw [hv] at hf HLV
          simp only [Bool.false_and] at hf
          have HF := Lib.hid hf
          clear hv hf
          go_wp2_with fail
          refine (HCM.out _).mono ?_
          rintro e w2 ⟨rfl, hb2⟩
          have b2 := Lib.hid (hbO.out.trans (hb2.mono hbO.out.size))
          have g := hF.out.below hb2 hF.out.lt
          have g0 := g.c0
          have g1 := g.c1
          have g2 := g.c2
          have g3 := g.c3
          have s := hO.out.below hb2 hO.out.lt
          have d0 := s.c16
          have d1 := s.c17
          clear hb2 g s
          go_wp2_with fail
          refine (HLV.out _).mono ?_
          rintro e w3 ⟨rfl, hb3⟩
          have b3 := Lib.hid (b2.out.trans (hb3.mono b2.out.size))
          clear hb3
          go_wp2
          go_ret
          exact ⟨by rw [HF.out]; rfl, b3.out⟩
         ·rw [hv] at hf HLV
          simp only [Bool.true_and] at hf
          have HF := Lib.hid hf
          clear hv hf
          go_wp2_with fail
          refine (HCM.out _).mono ?_
          rintro e w2 ⟨rfl, hb2⟩
          have b2 := Lib.hid (hbO.out.trans (hb2.mono hbO.out.size))
          have g := hF.out.below hb2 hF.out.lt
          have G2 := Lib.hid g
          have g0 := g.c0
          have g1 := g.c1
          have g2 := g.c2
          have g3 := g.c3
          have s := hO.out.below hb2 hO.out.lt
          have O2 := Lib.hid s
          have d0 := s.c16
          have d1 := s.c17
          clear hb2 g s
          go_wp2_with fail
          refine (HLV.out _).mono ?_
          rintro e w3 ⟨rfl, hb3⟩
          have b3 := Lib.hid (b2.out.trans (hb3.mono b2.out.size))
          have O3 := Lib.hid (O2.out.below hb3 O2.out.lt)
          have g := G2.out.below hb3 G2.out.lt
          have k0 := g.c0
          clear hb3 g g0 g1 g2 g3 d0 d1
          go_wp2
          go_roundw
          case rel => exact ⟨k + 1, no + 1, by omega, by go_num, by go_num, by omega, by omega, O3.out, b3.out, HF.out⟩
          case measure => simp [intOf]; omega
       ·rw [decide_eq_false h2] at hf
        simp only [Bool.and_false, Bool.false_and] at hf
        have HF := Lib.hid hf
        have t1 : ¬ no < m := by omega
        have t2 : 8 ≤ no := by omega
        clear hf
        go_wp2
        go_ret
        exact ⟨by rw [HF.out]; rfl, hbO.out⟩
      ·rw [decide_eq_false h1] at hf
       simp only [Bool.false_and] at hf
       have HF := Lib.hid hf
       have t1 : no < m := by omega
       clear hf
       go_wp2
       go_ret
       exact ⟨by rw [HF.out]; rfl, hbO.out⟩
     ·obtain rfl : k = len := by omega
      rw [List.drop_eq_nil_of_le (by rw [HL.out]; exact Nat.le_refl _), okFrom] at hf
      have HF := Lib.hid hf
      have HB2 := Lib.hid hb
      clear hf hb hs
      go_wp2
      go_ret
      exact ⟨by rw [HF.out]; rfl, HB2.out⟩
end
end
section
open Go.RowKit WM
def z16 : List Int := List.replicate 16 0
theorem z16_len : z16.length = 16 := rfl
theorem z16_bytes : AllBytes z16 := by unfold AllBytes z16; decide
theorem zeroRec (w : World) : (zeroValue 61).run Tryz.prog w = .ok (rv z16 0 0 (.slice none 0 0)) w := (zero_of_info (show (Tryz.prog.info? 61).map (fun i => (i.zero, i.size)) = some (some (rv z16 0 0 (.slice none 0 0)), 19) by kernel_rfl)).1 w
theorem list16 {z : List Int} (h : z.length = 16) : ∃ a b c d e f g i j k l m n o p q, z = [a, b, c, d, e, f, g, i, j, k, l, m, n, o, p, q] := by
 match z, h with
 | [a, b, c, d, e, f, g, i, j, k, l, m, n, o, p, q], _ => exact ⟨a, b, c, d, e, f, g, i, j, k, l, m, n, o, p, q, rfl⟩
theorem built_none : Tryz.prog.built 61 [] = some (rcells z16 0 0 (.slice none 0 0)) := by kernel_rfl
theorem built_rec {z : List Int} (h : z.length = 16) (n r : Int) : Tryz.prog.built 61 [(0, .agg (bvals z)), (1, .agg #[.int .i64 n, .int .i64 r])] = some (rcells z n r (.slice none 0 0)) := by
 obtain ⟨a, b, c, d, e, f, g, i, j, k, l, m, n', o, p, q, rfl⟩ := list16 h
 kernel_rfl
theorem build_none (w : World) : (Instr.build 61 #[]).run Tryz.prog w = .ok (rv z16 0 0 (.slice none 0 0)) w := run_build w _ _ _ built_none
theorem build_rec {z : List Int} (h : z.length = 16) (n r : Int) (w : World) : (Instr.build 61 #[(0, .agg (bvals z)), (1, .agg #[.int .i64 n, .int .i64 r])]).run Tryz.prog w = .ok (rv z n r (.slice none 0 0)) w := run_build w _ _ _ (built_rec h n r)
theorem rcells_one {z : List Int} {n r : Int} {v : Value} (hv : v.oneCell' = true) : (rcells z n r v).all (·.oneCell') = true := by
 rw [Array.all_eq_true_iff_forall_mem]
 intro u hu
 simp only [rcells, List.mem_toArray, List.mem_append, List.mem_map, List.mem_cons, List.not_mem_nil, or_false] at hu
 rcases hu with ⟨x, _, rfl⟩ | rfl | rfl | rfl
 ·rfl
 ·rfl
 ·rfl
 ·exact hv
theorem size_rcells {z : List Int} (hz : z.length = 16) (n r : Int) (v : Value) : (Tryz.prog.info? 61).map (·.size) = some (rcells z n r v).size := by rw [rcells_size hz]; exact sizeRec
theorem RcAt.putAll {w : World} {b : Nat} {z y : List Int} {n r m s : Int} {v u : Value} (h : RcAt w b z n r v) (hy : y.length = 16) : RcAt (w.setRow b (rcells y m s u)) b y m s u := ⟨hy, setRow_heap w b _ _ _ _ h.2⟩
theorem res_rc {fn : Func} {p : Tmp} (h : fn.results = #[.cell p 61]) {tmps : Array Value} {w : World} {b : Nat} {z : List Int} {n r : Int} {v : Value} (hp : tmps.getD p undef = .pointer (some ⟨b, 0, none⟩)) (hs : RcAt w b z n r v) :
  (results fn tmps).run Tryz.prog w = .ok (rv z n r v) w := by
 have hp' : tmps[p]?.getD undef = .pointer (some ⟨b, 0, none⟩) := by simpa using hp
 simp [results, h, hp', asAddr, load_rec hs]
theorem res_rc2 {fn : Func} {p q : Tmp} (h : fn.results = #[.cell p 61, .tmp q]) {tmps : Array Value} {w : World} {b : Nat} {z : List Int} {n r : Int} {v : Value} (hp : tmps.getD p undef = .pointer (some ⟨b, 0, none⟩)) (hs : RcAt w b z n r v) :
  (results fn tmps).run Tryz.prog w = .ok (.tuple #[rv z n r v, tmps.getD q undef]) w := by
 have hp' : tmps[p]?.getD undef = .pointer (some ⟨b, 0, none⟩) := by simpa using hp
 simp [results, h, hp', asAddr, load_rec hs]
theorem RcAt.hp {w : World} {b : Nat} {z : List Int} {n r : Int} {v : Value} (h : RcAt w b z n r v) : w.heap[b]? = some (.cells (rcells z n r v) 61) := h.2
theorem exec_load_by {P : Program} {o : Oper} {ρ : Operand → Value} {w : World} (ty : TypeId) (x : Operand) (ho : o.op = .load ty x) (ad : Addr) (hx : ρ x = .pointer (some ad)) {v : Value} (hv : (loadVar ty ad).run P w = .ok v w) :
  (execOp ρ o).run P w = .ok (.value v) w := by
 unfold execOp
 simp only [ho, hx, Instr.loadAt, Instr.sureAddr, Sem.run_bind, Sem.run_pure, Result.andThen_ok, hv]
theorem exec_build_by {P : Program} {o : Oper} {ρ : Operand → Value} {w : World} (t : TypeId) (parts : Array (Nat × Operand)) (ho : o.op = .build t parts) (ps : Array (Nat × Value)) (hp : parts.map (fun x => (x.1, ρ x.2)) = ps) {v : Value}
  (hv : (Instr.build t ps).run P w = .ok v w) : (execOp ρ o).run P w = .ok (.value v) w := by
 unfold execOp
 simp only [ho]
 have e : parts.map (fun x => match x with | (i, x) => (i, ρ x)) = ps := hp
 rw [e]
 simp [hv]
theorem exec_store_row {P : Program} {o : Oper} {ρ : Operand → Value} {w : World} (ty : TypeId) (x y : Operand) (ho : o.op = .store ty x y) (g : Nat) (cells : Array Value) (hx : ρ x = .pointer (some ⟨g, 0, none⟩)) (hy : ρ y = .agg cells)
  (t : TypeId) (old : Array Value) (hg : w.heap[g]? = some (.cells old t (0, 0))) (hi : (P.info? ty).map (·.size) = some cells.size) (hold : old.size = cells.size) (h1 : cells.all (·.oneCell') = true) :
  (execOp ρ o).run P w = .ok .skip (w.setRow g cells) := by
 unfold execOp
 simp only [ho, hx, hy, Instr.storeAt, Instr.sureAddr, Sem.run_bind, Sem.run_pure, Result.andThen_ok, run_storeVar_row w g t ty old cells hg hi hold h1]
structure Rc where
 z : List Int
 n : Int
 r : Int
 fs : List Fld
def rc0 : Rc := ⟨z16, 0, 0, []⟩
def Rc.v (R : Rc) (A : Option Addr) (c : Nat) : Value := rv R.z R.n R.r (.slice A R.fs.length c)
def Rc.Ok (R : Rc) : Prop := R.z.length = 16 ∧ AllBytes R.z
def Rc.may (R : Rc) : Bool := rmay R.n R.r R.fs
theorem okFrom_len (n r : Int) : ∀ (fs : List Fld) (m : Int), okFrom n r m fs = true → 0 ≤ m → m ≤ 8 → (fs.length : Int) + m ≤ 8
 | [], m, _, _, h => by simpa using h
 | f :: fs, m, h, h0, h8 => by
  simp only [okFrom, Bool.and_eq_true, decide_eq_true_eq] at h
  have := okFrom_len n r fs (f.no + 1) h.2 (by omega) (by omega)
  simp only [List.length_cons]
  omega
theorem okFrom_all (n r : Int) : ∀ (fs : List Fld) (m : Int), okFrom n r m fs = true → 0 ≤ m → ∀ f ∈ fs, m ≤ f.no ∧ f.no < 8 ∧ cmay f.c = true ∧ stLess n r f.c.n f.c.r = true
 | [], _, _, _, f, hf => by cases hf
 | g :: fs, m, h, h0, f, hf => by
  simp only [okFrom, Bool.and_eq_true, decide_eq_true_eq] at h
  rcases List.mem_cons.1 hf with rfl | hf
  ·exact ⟨h.1.1.1.1, h.1.1.1.2, h.1.1.2, h.1.2⟩
  ·obtain ⟨h1, h2⟩ := okFrom_all n r fs (g.no + 1) h.2 (by omega) f hf
   exact ⟨by omega, h2⟩
theorem rmay_okFrom {n r : Int} {fs : List Fld} (h : rmay n r fs = true) : okFrom n r 0 fs = true := by
 simp only [rmay, Bool.and_eq_true] at h
 exact h.2
theorem rmay_len {n r : Int} {fs : List Fld} (h : rmay n r fs = true) : fs.length ≤ 8 := by
 have := okFrom_len n r fs 0 (rmay_okFrom h) (by omega) (by omega)
 omega
theorem rmay_all {n r : Int} {fs : List Fld} (h : rmay n r fs = true) : ∀ f ∈ fs, 0 ≤ f.no ∧ f.no < 8 ∧ cmay f.c = true ∧ stLess n r f.c.n f.c.r = true := okFrom_all n r fs 0 (rmay_okFrom h) (by omega)
end
section
open Go.RowKit WM
def zfld : Value := .agg #[.int .i64 0, .int .i64 0, .int .i64 0, .string ⟨#[]⟩]
theorem infoFld : (Tryz.prog.info? 71).map (fun i => (i.zero, i.size, i.bytes)) = some (some zfld, 4, 40) := by kernel_rfl
theorem flds_one (fs : List Fld) : ∀ u ∈ fs.flatMap Fld.cs, u.oneCell' = true := by
 intro u hu
 obtain ⟨f, _, hf⟩ := List.mem_flatMap.1 hu
 simp only [Fld.cs, List.mem_cons, List.not_mem_nil, or_false] at hf
 rcases hf with rfl | rfl | rfl | rfl <;> rfl
theorem flds_len (fs : List Fld) : (fs.flatMap Fld.cs).length = fs.length * 4 := by
 induction fs with
 | nil => rfl
 | cons f fs ih => rw [List.flatMap_cons, List.length_append, ih, List.length_cons, show f.cs.length = 4 from rfl]; omega
theorem flds_at {fs : List Fld} {i j : Nat} (hi : i < fs.length) (hj : j < 4) : (fs.flatMap Fld.cs)[i * 4 + j]? = (fs.getD i fld0).cs[j]? := by
 induction fs generalizing i with
 | nil => simp at hi
 | cons x fs ih =>
  cases i with
  | zero =>
   simp only [List.flatMap_cons, Nat.zero_mul, Nat.zero_add, List.getD_cons_zero]
   rw [List.getElem?_append_left (by simp [Fld.cs]; omega)]
  | succ i =>
   simp only [List.flatMap_cons, List.getD_cons_succ]
   rw [List.getElem?_append_right (by simp [Fld.cs]; omega)]
   have e : (i + 1) * 4 + j - x.cs.length = i * 4 + j := by simp [Fld.cs]; omega
   rw [e]
   exact ih (by simpa using hi)
theorem wpList_append_fld {P : Program} (w : World) {ops : Array Oper} {rest : List Oper} {o : Oper} {a : Act} {Q : Exit → Act → World → Prop} (hgd : o.guard = none) (s x : Operand) (t : TypeId)
  (ho : o.op = .call { callee := .builtin .append, args := #[s, x], argTypes := #[t, t] })
  (base : Nat) (e : TypeId) (i : TypeInfo) (ht : P.underlying t = some (.slice e)) (hi : P.info? e = some i) (hz : i.zero = some zfld) (hsize : i.size = 4) (hby : i.bytes = 40)
  (v : Value) (n : Nat) (gs : List Fld) (hs : a.eval s = v) (hown : w.ownsRow base e 4 v n (gs.flatMap Fld.cs))
  (A : Option Addr) (m c : Nat) (fs : List Fld) (hx : a.eval x = .slice A m c) (hr : FsAt w A c fs) (hl : fs.length = m) (hlen : n + m ≤ 100000) (hbase : base ≤ w.heap.size)
  (h : ∀ v' w', w'.ownsRow base e 4 v' (n + m) ((gs ++ fs).flatMap Fld.cs) → w.grownBy w' v.ownBlock → wpList P ops Q rest (a.put o.dst v') w') : wpList P ops Q (o :: rest) a w := by
 have fin : ∀ ad : Addr, A = some ad → (∀ j u, (fs.flatMap Fld.cs)[j]? = some u → w.cell? (ad.add j) = some u) → wpList P ops Q (o :: rest) a w := by
  intro ad hA hc
  subst hA
  refine wpList_append_own w hgd s x t ho base e i zfld 4 40 ht hi hz hsize hby rfl (by omega) v n _ hs hown ad m c (fs.flatMap Fld.cs) hx (by rw [flds_len, hl]) hc (flds_one fs) (by simp only [maxLen]; omega) (by omega) hbase ?_
  intro v' w' h1 h2 _
  exact h v' w' (by rw [List.flatMap_append]; exact h1) h2
 obtain ⟨h1, h2, h3, h4⟩ := hr
 by_cases hn : fs = []
 ·subst hn
  cases A with
  | none =>
   have hc0 := h3 rfl
   simp at hl
   subst hl
   subst hc0
   refine wpList_append_own_none hgd s x t ho base e i 4 ht hi v n _ hs hown hx ?_
   exact h v w (by simpa using hown) (World.grownBy.refl w _)
  | some ad => exact fin ad rfl (fun j u hj => by simp at hj)
 ·obtain ⟨b, off, hA, _, hc⟩ := h4 (List.length_pos_iff.2 hn)
  refine fin _ hA (fun j u hj => ?_)
  have hjl := (List.getElem?_eq_some_iff.1 hj).1
  rw [flds_len] at hjl
  have hij : j = j / 4 * 4 + j % 4 := by omega
  have hi' : j / 4 < fs.length := by omega
  rw [hij, flds_at hi' (by omega)] at hj
  obtain ⟨c0, c1, c2, c3⟩ := hc (j / 4) hi'
  rw [Addr.add_lit]
  have hm : j % 4 = 0 ∨ j % 4 = 1 ∨ j % 4 = 2 ∨ j % 4 = 3 := by omega
  rcases hm with hm | hm | hm | hm
  ·rw [hm] at hj
   rw [show off + j = off + j / 4 * 4 by omega, c0]
   exact hj
  ·rw [hm] at hj
   rw [show off + j = off + j / 4 * 4 + 1 by omega, c1]
   exact hj
  ·rw [hm] at hj
   rw [show off + j = off + j / 4 * 4 + 2 by omega, c2]
   exact hj
  ·rw [hm] at hj
   rw [show off + j = off + j / 4 * 4 + 3 by omega, c3]
   exact hj
def GrowPost (w : World) (e : Ending) (w' : World) : Prop := ∃ v, e = .returned v ∧ w'.ownsRow w.heap.size 71 4 v 0 [] ∧ Below w.heap.size w w'
theorem slf_h (A : Option Addr) (len cap h : Nat) (h2 : h ≤ cap) (H : Int) (eH : H = h) (w : World) : (Instr.slice 59 (.slice A len cap) none (some (.int .i64 H)) none).run Tryz.prog w = .ok (.slice A h cap) w := by
 subst eH
 rw [run_slice_h w 59 _ len cap (by rw [elemFld]; exact Tryz.underlying59) .i64 h (by omega) (by omega), elemFld, sizeFld]
 simp only [sliced, Result.andThen, Int.toNat_natCast, Nat.zero_mul, Nat.sub_zero]
 cases A with
 | none => simp
 | some a => obtain ⟨b, off, s⟩ := a; simp [Addr.add]
set_option maxRecDepth 20000 in
set_option maxHeartbeats 1000000 in
theorem grow_any (n : Nat) (w : World) (hn : n ≤ 1000) : Calls Tryz.prog 85 #[.slice none 0 0, .int .i64 n] w (GrowPost w) := by
 by_cases h0 : n = 0
 ·subst h0
  go_enter Tryz.func85, Tryz.ntmps85
  go_wp2
  go_ret
  exact ⟨_, rfl, World.ownsRow_nil _ _ _ _, Below.refl _ _⟩
 ·obtain ⟨i0, hi, hz0, hz1, hz2⟩ := info_parts infoFld
  have happ := Lib.run_append_nil_zeros (P := Tryz.prog) w 59 3 59 71 i0 zfld .i64 .i64 Tryz.underlying59 Tryz.underlying3 hi hz0 n (by omega) (by omega) (by omega) (by rw [hz2]; omega)
  have hg := grownCap_ge w n 0 71
  have hm := grownCap_le_maxLen w n 0 71 (by simp only [maxLen]; omega)
  generalize grownCap w n 0 71 = C at happ hg hm
  have hs : (Builtin.zeroCells zfld.cells n ++ Builtin.zeroCells zfld.cells (C - n)).size = C * 4 := by
   rw [Array.size_append, size_zeroCells, size_zeroCells, show zfld.cells.size = 4 from rfl]; omega
  generalize Builtin.zeroCells zfld.cells n ++ Builtin.zeroCells zfld.cells (C - n) = Z at happ hs
  have HO := Lib.hid (World.ownsRow_made (base := w.heap.size) (size := 4) (e := 71) w.drew Z C (Nat.le_refl _) hm hs)
  have HB := Lib.hid (((Below.refl w.heap.size w).drew).alloc (Nat.le_refl _) (.cells Z 71))
  have s1 := slf_h none 0 0 0 (Nat.le_refl _) 0 rfl
  have s2 := slf_h (some ⟨w.heap.size, 0, none⟩) n C 0 (Nat.zero_le _) 0 rfl
  have t1 : ¬ (n : Int) < 0 := by omega
  have t2 : (0 : Int) < (n : Int) := by omega
  simp only [maxLen] at hm
  clear hs h0
  go_enter Tryz.func85, Tryz.ntmps85
  go_wp2_with (at_builtin; refine Lib.wpList_append_run _ rfl _ _ _ _ rfl _ _ rfl rfl _ _ happ ?_)
  go_ret
  exact ⟨_, rfl, HO.out, HB.out⟩
def ConcatPost (w : World) (fs : List Fld) (e : Ending) (w' : World) : Prop := ∃ A n c, e = .returned (.slice A n c) ∧ fs.length = n ∧ FsAt w' A c fs ∧ Below w.heap.size w w'
theorem concat_own {w w' : World} {v : Value} {n : Nat} {fs : List Fld} (hl : fs.length = n) (ho : w'.ownsRow w.heap.size 71 4 v n (fs.flatMap Fld.cs)) (hb : Below w.heap.size w w') : ConcatPost w fs (.returned v) w' := by
 subst hl
 have ho' := ho
 rcases ho.2 with ⟨rfl, h0⟩ | ⟨g, cap, cur, rfl, _⟩
 ·rw [h0] at ho'
  exact ⟨none, 0, 0, rfl, h0, FsAt.own (base := w.heap.size) (by rw [h0]; exact ho'), hb⟩
 ·exact ⟨_, _, cap, rfl, rfl, FsAt.own ho', hb⟩
set_option maxRecDepth 20000 in
set_option maxHeartbeats 2000000 in
theorem concat_any (g : Nat) (A1 A2 : Option Addr) (l1 l2 c1 c2 : Nat) (f1 f2 : List Fld) (w : World) (hg : g < w.heap.size) (hg0 : w.cell? ⟨g, 0, none⟩ = some (.slice A1 l1 c1)) (hg1 : w.cell? ⟨g, 1, none⟩ = some (.slice A2 l2 c2))
  (hl1 : f1.length = l1) (hl2 : f2.length = l2) (h1 : FsAt w A1 c1 f1) (h2 : FsAt w A2 c2 f2) (hs : l1 + l2 ≤ 1000) :
  Calls Tryz.prog 79 #[.slice (some ⟨g, 0, none⟩) 2 2] w (ConcatPost w (f1 ++ f2)) := by
 have HG := Lib.hid (grow_any (l1 + l2))
 rw [Int.natCast_add] at HG
 unfold GrowPost at HG
 have t1 : ¬ (l1 : Int) < 0 := by omega
 have t2 : ¬ (l1 : Int) + (l2 : Int) < 0 := by omega
 obtain ⟨i0, hi, hz0, hz1, hz2⟩ := info_parts infoFld
 have HL1 := Lib.hid hl1
 have HL2 := Lib.hid hl2
 have H1 := Lib.hid h1
 have H2 := Lib.hid h2
 clear hl1 hl2 h1 h2
 go_enter Tryz.func79, Tryz.ntmps79
 go_wp2
 refine wp_loop_rounds 3 ?_
 rw [rounds_succ]
 go_wp2
 rw [rounds_succ]
 go_wp2
 rw [rounds_succ]
 go_wp2_with fail
 refine (HG.out _ hs).mono ?_
 rintro e w1 ⟨v, rfl, ho, hb⟩
 have G1 := Lib.hid hg1
 have hg0 := (hb.cell (p := ⟨g, 0, none⟩) hg).trans hg0
 have hg1 := (hb.cell (p := ⟨g, 1, none⟩) hg).trans hg1
 have F1 := Lib.hid (H1.out.below hb (Nat.le_refl _))
 have HB := Lib.hid hb
 clear hb hg1
 go_wp2
 refine wp_loop_rounds 3 ?_
 rw [rounds_succ]
 go_wp2_with (at_builtin; refine wpList_append_fld _ rfl _ _ 59 rfl w.heap.size 71 i0 Tryz.underlying59 hi hz0 hz1 hz2 _ 0 [] rfl ho A1 l1 c1 f1 rfl F1.out HL1.out (by omega) HB.out.size ?_; intro v2 w2 ho2 hg2)
 have HB2 := HB.out.grown hg2 HB.out.size (fun g hg => own_base ho hg)
 have hg1 := (HB2.cell (p := ⟨g, 1, none⟩) hg).trans G1.out
 have F2 := Lib.hid (H2.out.below HB2 (Nat.le_refl _))
 have HB2 := Lib.hid HB2
 clear hg2 hg0
 rw [List.nil_append] at ho2
 rw [rounds_succ]
 go_wp2_with (at_builtin; refine wpList_append_fld _ rfl _ _ 59 rfl w.heap.size 71 i0 Tryz.underlying59 hi hz0 hz1 hz2 _ _ f1 rfl ho2 A2 l2 c2 f2 rfl F2.out HL2.out (by omega) HB2.out.size ?_; intro v3 w3 ho3 hg3)
 have HB3 := Lib.hid (HB2.out.grown hg3 HB2.out.size (fun g hg => own_base ho2 hg))
 have HO3 := Lib.hid ho3
 clear hg3 hg1 ho ho2 ho3
 rw [rounds_succ]
 go_wp2
 go_ret
 exact concat_own (by rw [List.length_append, HL1.out, HL2.out]; omega) HO3.out HB3.out
end
end Go.Proofs.YtkjimhlpbgeagaaGreatDoor
