import Derived.Test.YtnencoainacpoaaDoorGDlM
import Derived.Test.YtnencoainacpoaaDoorDlBase
import Derived.Test.YtnencoainacpoaaDoorGDlR
import Derived.Test.YtnencoainacpoaaDoorGSgR
/-
  What the document's own Make of pieces answers. Nothing that was there is written.
-/
namespace Go.Proofs.YtnencoainacpoaaDoor
open Go.RowKit WM
set_option linter.unusedVariables false
set_option maxRecDepth 100000
theorem pcTxt_ok (c : ByteArray) (h : c.size ≤ maxLen) : (pcTxt c).Ok := ⟨show (Lit.int .i64 0).wf = true by decide, show (Lit.int .i64 0).wf = true by decide, h⟩
theorem pcNew_ok {i : Int} (h0 : 0 ≤ i) (h1 : i ≤ 1000000000) : (pcNew i).Ok := by
  refine ⟨?_, show (Lit.int .i64 8).wf = true by decide, show (⟨#[]⟩ : ByteArray).size ≤ maxLen by decide⟩
  simp [pcNew, Lit.wf, IntKind.min, IntKind.max, IntKind.bits, IntKind.signed]
  omega
theorem build_txt (c : ByteArray) (w : World) : (Instr.build 44 #[(3, .string c)]).run Tryd.prog w = .ok (KPc.v (pcTxt c)) w := run_build w _ _ _ (by kernel_rfl)
theorem build_new (i : Int) (w : World) : (Instr.build 44 #[(0, .bool true), (1, .int .i64 (8 * i)), (2, .int .i64 8)]).run Tryd.prog w = .ok (KPc.v (pcNew i)) w := run_build w _ _ _ (by kernel_rfl)
set_option maxHeartbeats 8000000 in
theorem rmake11_any (A : Option Addr) (c : Nat) (sig : List Sg) (s : ByteArray) (w : World) (h1 : KSig.row w A c sig) (hl : sig.length ≤ 1000000) (hs : s.size ≤ 1000000) : Calls Tryd.prog 17 #[.slice A sig.length c, .string s] w (KPost KPc w (pmake sig s)) := by
  have HB := Lib.hid (Below.refl w.heap.size w)
  have H1 := Lib.hid h1
  obtain ⟨N, hN⟩ : ∃ N, N = s.size := ⟨_, rfl⟩
  have hlen : s.size = N := hN.symm
  have HSZ := Lib.hid hlen
  have HFI := Lib.hid (fun (a : Nat) (ha : a + 8 ≤ N) (X : World) (hX : Below w.heap.size w X) => rfind10_any A c sig (s.extract a (a + 8)) X (Kind.row_below H1.out hX (Nat.le_refl _)) hl (by rw [extract_size _ _ _ (by rw [HSZ.out]; exact ha)]; omega))
  have HPF := Lib.hid (fun (a : Nat) (ha : a + 8 ≤ N) => show sgFind sig (nums (s.extract a (a + 8))) = pfind sig s a by unfold pfind; rw [if_pos (by rw [HSZ.out]; exact ha)])
  have HPN := Lib.hid (fun (a : Nat) (ha : ¬ a + 8 ≤ N) => show pfind sig s a = -1 by unfold pfind; rw [if_neg (by rw [HSZ.out]; exact ha)])
  have HSB := Lib.hid (fun (i j : Nat) (hij : i ≤ j) (hj : j ≤ N) (I J : Int) (eI : I = i) (eJ : J = j) (w : World) => sub_str s i j hij (by rw [HSZ.out]; exact hj) I J eI eJ w)
  have HXZ := Lib.hid (fun (a : Nat) (ha : a + 1 ≤ N) => show (s.extract a (a + 1)).size = 1 by rw [extract_size _ _ _ (by rw [HSZ.out]; exact ha)]; omega)
  obtain ⟨M, hM⟩ : ∃ M, M = sig.length := ⟨_, rfl⟩
  have HRG := Lib.hid (fun a h => pfind_range (sig := sig) (s := s) (a := a) (M := M) (by omega) h)
  obtain ⟨i0, hi, hz0, hz1, hz2⟩ := info_parts infoPc
  have hzl : (KPc.v pc0).cells.size = KPc.n := by decide
  have HVE := Lib.hid (show ∀ out, pmake sig s = out → ∀ v w', w'.ownsRow w.heap.size 44 KPc.n v out.length (out.flatMap KPc.cs) → (∀ p ∈ out, p.Ok) → Below w.heap.size w w' → KPost KPc w (pmake sig s) (.returned v) w' from fun out ho v w' h2 h3 h4 => by rw [ho]; exact kpost_own (K := KPc) h2 h3 h4)
  have HV0 := Lib.hid (show pmake sig s = pmk sig s 0 [] from rfl)
  generalize KPost KPc w (pmake sig s) = RR at *
  generalize pmake sig s = V at *
  generalize sig.length = m at *
  clear h1 hN
  go_enter Tryd.func17, Tryd.ntmps17
  go_wp2
  go_loopw [5, 6] (fun v i wr => ∃ (a : Nat) (out : List Pc), a ≤ N ∧ i = .int .i64 a ∧ wr.ownsRow w.heap.size 44 KPc.n v out.length (out.flatMap KPc.cs) ∧ PFits M a out ∧ Below w.heap.size w wr ∧ V = pmk sig s a out) (fun _ i _ => N + 1 - (intOf i).toNat)
  case atStart => exact ⟨0, [], Nat.zero_le _, rfl, World.ownsRow_nil _ _ _ _, PFits.nil M, HB.out, HV0.out⟩
  case round =>
    obtain ⟨a, out, ha, rfl, ho, hfit, hb, hf⟩ := hrel
    have HO := Lib.hid ho
    have PF := Lib.hid hfit
    have HBB := Lib.hid hb
    by_cases hlt : a < N
    · have t2 : (a : Int) < (N : Int) := by omega
      have HXS := Lib.hid (HXZ.out a hlt)
      have SL := Lib.hid (HSB.out a (a + 1) (by omega) hlt (a : Int) ((a : Int) + 1) rfl (by omega))
      have g1 : IntKind.i64.wrap ((a : Int) + 8) = (a : Int) + 8 := IntWalk.i64_in _ (by omega)
      have g2 : IntKind.i64.wrap ((a : Int) + 1) = (a : Int) + 1 := IntWalk.i64_in _ (by omega)
      by_cases h8 : a + 8 ≤ N
      · have t3 : (a : Int) + 8 ≤ (N : Int) := by omega
        have HC := Lib.hid (HFI.out a h8 wr hb)
        have hpf := HPF.out a h8
        rw [hpf] at HC
        have hsl8 := HSB.out a (a + 8) (by omega) h8 (a : Int) ((a : Int) + 8) rfl (by omega)
        by_cases hfd : 0 ≤ pfind sig s a
        · obtain ⟨_, q, hq, hqm, hqM⟩ := HRG.out a hfd
          have hfc := hf
          rw [pmk_copy (by rw [HSZ.out]; exact hlt) hfd] at hfc
          have HCF := Lib.hid (PF.out.copy hfd (by rw [hq]; omega))
          rw [hq] at HC hfc HCF
          have hq6 : q ≤ 1000000 := by omega
          have f8 : IntKind.i64.wrap (8 * (q : Int)) = 8 * (q : Int) := IntWalk.i64_in _ (by omega)
          have FM := Lib.hid f8
          have t4 : (0 : Int) ≤ (q : Int) := by omega
          clear ho hfit hb hf hpf hq hfd
          generalize s.extract a (a + 8) = e8 at *
          go_wp2_with fail
          refine HC.out.mono ?_
          rintro e1 w1 ⟨rfl, hb1⟩
          have HO := Lib.hid (own_below HO.out hb1)
          have HBB := Lib.hid (HBB.out.trans (hb1.mono HBB.out.size))
          clear hb1
          rcases List.eq_nil_or_concat out with hout | ⟨init, p, hout⟩
          · subst hout
            obtain ⟨A1, c1, rfl⟩ := own_pcs HO.out
            have HO := Lib.hid (show w1.ownsRow w.heap.size 44 KPc.n (.slice A1 0 c1) 0 (([] : List Pc).flatMap KPc.cs) from HO.out)
            have HF := Lib.hid hfc
            have HFIT := Lib.hid HCF.out
            rw [pcopy_nil] at HF HFIT
            clear hfc
            go_wp2_with fail
            refine wp_region_G _ (by kernel_rfl) ?_
            refine wpG_take (i := 0) (oi := ⟨some 30, _, _, _, _, _⟩) (v := ?_) rfl (by kernel_rfl) (by kernel_rfl) (by kernel_rfl) (Or.inl ⟨by rfl, unib_val ?_⟩) ?_; rotate_left; (focus (intro w9 hSw; go_simp; try with_reducible rfl)); simp only [Act.put, List.setIfInBounds_toArray, List.set_cons_zero, List.set_cons_succ]
            refine wpG_take (i := 1) (oi := ⟨some 31, _, _, _, _, _⟩) (v := ?_) rfl (by kernel_rfl) (by kernel_rfl) (by kernel_rfl) (Or.inl ⟨by rfl, unib_val ?_⟩) ?_; rotate_left; (focus (intro w9 hSw; go_simp; try with_reducible rfl)); simp only [Act.put, List.setIfInBounds_toArray, List.set_cons_zero, List.set_cons_succ]
            refine wpG_take (i := 2) (oi := ⟨some 32, _, _, _, _, _⟩) (v := ?_) rfl (by kernel_rfl) (by kernel_rfl) (by kernel_rfl) (Or.inl ⟨by rfl, unib_val ?_⟩) ?_; rotate_left; (focus (intro w9 hSw; go_simp; try with_reducible rfl)); simp only [Act.put, List.setIfInBounds_toArray, List.set_cons_zero, List.set_cons_succ]
            refine wpG_take (i := 3) (oi := ⟨some 33, _, _, _, _, _⟩) rfl (by kernel_rfl) (by kernel_rfl) (by kernel_rfl) (Or.inr ⟨by rfl, rfl⟩) ?_; simp only [Act.put, List.setIfInBounds_toArray, List.set_cons_zero, List.set_cons_succ]
            refine wpG_take (i := 4) (oi := ⟨some 34, _, _, _, _, _⟩) rfl (by kernel_rfl) (by kernel_rfl) (by kernel_rfl) (Or.inr ⟨by rfl, rfl⟩) ?_; simp only [Act.put, List.setIfInBounds_toArray, List.set_cons_zero, List.set_cons_succ]
            refine wpG_take (i := 5) (oi := ⟨some 35, _, _, _, _, _⟩) rfl (by kernel_rfl) (by kernel_rfl) (by kernel_rfl) (Or.inr ⟨by rfl, rfl⟩) ?_; simp only [Act.put, List.setIfInBounds_toArray, List.set_cons_zero, List.set_cons_succ]
            refine wpG_take (i := 6) (oi := ⟨some 36, _, _, _, _, _⟩) rfl (by kernel_rfl) (by kernel_rfl) (by kernel_rfl) (Or.inr ⟨by rfl, rfl⟩) ?_; simp only [Act.put, List.setIfInBounds_toArray, List.set_cons_zero, List.set_cons_succ]
            refine wpG_take (i := 7) (oi := ⟨some 37, _, _, _, _, _⟩) rfl (by kernel_rfl) (by kernel_rfl) (by kernel_rfl) (Or.inr ⟨by rfl, rfl⟩) ?_; simp only [Act.put, List.setIfInBounds_toArray, List.set_cons_zero, List.set_cons_succ]
            refine wpG_take (i := 8) (oi := ⟨some 38, _, _, _, _, _⟩) (v := ?_) rfl (by kernel_rfl) (by kernel_rfl) (by kernel_rfl) (Or.inl ⟨by rfl, unib_val ?_⟩) ?_; rotate_left; (focus (intro w9 hSw; go_simp; try with_reducible rfl)); simp only [Act.put, List.setIfInBounds_toArray, List.set_cons_zero, List.set_cons_succ]
            refine wpG_take (i := 9) (oi := ⟨some 39, _, _, _, _, _⟩) (v := ?_) rfl (by kernel_rfl) (by kernel_rfl) (by kernel_rfl) (Or.inl ⟨by rfl, unib_val ?_⟩) ?_; rotate_left; (focus (intro w9 hSw; go_simp; try with_reducible rfl)); simp only [Act.put, List.setIfInBounds_toArray, List.set_cons_zero, List.set_cons_succ]
            refine wpG_take (i := 10) (oi := ⟨some 40, _, _, _, _, _⟩) rfl (by kernel_rfl) (by kernel_rfl) (by kernel_rfl) (Or.inr ⟨by rfl, rfl⟩) ?_; simp only [Act.put, List.setIfInBounds_toArray, List.set_cons_zero, List.set_cons_succ]
            refine wpG_take (i := 11) (oi := ⟨some 41, _, _, _, _, _⟩) rfl (by kernel_rfl) (by kernel_rfl) (by kernel_rfl) (Or.inr ⟨by rfl, rfl⟩) ?_; simp only [Act.put, List.setIfInBounds_toArray, List.set_cons_zero, List.set_cons_succ]
            refine wpG_take (i := 12) (oi := ⟨some 42, _, _, _, _, _⟩) rfl (by kernel_rfl) (by kernel_rfl) (by kernel_rfl) (Or.inr ⟨by rfl, rfl⟩) ?_; simp only [Act.put, List.setIfInBounds_toArray, List.set_cons_zero, List.set_cons_succ]
            refine wpG_take (i := 13) (oi := ⟨some 43, _, _, _, _, _⟩) rfl (by kernel_rfl) (by kernel_rfl) (by kernel_rfl) (Or.inr ⟨by rfl, rfl⟩) ?_; simp only [Act.put, List.setIfInBounds_toArray, List.set_cons_zero, List.set_cons_succ]
            refine wpG_take (i := 14) (oi := ⟨some 44, _, _, _, _, _⟩) rfl (by kernel_rfl) (by kernel_rfl) (by kernel_rfl) (Or.inr ⟨by rfl, rfl⟩) ?_; simp only [Act.put, List.setIfInBounds_toArray, List.set_cons_zero, List.set_cons_succ]
            refine wpG_take (i := 15) (oi := ⟨some 45, _, _, _, _, _⟩) rfl (by kernel_rfl) (by kernel_rfl) (by kernel_rfl) (Or.inr ⟨by rfl, rfl⟩) ?_; simp only [Act.put, List.setIfInBounds_toArray, List.set_cons_zero, List.set_cons_succ]
            refine wpG_take (i := 16) (oi := ⟨some 46, _, _, _, _, _⟩) rfl (by kernel_rfl) (by kernel_rfl) (by kernel_rfl) (Or.inr ⟨by rfl, rfl⟩) ?_; simp only [Act.put, List.setIfInBounds_toArray, List.set_cons_zero, List.set_cons_succ]
            refine wpG_take (i := 17) (oi := ⟨some 47, _, _, _, _, _⟩) rfl (by kernel_rfl) (by kernel_rfl) (by kernel_rfl) (Or.inr ⟨by rfl, rfl⟩) ?_; simp only [Act.put, List.setIfInBounds_toArray, List.set_cons_zero, List.set_cons_succ]
            refine wpG_take (i := 18) (oi := ⟨some 48, _, _, _, _, _⟩) rfl (by kernel_rfl) (by kernel_rfl) (by kernel_rfl) (Or.inr ⟨by rfl, rfl⟩) ?_; simp only [Act.put, List.setIfInBounds_toArray, List.set_cons_zero, List.set_cons_succ]
            refine wpG_take (i := 19) (oi := ⟨some 49, _, _, _, _, _⟩) rfl (by kernel_rfl) (by kernel_rfl) (by kernel_rfl) (Or.inr ⟨by rfl, rfl⟩) ?_; simp only [Act.put, List.setIfInBounds_toArray, List.set_cons_zero, List.set_cons_succ]
            refine wpG_take (i := 20) (oi := ⟨some 50, _, _, _, _, _⟩) rfl (by kernel_rfl) (by kernel_rfl) (by kernel_rfl) (Or.inr ⟨by rfl, rfl⟩) ?_; simp only [Act.put, List.setIfInBounds_toArray, List.set_cons_zero, List.set_cons_succ]
            refine wpG_take (i := 21) (oi := ⟨some 51, _, _, _, _, _⟩) rfl (by kernel_rfl) (by kernel_rfl) (by kernel_rfl) (Or.inr ⟨by rfl, rfl⟩) ?_; simp only [Act.put, List.setIfInBounds_toArray, List.set_cons_zero, List.set_cons_succ]
            refine wpG_take (i := 22) (oi := ⟨some 52, _, _, _, _, _⟩) rfl (by kernel_rfl) (by kernel_rfl) (by kernel_rfl) (Or.inr ⟨by rfl, rfl⟩) ?_; simp only [Act.put, List.setIfInBounds_toArray, List.set_cons_zero, List.set_cons_succ]
            refine wpG_take (i := 23) (oi := ⟨some 53, _, _, _, _, _⟩) rfl (by kernel_rfl) (by kernel_rfl) (by kernel_rfl) (Or.inr ⟨by rfl, rfl⟩) ?_; simp only [Act.put, List.setIfInBounds_toArray, List.set_cons_zero, List.set_cons_succ]
            refine wpG_take (i := 24) (oi := ⟨some 54, _, _, _, _, _⟩) (v := ?_) rfl (by kernel_rfl) (by kernel_rfl) (by kernel_rfl) (Or.inl ⟨by rfl, unib_val ?_⟩) ?_; rotate_left; (focus (intro w9 hSw; go_simp; try with_reducible rfl)); simp only [Act.put, List.setIfInBounds_toArray, List.set_cons_zero, List.set_cons_succ]
            refine wpG_done (by kernel_rfl) ?_ _
            intro w9 hSw _
            have S9 := Lib.hid hSw
            clear hSw
            have HO := Lib.hid (own_below HO.out S9.out)
            have HBB := Lib.hid (HBB.out.trans (S9.out.mono HBB.out.size))
            have OKX := Lib.hid (pcNew_ok (i := (q : Int)) (by omega) (by omega))
            have O1 := Lib.hid ((HO.out).alloc (.cells (KPc.cs (pcNew (q : Int))).toArray 44))
            have B2 := Lib.hid ((HBB.out).alloc (HBB.out).size (.cells (KPc.cs (pcNew (q : Int))).toArray 44))
            have R2 := Lib.hid (Kind.row_one (K := KPc) (w := w9) (x := (pcNew (q : Int))) (t := 44) OKX.out)
            have VL : Hid (0 + 1 ≤ 10000000) := Lib.hid (by have := PF.out.1; omega)
            have VS := Lib.hid B2.out.size
            have XL := Lib.hid (show (KPc.cs (pcNew (q : Int))).length = KPc.n from rfl)
            have HBD := Lib.hid (fun w9 => build_new (q : Int) w9)
            rw [show KPc.v (pcNew (q : Int)) = .agg (KPc.cs (pcNew (q : Int))).toArray from rfl] at HBD
            go_wp2_with (first | ((with_reducible refine wpList_build_at (o := ⟨some 68, .build 44 #[(0, .const (.bool true)), (1, .tmp 67), (2, .const (.int .i64 8))], _, _, _, _⟩) ?e1 44 #[(0, .const (.bool true)), (1, .tmp 67), (2, .const (.int .i64 8))] ?e2 #[(0, .bool true), (1, .int .i64 (8 * (q : Int))), (2, .int .i64 8)] ?e3 _ (HBD.out _) ?_); (case e1 => rfl); (case e2 => rfl); (case e3 => (simp only [List.map_toArray, List.map_cons, List.map_nil]; rfl))) | ((with_reducible refine wpList_bsliceK (K := KPc) (o := ⟨some 69, .buildSlice 22 1 #[(0, .tmp 68)], _, _, _, _⟩) ?e1 (.tmp 68) ?e2 (pcNew (q : Int)) ?e3 XL.out Tryd.underlying22 sizePc zeroPc nPc ?_); (case e1 => rfl); (case e2 => rfl); (case e3 => rfl)) | (at_builtin; refine wpList_append_K (K := KPc) _ rfl _ _ 22 rfl w.heap.size 44 i0 _ 40 Tryd.underlying22 hi hz0 hz1 hz2 hzl (by omega) _ 0 [] rfl O1.out (some ⟨w9.heap.size, 0, none⟩) 1 1 [(pcNew (q : Int))] rfl R2.out rfl VL.out VS.out ?_; intro v3 w3 ho3 hg3; have O3 := Lib.hid ho3; have B3 := Lib.hid (B2.out.grown hg3 B2.out.size (fun g hg => own_base O1.out hg)); obtain ⟨g13, cap13, rfl⟩ := ownsRow_succ ho3; clear ho3 hg3))
            go_roundw
            case rel => exact ⟨a + 8, [(pcNew (q : Int))], by omega, by go_num, O3.out, HFIT.out, B3.out, HF.out⟩
            case measure => simp [intOf]; omega
          · rw [List.concat_eq_append] at hout
            subst hout
            obtain ⟨j, hj⟩ : ∃ j, init.length = j := ⟨_, rfl⟩
            have hlj : (init ++ [p]).length = j + 1 := by rw [List.length_append, hj]; rfl
            have PF1 := PF.out.1
            rw [hlj] at HO PF1
            have hpp := PF.out.2 p (by simp)
            obtain ⟨g, cap, hv, hbg, hgw, hjc, hat⟩ := own_last hj HO.out
            subst hv
            have hjb : j ≤ 1000000 := by omega
            have f9 : IntKind.i64.wrap ((j : Int) + 1 - 1) = (j : Int) := by rw [IntWalk.i64_in _ (by omega)]; omega
            have ix := pc_ix g j cap (j : Int) rfl
            have t10 : (0 : Int) ≤ (j : Int) := by omega
            have HGW := Lib.hid hgw
            have HJ := Lib.hid hj
            have HBG := Lib.hid hbg
            have hsum : IntKind.i64.wrap (p.fr + p.ln) = p.fr + p.ln := IntWalk.i64_in _ (by omega)
            have FS := Lib.hid hsum
            obtain ⟨k0, k1, k2, k3⟩ := pc_cells hat
            have K1 := Lib.hid k1
            have K2 := Lib.hid k2
            have IX := Lib.hid ix
            cases hcp : p.cp
            · have HF := Lib.hid hfc
              have HFIT := Lib.hid HCF.out
              rw [pcopy_new (by rw [hcp]; simp)] at HF HFIT
              rw [hcp] at k0
              have K0 := Lib.hid k0
              generalize hjo : j * 4 = o at *
              clear hfc k0 k1 k2 k3 hat hj hbg hgw hjo
              go_wp2_with fail
              refine wp_region_G _ (by kernel_rfl) ?_
              refine wpG_take (i := 0) (oi := ⟨some 30, _, _, _, _, _⟩) (v := ?_) rfl (by kernel_rfl) (by kernel_rfl) (by kernel_rfl) (Or.inl ⟨by rfl, unib_val ?_⟩) ?_; rotate_left; (focus (intro w9 hSw; go_simp; try with_reducible rfl)); simp only [Act.put, List.setIfInBounds_toArray, List.set_cons_zero, List.set_cons_succ]
              refine wpG_take (i := 1) (oi := ⟨some 31, _, _, _, _, _⟩) (v := ?_) rfl (by kernel_rfl) (by kernel_rfl) (by kernel_rfl) (Or.inl ⟨by rfl, unib_val ?_⟩) ?_; rotate_left; (focus (intro w9 hSw; go_simp; try with_reducible rfl)); simp only [Act.put, List.setIfInBounds_toArray, List.set_cons_zero, List.set_cons_succ]
              refine wpG_take (i := 2) (oi := ⟨some 32, _, _, _, _, _⟩) (v := ?_) rfl (by kernel_rfl) (by kernel_rfl) (by kernel_rfl) (Or.inl ⟨by rfl, unib_val ?_⟩) ?_; rotate_left; (focus (intro w9 hSw; go_simp; try with_reducible rfl)); simp only [Act.put, List.setIfInBounds_toArray, List.set_cons_zero, List.set_cons_succ]
              refine wpG_take (i := 3) (oi := ⟨some 33, _, _, _, _, _⟩) (v := ?_) rfl (by kernel_rfl) (by kernel_rfl) (by kernel_rfl) (Or.inl ⟨by rfl, unib_val ?_⟩) ?_; rotate_left; (focus (intro w9 hSw; go_simp; try with_reducible rfl)); simp only [Act.put, List.setIfInBounds_toArray, List.set_cons_zero, List.set_cons_succ]
              refine wpG_take (i := 4) (oi := ⟨some 34, _, _, _, _, _⟩) (v := ?_) rfl (by kernel_rfl) (by kernel_rfl) (by kernel_rfl) (Or.inl ⟨by rfl, unib_val ?_⟩) ?_; rotate_left; (focus (intro w9 hSw; go_simp; try with_reducible rfl)); simp only [Act.put, List.setIfInBounds_toArray, List.set_cons_zero, List.set_cons_succ]
              refine wpG_take (i := 5) (oi := ⟨some 35, _, _, _, _, _⟩) (v := ?_) rfl (by kernel_rfl) (by kernel_rfl) (by kernel_rfl) (Or.inl ⟨by rfl, unib_val ?_⟩) ?_; rotate_left; (focus (intro w9 hSw; have q0 := IX.out w9; go_simp; try with_reducible rfl)); simp only [Act.put, List.setIfInBounds_toArray, List.set_cons_zero, List.set_cons_succ]
              refine wpG_take (i := 6) (oi := ⟨some 36, _, _, _, _, _⟩) (v := ?_) rfl (by kernel_rfl) (by kernel_rfl) (by kernel_rfl) (Or.inl ⟨by rfl, unib_val ?_⟩) ?_; rotate_left; (focus (intro w9 hSw; go_simp; try with_reducible rfl)); simp only [Act.put, List.setIfInBounds_toArray, List.set_cons_zero, List.set_cons_succ]
              refine wpG_take (i := 7) (oi := ⟨some 37, _, _, _, _, _⟩) (v := ?_) rfl (by kernel_rfl) (by kernel_rfl) (by kernel_rfl) (Or.inl ⟨by rfl, unib_val ?_⟩) ?_; rotate_left; (focus (intro w9 hSw; have q0 := (hSw.cell (p := ⟨g, o, none⟩) HGW.out).trans K0.out; go_simp; try with_reducible rfl)); simp only [Act.put, List.setIfInBounds_toArray, List.set_cons_zero, List.set_cons_succ]
              refine wpG_take (i := 8) (oi := ⟨some 38, _, _, _, _, _⟩) (v := ?_) rfl (by kernel_rfl) (by kernel_rfl) (by kernel_rfl) (Or.inl ⟨by rfl, unib_val ?_⟩) ?_; rotate_left; (focus (intro w9 hSw; go_simp; try with_reducible rfl)); simp only [Act.put, List.setIfInBounds_toArray, List.set_cons_zero, List.set_cons_succ]
              refine wpG_take (i := 9) (oi := ⟨some 39, _, _, _, _, _⟩) (v := ?_) rfl (by kernel_rfl) (by kernel_rfl) (by kernel_rfl) (Or.inl ⟨by rfl, unib_val ?_⟩) ?_; rotate_left; (focus (intro w9 hSw; go_simp; try with_reducible rfl)); simp only [Act.put, List.setIfInBounds_toArray, List.set_cons_zero, List.set_cons_succ]
              refine wpG_take (i := 10) (oi := ⟨some 40, _, _, _, _, _⟩) rfl (by kernel_rfl) (by kernel_rfl) (by kernel_rfl) (Or.inr ⟨by rfl, rfl⟩) ?_; simp only [Act.put, List.setIfInBounds_toArray, List.set_cons_zero, List.set_cons_succ]
              refine wpG_take (i := 11) (oi := ⟨some 41, _, _, _, _, _⟩) rfl (by kernel_rfl) (by kernel_rfl) (by kernel_rfl) (Or.inr ⟨by rfl, rfl⟩) ?_; simp only [Act.put, List.setIfInBounds_toArray, List.set_cons_zero, List.set_cons_succ]
              refine wpG_take (i := 12) (oi := ⟨some 42, _, _, _, _, _⟩) rfl (by kernel_rfl) (by kernel_rfl) (by kernel_rfl) (Or.inr ⟨by rfl, rfl⟩) ?_; simp only [Act.put, List.setIfInBounds_toArray, List.set_cons_zero, List.set_cons_succ]
              refine wpG_take (i := 13) (oi := ⟨some 43, _, _, _, _, _⟩) rfl (by kernel_rfl) (by kernel_rfl) (by kernel_rfl) (Or.inr ⟨by rfl, rfl⟩) ?_; simp only [Act.put, List.setIfInBounds_toArray, List.set_cons_zero, List.set_cons_succ]
              refine wpG_take (i := 14) (oi := ⟨some 44, _, _, _, _, _⟩) rfl (by kernel_rfl) (by kernel_rfl) (by kernel_rfl) (Or.inr ⟨by rfl, rfl⟩) ?_; simp only [Act.put, List.setIfInBounds_toArray, List.set_cons_zero, List.set_cons_succ]
              refine wpG_take (i := 15) (oi := ⟨some 45, _, _, _, _, _⟩) rfl (by kernel_rfl) (by kernel_rfl) (by kernel_rfl) (Or.inr ⟨by rfl, rfl⟩) ?_; simp only [Act.put, List.setIfInBounds_toArray, List.set_cons_zero, List.set_cons_succ]
              refine wpG_take (i := 16) (oi := ⟨some 46, _, _, _, _, _⟩) rfl (by kernel_rfl) (by kernel_rfl) (by kernel_rfl) (Or.inr ⟨by rfl, rfl⟩) ?_; simp only [Act.put, List.setIfInBounds_toArray, List.set_cons_zero, List.set_cons_succ]
              refine wpG_take (i := 17) (oi := ⟨some 47, _, _, _, _, _⟩) rfl (by kernel_rfl) (by kernel_rfl) (by kernel_rfl) (Or.inr ⟨by rfl, rfl⟩) ?_; simp only [Act.put, List.setIfInBounds_toArray, List.set_cons_zero, List.set_cons_succ]
              refine wpG_take (i := 18) (oi := ⟨some 48, _, _, _, _, _⟩) rfl (by kernel_rfl) (by kernel_rfl) (by kernel_rfl) (Or.inr ⟨by rfl, rfl⟩) ?_; simp only [Act.put, List.setIfInBounds_toArray, List.set_cons_zero, List.set_cons_succ]
              refine wpG_take (i := 19) (oi := ⟨some 49, _, _, _, _, _⟩) rfl (by kernel_rfl) (by kernel_rfl) (by kernel_rfl) (Or.inr ⟨by rfl, rfl⟩) ?_; simp only [Act.put, List.setIfInBounds_toArray, List.set_cons_zero, List.set_cons_succ]
              refine wpG_take (i := 20) (oi := ⟨some 50, _, _, _, _, _⟩) rfl (by kernel_rfl) (by kernel_rfl) (by kernel_rfl) (Or.inr ⟨by rfl, rfl⟩) ?_; simp only [Act.put, List.setIfInBounds_toArray, List.set_cons_zero, List.set_cons_succ]
              refine wpG_take (i := 21) (oi := ⟨some 51, _, _, _, _, _⟩) rfl (by kernel_rfl) (by kernel_rfl) (by kernel_rfl) (Or.inr ⟨by rfl, rfl⟩) ?_; simp only [Act.put, List.setIfInBounds_toArray, List.set_cons_zero, List.set_cons_succ]
              refine wpG_take (i := 22) (oi := ⟨some 52, _, _, _, _, _⟩) rfl (by kernel_rfl) (by kernel_rfl) (by kernel_rfl) (Or.inr ⟨by rfl, rfl⟩) ?_; simp only [Act.put, List.setIfInBounds_toArray, List.set_cons_zero, List.set_cons_succ]
              refine wpG_take (i := 23) (oi := ⟨some 53, _, _, _, _, _⟩) rfl (by kernel_rfl) (by kernel_rfl) (by kernel_rfl) (Or.inr ⟨by rfl, rfl⟩) ?_; simp only [Act.put, List.setIfInBounds_toArray, List.set_cons_zero, List.set_cons_succ]
              refine wpG_take (i := 24) (oi := ⟨some 54, _, _, _, _, _⟩) (v := ?_) rfl (by kernel_rfl) (by kernel_rfl) (by kernel_rfl) (Or.inl ⟨by rfl, unib_val ?_⟩) ?_; rotate_left; (focus (intro w9 hSw; go_simp; try with_reducible rfl)); simp only [Act.put, List.setIfInBounds_toArray, List.set_cons_zero, List.set_cons_succ]
              refine wpG_done (by kernel_rfl) ?_ _
              intro w9 hSw _
              have S9 := Lib.hid hSw
              clear hSw
              have HO := Lib.hid (own_below HO.out S9.out)
              have HBB := Lib.hid (HBB.out.trans (S9.out.mono HBB.out.size))
              have OKX := Lib.hid (pcNew_ok (i := (q : Int)) (by omega) (by omega))
              have O1 := Lib.hid ((HO.out).alloc (.cells (KPc.cs (pcNew (q : Int))).toArray 44))
              have B2 := Lib.hid ((HBB.out).alloc (HBB.out).size (.cells (KPc.cs (pcNew (q : Int))).toArray 44))
              have R2 := Lib.hid (Kind.row_one (K := KPc) (w := w9) (x := (pcNew (q : Int))) (t := 44) OKX.out)
              have VL : Hid ((j + 1) + 1 ≤ 10000000) := Lib.hid (by have := PF.out.1; omega)
              have VS := Lib.hid B2.out.size
              have XL := Lib.hid (show (KPc.cs (pcNew (q : Int))).length = KPc.n from rfl)
              have HBD := Lib.hid (fun w9 => build_new (q : Int) w9)
              rw [show KPc.v (pcNew (q : Int)) = .agg (KPc.cs (pcNew (q : Int))).toArray from rfl] at HBD
              go_wp2_with (first | ((with_reducible refine wpList_build_at (o := ⟨some 68, .build 44 #[(0, .const (.bool true)), (1, .tmp 67), (2, .const (.int .i64 8))], _, _, _, _⟩) ?e1 44 #[(0, .const (.bool true)), (1, .tmp 67), (2, .const (.int .i64 8))] ?e2 #[(0, .bool true), (1, .int .i64 (8 * (q : Int))), (2, .int .i64 8)] ?e3 _ (HBD.out _) ?_); (case e1 => rfl); (case e2 => rfl); (case e3 => (simp only [List.map_toArray, List.map_cons, List.map_nil]; rfl))) | ((with_reducible refine wpList_bsliceK (K := KPc) (o := ⟨some 69, .buildSlice 22 1 #[(0, .tmp 68)], _, _, _, _⟩) ?e1 (.tmp 68) ?e2 (pcNew (q : Int)) ?e3 XL.out Tryd.underlying22 sizePc zeroPc nPc ?_); (case e1 => rfl); (case e2 => rfl); (case e3 => rfl)) | (at_builtin; refine wpList_append_K (K := KPc) _ rfl _ _ 22 rfl w.heap.size 44 i0 _ 40 Tryd.underlying22 hi hz0 hz1 hz2 hzl (by omega) _ (j + 1) (init ++ [p]) rfl O1.out (some ⟨w9.heap.size, 0, none⟩) 1 1 [(pcNew (q : Int))] rfl R2.out rfl VL.out VS.out ?_; intro v3 w3 ho3 hg3; have O3 := Lib.hid ho3; have B3 := Lib.hid (B2.out.grown hg3 B2.out.size (fun g hg => own_base O1.out hg)); obtain ⟨g13, cap13, rfl⟩ := ownsRow_succ ho3; clear ho3 hg3))
              go_roundw
              case rel => exact ⟨a + 8, init ++ [p] ++ [(pcNew (q : Int))], by omega, by go_num, by rw [List.length_append, List.length_append, HJ.out]; exact O3.out, HFIT.out, B3.out, HF.out⟩
              case measure => simp [intOf]; omega
            · rw [hcp] at k0
              have K0 := Lib.hid k0
              by_cases heq : p.fr + p.ln = 8 * (q : Int)
              · have HF := Lib.hid hfc
                have HFIT := Lib.hid HCF.out
                rw [pcopy_on ⟨hcp, heq⟩] at HF HFIT
                have FE := Lib.hid heq
                have f12 : IntKind.i64.wrap (p.ln + 8) = p.ln + 8 := IntWalk.i64_in _ (by omega)
                generalize hjo : j * 4 = o at *
                have HJO := Lib.hid hjo
                clear hfc k0 k1 k2 k3 hat hj hbg hgw hjo heq
                go_wp2_with fail
                refine wp_region_G _ (by kernel_rfl) ?_
                refine wpG_take (i := 0) (oi := ⟨some 30, _, _, _, _, _⟩) (v := ?_) rfl (by kernel_rfl) (by kernel_rfl) (by kernel_rfl) (Or.inl ⟨by rfl, unib_val ?_⟩) ?_; rotate_left; (focus (intro w9 hSw; go_simp; try with_reducible rfl)); simp only [Act.put, List.setIfInBounds_toArray, List.set_cons_zero, List.set_cons_succ]
                refine wpG_take (i := 1) (oi := ⟨some 31, _, _, _, _, _⟩) (v := ?_) rfl (by kernel_rfl) (by kernel_rfl) (by kernel_rfl) (Or.inl ⟨by rfl, unib_val ?_⟩) ?_; rotate_left; (focus (intro w9 hSw; go_simp; try with_reducible rfl)); simp only [Act.put, List.setIfInBounds_toArray, List.set_cons_zero, List.set_cons_succ]
                refine wpG_take (i := 2) (oi := ⟨some 32, _, _, _, _, _⟩) (v := ?_) rfl (by kernel_rfl) (by kernel_rfl) (by kernel_rfl) (Or.inl ⟨by rfl, unib_val ?_⟩) ?_; rotate_left; (focus (intro w9 hSw; go_simp; try with_reducible rfl)); simp only [Act.put, List.setIfInBounds_toArray, List.set_cons_zero, List.set_cons_succ]
                refine wpG_take (i := 3) (oi := ⟨some 33, _, _, _, _, _⟩) (v := ?_) rfl (by kernel_rfl) (by kernel_rfl) (by kernel_rfl) (Or.inl ⟨by rfl, unib_val ?_⟩) ?_; rotate_left; (focus (intro w9 hSw; go_simp; try with_reducible rfl)); simp only [Act.put, List.setIfInBounds_toArray, List.set_cons_zero, List.set_cons_succ]
                refine wpG_take (i := 4) (oi := ⟨some 34, _, _, _, _, _⟩) (v := ?_) rfl (by kernel_rfl) (by kernel_rfl) (by kernel_rfl) (Or.inl ⟨by rfl, unib_val ?_⟩) ?_; rotate_left; (focus (intro w9 hSw; go_simp; try with_reducible rfl)); simp only [Act.put, List.setIfInBounds_toArray, List.set_cons_zero, List.set_cons_succ]
                refine wpG_take (i := 5) (oi := ⟨some 35, _, _, _, _, _⟩) (v := ?_) rfl (by kernel_rfl) (by kernel_rfl) (by kernel_rfl) (Or.inl ⟨by rfl, unib_val ?_⟩) ?_; rotate_left; (focus (intro w9 hSw; have q0 := IX.out w9; go_simp; try with_reducible rfl)); simp only [Act.put, List.setIfInBounds_toArray, List.set_cons_zero, List.set_cons_succ]
                refine wpG_take (i := 6) (oi := ⟨some 36, _, _, _, _, _⟩) (v := ?_) rfl (by kernel_rfl) (by kernel_rfl) (by kernel_rfl) (Or.inl ⟨by rfl, unib_val ?_⟩) ?_; rotate_left; (focus (intro w9 hSw; go_simp; try with_reducible rfl)); simp only [Act.put, List.setIfInBounds_toArray, List.set_cons_zero, List.set_cons_succ]
                refine wpG_take (i := 7) (oi := ⟨some 37, _, _, _, _, _⟩) (v := ?_) rfl (by kernel_rfl) (by kernel_rfl) (by kernel_rfl) (Or.inl ⟨by rfl, unib_val ?_⟩) ?_; rotate_left; (focus (intro w9 hSw; have q0 := (hSw.cell (p := ⟨g, o, none⟩) HGW.out).trans K0.out; go_simp; try with_reducible rfl)); simp only [Act.put, List.setIfInBounds_toArray, List.set_cons_zero, List.set_cons_succ]
                refine wpG_take (i := 8) (oi := ⟨some 38, _, _, _, _, _⟩) (v := ?_) rfl (by kernel_rfl) (by kernel_rfl) (by kernel_rfl) (Or.inl ⟨by rfl, unib_val ?_⟩) ?_; rotate_left; (focus (intro w9 hSw; go_simp; try with_reducible rfl)); simp only [Act.put, List.setIfInBounds_toArray, List.set_cons_zero, List.set_cons_succ]
                refine wpG_take (i := 9) (oi := ⟨some 39, _, _, _, _, _⟩) (v := ?_) rfl (by kernel_rfl) (by kernel_rfl) (by kernel_rfl) (Or.inl ⟨by rfl, unib_val ?_⟩) ?_; rotate_left; (focus (intro w9 hSw; go_simp; try with_reducible rfl)); simp only [Act.put, List.setIfInBounds_toArray, List.set_cons_zero, List.set_cons_succ]
                refine wpG_take (i := 10) (oi := ⟨some 40, _, _, _, _, _⟩) (v := ?_) rfl (by kernel_rfl) (by kernel_rfl) (by kernel_rfl) (Or.inl ⟨by rfl, unib_val ?_⟩) ?_; rotate_left; (focus (intro w9 hSw; go_simp; try with_reducible rfl)); simp only [Act.put, List.setIfInBounds_toArray, List.set_cons_zero, List.set_cons_succ]
                refine wpG_take (i := 11) (oi := ⟨some 41, _, _, _, _, _⟩) (v := ?_) rfl (by kernel_rfl) (by kernel_rfl) (by kernel_rfl) (Or.inl ⟨by rfl, unib_val ?_⟩) ?_; rotate_left; (focus (intro w9 hSw; go_simp; try with_reducible rfl)); simp only [Act.put, List.setIfInBounds_toArray, List.set_cons_zero, List.set_cons_succ]
                refine wpG_take (i := 12) (oi := ⟨some 42, _, _, _, _, _⟩) (v := ?_) rfl (by kernel_rfl) (by kernel_rfl) (by kernel_rfl) (Or.inl ⟨by rfl, unib_val ?_⟩) ?_; rotate_left; (focus (intro w9 hSw; have q0 := IX.out w9; go_simp; try with_reducible rfl)); simp only [Act.put, List.setIfInBounds_toArray, List.set_cons_zero, List.set_cons_succ]
                refine wpG_take (i := 13) (oi := ⟨some 43, _, _, _, _, _⟩) (v := ?_) rfl (by kernel_rfl) (by kernel_rfl) (by kernel_rfl) (Or.inl ⟨by rfl, unib_val ?_⟩) ?_; rotate_left; (focus (intro w9 hSw; go_simp; try with_reducible rfl)); simp only [Act.put, List.setIfInBounds_toArray, List.set_cons_zero, List.set_cons_succ]
                refine wpG_take (i := 14) (oi := ⟨some 44, _, _, _, _, _⟩) (v := ?_) rfl (by kernel_rfl) (by kernel_rfl) (by kernel_rfl) (Or.inl ⟨by rfl, unib_val ?_⟩) ?_; rotate_left; (focus (intro w9 hSw; have q0 := (hSw.cell (p := ⟨g, o + 1, none⟩) HGW.out).trans K1.out; go_simp; try with_reducible rfl)); simp only [Act.put, List.setIfInBounds_toArray, List.set_cons_zero, List.set_cons_succ]
                refine wpG_take (i := 15) (oi := ⟨some 45, _, _, _, _, _⟩) (v := ?_) rfl (by kernel_rfl) (by kernel_rfl) (by kernel_rfl) (Or.inl ⟨by rfl, unib_val ?_⟩) ?_; rotate_left; (focus (intro w9 hSw; go_simp; try with_reducible rfl)); simp only [Act.put, List.setIfInBounds_toArray, List.set_cons_zero, List.set_cons_succ]
                refine wpG_take (i := 16) (oi := ⟨some 46, _, _, _, _, _⟩) (v := ?_) rfl (by kernel_rfl) (by kernel_rfl) (by kernel_rfl) (Or.inl ⟨by rfl, unib_val ?_⟩) ?_; rotate_left; (focus (intro w9 hSw; go_simp; try with_reducible rfl)); simp only [Act.put, List.setIfInBounds_toArray, List.set_cons_zero, List.set_cons_succ]
                refine wpG_take (i := 17) (oi := ⟨some 47, _, _, _, _, _⟩) (v := ?_) rfl (by kernel_rfl) (by kernel_rfl) (by kernel_rfl) (Or.inl ⟨by rfl, unib_val ?_⟩) ?_; rotate_left; (focus (intro w9 hSw; have q0 := IX.out w9; go_simp; try with_reducible rfl)); simp only [Act.put, List.setIfInBounds_toArray, List.set_cons_zero, List.set_cons_succ]
                refine wpG_take (i := 18) (oi := ⟨some 48, _, _, _, _, _⟩) (v := ?_) rfl (by kernel_rfl) (by kernel_rfl) (by kernel_rfl) (Or.inl ⟨by rfl, unib_val ?_⟩) ?_; rotate_left; (focus (intro w9 hSw; go_simp; try with_reducible rfl)); simp only [Act.put, List.setIfInBounds_toArray, List.set_cons_zero, List.set_cons_succ]
                refine wpG_take (i := 19) (oi := ⟨some 49, _, _, _, _, _⟩) (v := ?_) rfl (by kernel_rfl) (by kernel_rfl) (by kernel_rfl) (Or.inl ⟨by rfl, unib_val ?_⟩) ?_; rotate_left; (focus (intro w9 hSw; have q0 := (hSw.cell (p := ⟨g, o + 2, none⟩) HGW.out).trans K2.out; go_simp; try with_reducible rfl)); simp only [Act.put, List.setIfInBounds_toArray, List.set_cons_zero, List.set_cons_succ]
                refine wpG_take (i := 20) (oi := ⟨some 50, _, _, _, _, _⟩) (v := ?_) rfl (by kernel_rfl) (by kernel_rfl) (by kernel_rfl) (Or.inl ⟨by rfl, unib_val ?_⟩) ?_; rotate_left; (focus (intro w9 hSw; have q0 := FS.out; go_simp; try with_reducible rfl)); simp only [Act.put, List.setIfInBounds_toArray, List.set_cons_zero, List.set_cons_succ]
                refine wpG_take (i := 21) (oi := ⟨some 51, _, _, _, _, _⟩) (v := ?_) rfl (by kernel_rfl) (by kernel_rfl) (by kernel_rfl) (Or.inl ⟨by rfl, unib_val ?_⟩) ?_; rotate_left; (focus (intro w9 hSw; go_simp; try with_reducible rfl)); simp only [Act.put, List.setIfInBounds_toArray, List.set_cons_zero, List.set_cons_succ]
                refine wpG_take (i := 22) (oi := ⟨some 52, _, _, _, _, _⟩) (v := ?_) rfl (by kernel_rfl) (by kernel_rfl) (by kernel_rfl) (Or.inl ⟨by rfl, unib_val ?_⟩) ?_; rotate_left; (focus (intro w9 hSw; have q0 := FM.out; go_simp; try with_reducible rfl)); simp only [Act.put, List.setIfInBounds_toArray, List.set_cons_zero, List.set_cons_succ]
                refine wpG_take (i := 23) (oi := ⟨some 53, _, _, _, _, _⟩) (v := ?_) rfl (by kernel_rfl) (by kernel_rfl) (by kernel_rfl) (Or.inl ⟨by rfl, unib_val ?_⟩) ?_; rotate_left; (focus (intro w9 hSw; have q0 := FE.out; go_simp; try with_reducible rfl)); simp only [Act.put, List.setIfInBounds_toArray, List.set_cons_zero, List.set_cons_succ]
                refine wpG_take (i := 24) (oi := ⟨some 54, _, _, _, _, _⟩) (v := ?_) rfl (by kernel_rfl) (by kernel_rfl) (by kernel_rfl) (Or.inl ⟨by rfl, unib_val ?_⟩) ?_; rotate_left; (focus (intro w9 hSw; go_simp; try with_reducible rfl)); simp only [Act.put, List.setIfInBounds_toArray, List.set_cons_zero, List.set_cons_succ]
                refine wpG_done (by kernel_rfl) ?_ _
                intro w9 hSw _
                have S9 := Lib.hid hSw
                clear hSw
                have HO := Lib.hid (own_below HO.out S9.out)
                have HBB := Lib.hid (HBB.out.trans (S9.out.mono HBB.out.size))
                have k2 := (S9.out.cell (p := ⟨g, o + 2, none⟩) HGW.out).trans K2.out
                obtain ⟨ho3, hfz⟩ := own_put (q := ⟨p.cp, p.fr, p.ln + 8, p.lit⟩) (i := 2) (u := .int .i64 (p.ln + 8)) HJ.out HO.out (by decide) rfl
                rw [HJO.out] at ho3 hfz
                have O3 := Lib.hid ho3
                have B3 := Lib.hid (HBB.out.setCell (p := ⟨g, o + 2, none⟩) HBG.out (.int .i64 (p.ln + 8)))
                clear ho3
                go_wp2
                go_roundw
                case rel => exact ⟨a + 8, init ++ [⟨p.cp, p.fr, p.ln + 8, p.lit⟩], by omega, by go_num, by rw [List.length_append, HJ.out]; exact O3.out, HFIT.out, B3.out, HF.out⟩
                case measure => simp [intOf]; omega
              · have HF := Lib.hid hfc
                have HFIT := Lib.hid HCF.out
                rw [pcopy_new (fun h => heq h.2)] at HF HFIT
                have FE := Lib.hid heq
                generalize hjo : j * 4 = o at *
                clear hfc k0 k1 k2 k3 hat hj hbg hgw hjo
                go_wp2_with fail
                refine wp_region_G _ (by kernel_rfl) ?_
                refine wpG_take (i := 0) (oi := ⟨some 30, _, _, _, _, _⟩) (v := ?_) rfl (by kernel_rfl) (by kernel_rfl) (by kernel_rfl) (Or.inl ⟨by rfl, unib_val ?_⟩) ?_; rotate_left; (focus (intro w9 hSw; go_simp; try with_reducible rfl)); simp only [Act.put, List.setIfInBounds_toArray, List.set_cons_zero, List.set_cons_succ]
                refine wpG_take (i := 1) (oi := ⟨some 31, _, _, _, _, _⟩) (v := ?_) rfl (by kernel_rfl) (by kernel_rfl) (by kernel_rfl) (Or.inl ⟨by rfl, unib_val ?_⟩) ?_; rotate_left; (focus (intro w9 hSw; go_simp; try with_reducible rfl)); simp only [Act.put, List.setIfInBounds_toArray, List.set_cons_zero, List.set_cons_succ]
                refine wpG_take (i := 2) (oi := ⟨some 32, _, _, _, _, _⟩) (v := ?_) rfl (by kernel_rfl) (by kernel_rfl) (by kernel_rfl) (Or.inl ⟨by rfl, unib_val ?_⟩) ?_; rotate_left; (focus (intro w9 hSw; go_simp; try with_reducible rfl)); simp only [Act.put, List.setIfInBounds_toArray, List.set_cons_zero, List.set_cons_succ]
                refine wpG_take (i := 3) (oi := ⟨some 33, _, _, _, _, _⟩) (v := ?_) rfl (by kernel_rfl) (by kernel_rfl) (by kernel_rfl) (Or.inl ⟨by rfl, unib_val ?_⟩) ?_; rotate_left; (focus (intro w9 hSw; go_simp; try with_reducible rfl)); simp only [Act.put, List.setIfInBounds_toArray, List.set_cons_zero, List.set_cons_succ]
                refine wpG_take (i := 4) (oi := ⟨some 34, _, _, _, _, _⟩) (v := ?_) rfl (by kernel_rfl) (by kernel_rfl) (by kernel_rfl) (Or.inl ⟨by rfl, unib_val ?_⟩) ?_; rotate_left; (focus (intro w9 hSw; go_simp; try with_reducible rfl)); simp only [Act.put, List.setIfInBounds_toArray, List.set_cons_zero, List.set_cons_succ]
                refine wpG_take (i := 5) (oi := ⟨some 35, _, _, _, _, _⟩) (v := ?_) rfl (by kernel_rfl) (by kernel_rfl) (by kernel_rfl) (Or.inl ⟨by rfl, unib_val ?_⟩) ?_; rotate_left; (focus (intro w9 hSw; have q0 := IX.out w9; go_simp; try with_reducible rfl)); simp only [Act.put, List.setIfInBounds_toArray, List.set_cons_zero, List.set_cons_succ]
                refine wpG_take (i := 6) (oi := ⟨some 36, _, _, _, _, _⟩) (v := ?_) rfl (by kernel_rfl) (by kernel_rfl) (by kernel_rfl) (Or.inl ⟨by rfl, unib_val ?_⟩) ?_; rotate_left; (focus (intro w9 hSw; go_simp; try with_reducible rfl)); simp only [Act.put, List.setIfInBounds_toArray, List.set_cons_zero, List.set_cons_succ]
                refine wpG_take (i := 7) (oi := ⟨some 37, _, _, _, _, _⟩) (v := ?_) rfl (by kernel_rfl) (by kernel_rfl) (by kernel_rfl) (Or.inl ⟨by rfl, unib_val ?_⟩) ?_; rotate_left; (focus (intro w9 hSw; have q0 := (hSw.cell (p := ⟨g, o, none⟩) HGW.out).trans K0.out; go_simp; try with_reducible rfl)); simp only [Act.put, List.setIfInBounds_toArray, List.set_cons_zero, List.set_cons_succ]
                refine wpG_take (i := 8) (oi := ⟨some 38, _, _, _, _, _⟩) (v := ?_) rfl (by kernel_rfl) (by kernel_rfl) (by kernel_rfl) (Or.inl ⟨by rfl, unib_val ?_⟩) ?_; rotate_left; (focus (intro w9 hSw; go_simp; try with_reducible rfl)); simp only [Act.put, List.setIfInBounds_toArray, List.set_cons_zero, List.set_cons_succ]
                refine wpG_take (i := 9) (oi := ⟨some 39, _, _, _, _, _⟩) (v := ?_) rfl (by kernel_rfl) (by kernel_rfl) (by kernel_rfl) (Or.inl ⟨by rfl, unib_val ?_⟩) ?_; rotate_left; (focus (intro w9 hSw; go_simp; try with_reducible rfl)); simp only [Act.put, List.setIfInBounds_toArray, List.set_cons_zero, List.set_cons_succ]
                refine wpG_take (i := 10) (oi := ⟨some 40, _, _, _, _, _⟩) (v := ?_) rfl (by kernel_rfl) (by kernel_rfl) (by kernel_rfl) (Or.inl ⟨by rfl, unib_val ?_⟩) ?_; rotate_left; (focus (intro w9 hSw; go_simp; try with_reducible rfl)); simp only [Act.put, List.setIfInBounds_toArray, List.set_cons_zero, List.set_cons_succ]
                refine wpG_take (i := 11) (oi := ⟨some 41, _, _, _, _, _⟩) (v := ?_) rfl (by kernel_rfl) (by kernel_rfl) (by kernel_rfl) (Or.inl ⟨by rfl, unib_val ?_⟩) ?_; rotate_left; (focus (intro w9 hSw; go_simp; try with_reducible rfl)); simp only [Act.put, List.setIfInBounds_toArray, List.set_cons_zero, List.set_cons_succ]
                refine wpG_take (i := 12) (oi := ⟨some 42, _, _, _, _, _⟩) (v := ?_) rfl (by kernel_rfl) (by kernel_rfl) (by kernel_rfl) (Or.inl ⟨by rfl, unib_val ?_⟩) ?_; rotate_left; (focus (intro w9 hSw; have q0 := IX.out w9; go_simp; try with_reducible rfl)); simp only [Act.put, List.setIfInBounds_toArray, List.set_cons_zero, List.set_cons_succ]
                refine wpG_take (i := 13) (oi := ⟨some 43, _, _, _, _, _⟩) (v := ?_) rfl (by kernel_rfl) (by kernel_rfl) (by kernel_rfl) (Or.inl ⟨by rfl, unib_val ?_⟩) ?_; rotate_left; (focus (intro w9 hSw; go_simp; try with_reducible rfl)); simp only [Act.put, List.setIfInBounds_toArray, List.set_cons_zero, List.set_cons_succ]
                refine wpG_take (i := 14) (oi := ⟨some 44, _, _, _, _, _⟩) (v := ?_) rfl (by kernel_rfl) (by kernel_rfl) (by kernel_rfl) (Or.inl ⟨by rfl, unib_val ?_⟩) ?_; rotate_left; (focus (intro w9 hSw; have q0 := (hSw.cell (p := ⟨g, o + 1, none⟩) HGW.out).trans K1.out; go_simp; try with_reducible rfl)); simp only [Act.put, List.setIfInBounds_toArray, List.set_cons_zero, List.set_cons_succ]
                refine wpG_take (i := 15) (oi := ⟨some 45, _, _, _, _, _⟩) (v := ?_) rfl (by kernel_rfl) (by kernel_rfl) (by kernel_rfl) (Or.inl ⟨by rfl, unib_val ?_⟩) ?_; rotate_left; (focus (intro w9 hSw; go_simp; try with_reducible rfl)); simp only [Act.put, List.setIfInBounds_toArray, List.set_cons_zero, List.set_cons_succ]
                refine wpG_take (i := 16) (oi := ⟨some 46, _, _, _, _, _⟩) (v := ?_) rfl (by kernel_rfl) (by kernel_rfl) (by kernel_rfl) (Or.inl ⟨by rfl, unib_val ?_⟩) ?_; rotate_left; (focus (intro w9 hSw; go_simp; try with_reducible rfl)); simp only [Act.put, List.setIfInBounds_toArray, List.set_cons_zero, List.set_cons_succ]
                refine wpG_take (i := 17) (oi := ⟨some 47, _, _, _, _, _⟩) (v := ?_) rfl (by kernel_rfl) (by kernel_rfl) (by kernel_rfl) (Or.inl ⟨by rfl, unib_val ?_⟩) ?_; rotate_left; (focus (intro w9 hSw; have q0 := IX.out w9; go_simp; try with_reducible rfl)); simp only [Act.put, List.setIfInBounds_toArray, List.set_cons_zero, List.set_cons_succ]
                refine wpG_take (i := 18) (oi := ⟨some 48, _, _, _, _, _⟩) (v := ?_) rfl (by kernel_rfl) (by kernel_rfl) (by kernel_rfl) (Or.inl ⟨by rfl, unib_val ?_⟩) ?_; rotate_left; (focus (intro w9 hSw; go_simp; try with_reducible rfl)); simp only [Act.put, List.setIfInBounds_toArray, List.set_cons_zero, List.set_cons_succ]
                refine wpG_take (i := 19) (oi := ⟨some 49, _, _, _, _, _⟩) (v := ?_) rfl (by kernel_rfl) (by kernel_rfl) (by kernel_rfl) (Or.inl ⟨by rfl, unib_val ?_⟩) ?_; rotate_left; (focus (intro w9 hSw; have q0 := (hSw.cell (p := ⟨g, o + 2, none⟩) HGW.out).trans K2.out; go_simp; try with_reducible rfl)); simp only [Act.put, List.setIfInBounds_toArray, List.set_cons_zero, List.set_cons_succ]
                refine wpG_take (i := 20) (oi := ⟨some 50, _, _, _, _, _⟩) (v := ?_) rfl (by kernel_rfl) (by kernel_rfl) (by kernel_rfl) (Or.inl ⟨by rfl, unib_val ?_⟩) ?_; rotate_left; (focus (intro w9 hSw; have q0 := FS.out; go_simp; try with_reducible rfl)); simp only [Act.put, List.setIfInBounds_toArray, List.set_cons_zero, List.set_cons_succ]
                refine wpG_take (i := 21) (oi := ⟨some 51, _, _, _, _, _⟩) (v := ?_) rfl (by kernel_rfl) (by kernel_rfl) (by kernel_rfl) (Or.inl ⟨by rfl, unib_val ?_⟩) ?_; rotate_left; (focus (intro w9 hSw; go_simp; try with_reducible rfl)); simp only [Act.put, List.setIfInBounds_toArray, List.set_cons_zero, List.set_cons_succ]
                refine wpG_take (i := 22) (oi := ⟨some 52, _, _, _, _, _⟩) (v := ?_) rfl (by kernel_rfl) (by kernel_rfl) (by kernel_rfl) (Or.inl ⟨by rfl, unib_val ?_⟩) ?_; rotate_left; (focus (intro w9 hSw; have q0 := FM.out; go_simp; try with_reducible rfl)); simp only [Act.put, List.setIfInBounds_toArray, List.set_cons_zero, List.set_cons_succ]
                refine wpG_take (i := 23) (oi := ⟨some 53, _, _, _, _, _⟩) (v := ?_) rfl (by kernel_rfl) (by kernel_rfl) (by kernel_rfl) (Or.inl ⟨by rfl, unib_val ?_⟩) ?_; rotate_left; (focus (intro w9 hSw; have q0 := FE.out; go_simp; try with_reducible rfl)); simp only [Act.put, List.setIfInBounds_toArray, List.set_cons_zero, List.set_cons_succ]
                refine wpG_take (i := 24) (oi := ⟨some 54, _, _, _, _, _⟩) (v := ?_) rfl (by kernel_rfl) (by kernel_rfl) (by kernel_rfl) (Or.inl ⟨by rfl, unib_val ?_⟩) ?_; rotate_left; (focus (intro w9 hSw; go_simp; try with_reducible rfl)); simp only [Act.put, List.setIfInBounds_toArray, List.set_cons_zero, List.set_cons_succ]
                refine wpG_done (by kernel_rfl) ?_ _
                intro w9 hSw _
                have S9 := Lib.hid hSw
                clear hSw
                have HO := Lib.hid (own_below HO.out S9.out)
                have HBB := Lib.hid (HBB.out.trans (S9.out.mono HBB.out.size))
                have OKX := Lib.hid (pcNew_ok (i := (q : Int)) (by omega) (by omega))
                have O1 := Lib.hid ((HO.out).alloc (.cells (KPc.cs (pcNew (q : Int))).toArray 44))
                have B2 := Lib.hid ((HBB.out).alloc (HBB.out).size (.cells (KPc.cs (pcNew (q : Int))).toArray 44))
                have R2 := Lib.hid (Kind.row_one (K := KPc) (w := w9) (x := (pcNew (q : Int))) (t := 44) OKX.out)
                have VL : Hid ((j + 1) + 1 ≤ 10000000) := Lib.hid (by have := PF.out.1; omega)
                have VS := Lib.hid B2.out.size
                have XL := Lib.hid (show (KPc.cs (pcNew (q : Int))).length = KPc.n from rfl)
                have HBD := Lib.hid (fun w9 => build_new (q : Int) w9)
                rw [show KPc.v (pcNew (q : Int)) = .agg (KPc.cs (pcNew (q : Int))).toArray from rfl] at HBD
                go_wp2_with (first | ((with_reducible refine wpList_build_at (o := ⟨some 68, .build 44 #[(0, .const (.bool true)), (1, .tmp 67), (2, .const (.int .i64 8))], _, _, _, _⟩) ?e1 44 #[(0, .const (.bool true)), (1, .tmp 67), (2, .const (.int .i64 8))] ?e2 #[(0, .bool true), (1, .int .i64 (8 * (q : Int))), (2, .int .i64 8)] ?e3 _ (HBD.out _) ?_); (case e1 => rfl); (case e2 => rfl); (case e3 => (simp only [List.map_toArray, List.map_cons, List.map_nil]; rfl))) | ((with_reducible refine wpList_bsliceK (K := KPc) (o := ⟨some 69, .buildSlice 22 1 #[(0, .tmp 68)], _, _, _, _⟩) ?e1 (.tmp 68) ?e2 (pcNew (q : Int)) ?e3 XL.out Tryd.underlying22 sizePc zeroPc nPc ?_); (case e1 => rfl); (case e2 => rfl); (case e3 => rfl)) | (at_builtin; refine wpList_append_K (K := KPc) _ rfl _ _ 22 rfl w.heap.size 44 i0 _ 40 Tryd.underlying22 hi hz0 hz1 hz2 hzl (by omega) _ (j + 1) (init ++ [p]) rfl O1.out (some ⟨w9.heap.size, 0, none⟩) 1 1 [(pcNew (q : Int))] rfl R2.out rfl VL.out VS.out ?_; intro v3 w3 ho3 hg3; have O3 := Lib.hid ho3; have B3 := Lib.hid (B2.out.grown hg3 B2.out.size (fun g hg => own_base O1.out hg)); obtain ⟨g13, cap13, rfl⟩ := ownsRow_succ ho3; clear ho3 hg3))
                go_roundw
                case rel => exact ⟨a + 8, init ++ [p] ++ [(pcNew (q : Int))], by omega, by go_num, by rw [List.length_append, List.length_append, HJ.out]; exact O3.out, HFIT.out, B3.out, HF.out⟩
                case measure => simp [intOf]; omega
        · have hq : pfind sig s a = -1 := by
            have h := hfd
            unfold pfind at h ⊢
            split
            · rename_i h9
              rw [if_pos h9] at h
              unfold sgFind at h ⊢
              split
              · rename_i h10
                rw [if_pos h10] at h
                rcases sgFrom_cases (sgOne (nums (s.extract a (a + 8)))) sig 0 with ⟨h2, _⟩ | ⟨i, h2, h3, _⟩
                · exact h2
                · rw [h3] at h; exact absurd (by omega) h
              · rfl
            · rfl
          have hft := hf
          rw [pmk_text (by rw [HSZ.out]; exact hlt) hfd] at hft
          rw [hq] at HC
          clear ho hfit hb hf hpf hq hfd
          generalize s.extract a (a + 8) = e8 at *
          go_wp2_with fail
          refine HC.out.mono ?_
          rintro e1 w1 ⟨rfl, hb1⟩
          have HO := Lib.hid (own_below HO.out hb1)
          have HBB := Lib.hid (HBB.out.trans (hb1.mono HBB.out.size))
          clear hb1
          rcases List.eq_nil_or_concat out with hout | ⟨init, p, hout⟩
          · subst hout
            obtain ⟨A1, c1, rfl⟩ := own_pcs HO.out
            have HO := Lib.hid (show w1.ownsRow w.heap.size 44 KPc.n (.slice A1 0 c1) 0 (([] : List Pc).flatMap KPc.cs) from HO.out)
            have HF := Lib.hid hft
            have HFIT := Lib.hid (PF.out.text (c := s.extract a (a + 1)) (by rw [HXS.out]; decide))
            rw [ptext_nil] at HF HFIT
            have OKX := Lib.hid (pcTxt_ok (s.extract a (a + 1)) (by rw [HXS.out]; decide))
            have O1 := Lib.hid ((HO.out).alloc (.cells (KPc.cs (pcTxt (s.extract a (a + 1)))).toArray 44))
            have B2 := Lib.hid ((HBB.out).alloc (HBB.out).size (.cells (KPc.cs (pcTxt (s.extract a (a + 1)))).toArray 44))
            have R2 := Lib.hid (Kind.row_one (K := KPc) (w := w1) (x := (pcTxt (s.extract a (a + 1)))) (t := 44) OKX.out)
            have VL : Hid (0 + 1 ≤ 10000000) := Lib.hid (by have := PF.out.1; omega)
            have VS := Lib.hid B2.out.size
            have XL := Lib.hid (show (KPc.cs (pcTxt (s.extract a (a + 1)))).length = KPc.n from rfl)
            have HBD := Lib.hid (fun w9 => build_txt (s.extract a (a + 1)) w9)
            rw [show KPc.v (pcTxt (s.extract a (a + 1))) = .agg (KPc.cs (pcTxt (s.extract a (a + 1)))).toArray from rfl] at HBD
            have hsl := SL.out
            clear hft
            go_wp2_with (first | ((with_reducible refine wpList_build_at (o := ⟨some 104, .build 44 #[(3, .tmp 103)], _, _, _, _⟩) ?e1 44 #[(3, .tmp 103)] ?e2 #[(3, .string (s.extract a (a + 1)))] ?e3 _ (HBD.out _) ?_); (case e1 => rfl); (case e2 => rfl); (case e3 => (simp only [List.map_toArray, List.map_cons, List.map_nil]; rfl))) | ((with_reducible refine wpList_bsliceK (K := KPc) (o := ⟨some 105, .buildSlice 22 1 #[(0, .tmp 104)], _, _, _, _⟩) ?e1 (.tmp 104) ?e2 (pcTxt (s.extract a (a + 1))) ?e3 XL.out Tryd.underlying22 sizePc zeroPc nPc ?_); (case e1 => rfl); (case e2 => rfl); (case e3 => rfl)) | (at_builtin; refine wpList_append_K (K := KPc) _ rfl _ _ 22 rfl w.heap.size 44 i0 _ 40 Tryd.underlying22 hi hz0 hz1 hz2 hzl (by omega) _ 0 [] rfl O1.out (some ⟨w1.heap.size, 0, none⟩) 1 1 [(pcTxt (s.extract a (a + 1)))] rfl R2.out rfl VL.out VS.out ?_; intro v3 w3 ho3 hg3; have O3 := Lib.hid ho3; have B3 := Lib.hid (B2.out.grown hg3 B2.out.size (fun g hg => own_base O1.out hg)); obtain ⟨g13, cap13, rfl⟩ := ownsRow_succ ho3; clear ho3 hg3))
            go_roundw
            case rel => exact ⟨a + 1, [(pcTxt (s.extract a (a + 1)))], by omega, by go_num, O3.out, HFIT.out, B3.out, HF.out⟩
            case measure => simp [intOf]; omega
          · rw [List.concat_eq_append] at hout
            subst hout
            obtain ⟨j, hj⟩ : ∃ j, init.length = j := ⟨_, rfl⟩
            have hlj : (init ++ [p]).length = j + 1 := by rw [List.length_append, hj]; rfl
            have PF1 := PF.out.1
            rw [hlj] at HO PF1
            have hpp := PF.out.2 p (by simp)
            obtain ⟨g, cap, hv, hbg, hgw, hjc, hat⟩ := own_last hj HO.out
            subst hv
            have hjb : j ≤ 1000000 := by omega
            have f9 : IntKind.i64.wrap ((j : Int) + 1 - 1) = (j : Int) := by rw [IntWalk.i64_in _ (by omega)]; omega
            have ix := pc_ix g j cap (j : Int) rfl
            have t10 : (0 : Int) ≤ (j : Int) := by omega
            have HGW := Lib.hid hgw
            have HJ := Lib.hid hj
            have HBG := Lib.hid hbg
            cases hcp : p.cp
            · have HF := Lib.hid hft
              have HFIT := Lib.hid (PF.out.text (c := s.extract a (a + 1)) (by rw [HXS.out]; decide))
              rw [ptext_on hcp] at HF HFIT
              obtain ⟨k0, k1, k2, k3⟩ := pc_cells hat
              rw [hcp] at k0
              obtain ⟨ho3, hfz⟩ := own_put (q := ⟨p.cp, p.fr, p.ln, p.lit ++ s.extract a (a + 1)⟩) (i := 3) (u := .string (p.lit ++ s.extract a (a + 1))) hj HO.out.drew (by decide) rfl
              have O3 := Lib.hid ho3
              have B3 := Lib.hid (HBB.out.drew.setCell (p := ⟨g, j * 4 + 3, none⟩) hbg (.string (p.lit ++ s.extract a (a + 1))))
              have K3 := Lib.hid (show w1.drew.cell? ⟨g, j * 4 + 3, none⟩ = some (.string p.lit) from k3)
              have KF := Lib.hid hfz
              have IX := Lib.hid ix
              have FA := Lib.hid g2
              have FL := Lib.hid (show ¬ 9223372036854775807 < p.lit.size + (s.extract a (a + 1)).size by rw [HXS.out]; omega)
              generalize s.extract a (a + 1) = e at *
              generalize j * 4 = o at *
              clear hft k1 k2 k3 ho3 hfz hat hj hbg hgw
              go_wp2_with fail
              refine wp_region_held_drew (S := fun _ => True) (by kernel_rfl) trivial (fun hS => ?_)
              refine wpAnyH_take (i := 0) (oi := ⟨some 83, _, _, _, _, _⟩) (v := ?_) rfl (by kernel_rfl) (by kernel_rfl) (by kernel_rfl) (fun _ _ _ h => h) (Or.inl ⟨by rfl, ?_⟩) hS ?_; rotate_left; (focus (intro w9 hSw; (try dsimp only at hSw); go_simp; try with_reducible rfl)); simp only [Act.put, List.setIfInBounds_toArray, List.set_cons_zero, List.set_cons_succ]
              refine wpAnyH_take (i := 1) (oi := ⟨some 84, _, _, _, _, _⟩) (v := ?_) rfl (by kernel_rfl) (by kernel_rfl) (by kernel_rfl) (fun _ _ _ h => h) (Or.inl ⟨by rfl, ?_⟩) hS ?_; rotate_left; (focus (intro w9 hSw; (try dsimp only at hSw); go_simp; try with_reducible rfl)); simp only [Act.put, List.setIfInBounds_toArray, List.set_cons_zero, List.set_cons_succ]
              refine wpAnyH_take (i := 2) (oi := ⟨some 85, _, _, _, _, _⟩) (v := ?_) rfl (by kernel_rfl) (by kernel_rfl) (by kernel_rfl) (fun _ _ _ h => h) (Or.inl ⟨by rfl, ?_⟩) hS ?_; rotate_left; (focus (intro w9 hSw; (try dsimp only at hSw); go_simp; try with_reducible rfl)); simp only [Act.put, List.setIfInBounds_toArray, List.set_cons_zero, List.set_cons_succ]
              refine wpAnyH_take (i := 3) (oi := ⟨some 86, _, _, _, _, _⟩) (v := ?_) rfl (by kernel_rfl) (by kernel_rfl) (by kernel_rfl) (fun _ _ _ h => h) (Or.inl ⟨by rfl, ?_⟩) hS ?_; rotate_left; (focus (intro w9 hSw; (try dsimp only at hSw); go_simp; try with_reducible rfl)); simp only [Act.put, List.setIfInBounds_toArray, List.set_cons_zero, List.set_cons_succ]
              refine wpAnyH_take (i := 4) (oi := ⟨some 87, _, _, _, _, _⟩) (v := ?_) rfl (by kernel_rfl) (by kernel_rfl) (by kernel_rfl) (fun _ _ _ h => h) (Or.inl ⟨by rfl, ?_⟩) hS ?_; rotate_left; (focus (intro w9 hSw; (try dsimp only at hSw); have q0 := IX.out w9; go_simp; try with_reducible rfl)); simp only [Act.put, List.setIfInBounds_toArray, List.set_cons_zero, List.set_cons_succ]
              refine wpAnyH_take (i := 5) (oi := ⟨some 88, _, _, _, _, _⟩) (v := ?_) rfl (by kernel_rfl) (by kernel_rfl) (by kernel_rfl) (fun _ _ _ h => h) (Or.inl ⟨by rfl, ?_⟩) hS ?_; rotate_left; (focus (intro w9 hSw; (try dsimp only at hSw); go_simp; try with_reducible rfl)); simp only [Act.put, List.setIfInBounds_toArray, List.set_cons_zero, List.set_cons_succ]
              refine wpAnyH_take (i := 7) (oi := ⟨some 90, _, _, _, _, _⟩) (v := ?_) rfl (by kernel_rfl) (by kernel_rfl) (by kernel_rfl) (fun _ _ _ h => h) (Or.inl ⟨by rfl, ?_⟩) hS ?_; rotate_left; (focus (intro w9 hSw; (try dsimp only at hSw); go_simp; try with_reducible rfl)); simp only [Act.put, List.setIfInBounds_toArray, List.set_cons_zero, List.set_cons_succ]
              refine wpAnyH_take (i := 8) (oi := ⟨some 91, _, _, _, _, _⟩) (v := ?_) rfl (by kernel_rfl) (by kernel_rfl) (by kernel_rfl) (fun _ _ _ h => h) (Or.inl ⟨by rfl, ?_⟩) hS ?_; rotate_left; (focus (intro w9 hSw; (try dsimp only at hSw); go_simp; try with_reducible rfl)); simp only [Act.put, List.setIfInBounds_toArray, List.set_cons_zero, List.set_cons_succ]
              refine wpAnyH_take (i := 9) (oi := ⟨some 92, _, _, _, _, _⟩) (v := ?_) rfl (by kernel_rfl) (by kernel_rfl) (by kernel_rfl) (fun _ _ _ h => h) (Or.inl ⟨by rfl, ?_⟩) hS ?_; rotate_left; (focus (intro w9 hSw; (try dsimp only at hSw); go_simp; try with_reducible rfl)); simp only [Act.put, List.setIfInBounds_toArray, List.set_cons_zero, List.set_cons_succ]
              refine wpAnyH_take (i := 10) (oi := ⟨some 93, _, _, _, _, _⟩) (v := ?_) rfl (by kernel_rfl) (by kernel_rfl) (by kernel_rfl) (fun _ _ _ h => h) (Or.inl ⟨by rfl, ?_⟩) hS ?_; rotate_left; (focus (intro w9 hSw; (try dsimp only at hSw); have q0 := FA.out; go_simp; try with_reducible rfl)); simp only [Act.put, List.setIfInBounds_toArray, List.set_cons_zero, List.set_cons_succ]
              refine wpAnyH_take (i := 11) (oi := ⟨some 94, _, _, _, _, _⟩) (v := ?_) rfl (by kernel_rfl) (by kernel_rfl) (by kernel_rfl) (fun _ _ _ h => h) (Or.inl ⟨by rfl, ?_⟩) hS ?_; rotate_left; (focus (intro w9 hSw; (try dsimp only at hSw); have q0 := SL.out w9; go_simp; try with_reducible rfl)); simp only [Act.put, List.setIfInBounds_toArray, List.set_cons_zero, List.set_cons_succ]
              refine wpAnyH_ready (rs := [6]) (by kernel_rfl) (by simp) (AllReadyH.cons (o := ⟨some 89, _, _, _, _, _⟩) rfl (fun K hK => ?_) AllReadyH.nil)
              have q0 := K3.out
              go_simp
              refine hK.out _ _ trivial (fun hS => ?_)
              clear hK K q0
              refine wpAnyH_take (i := 12) (oi := ⟨some 95, _, _, _, _, _⟩) (v := ?_) rfl (by kernel_rfl) (by kernel_rfl) (by kernel_rfl) (fun _ _ _ h => h) (Or.inl ⟨by rfl, ?_⟩) hS ?_; rotate_left; (focus (intro w9 hSw; (try dsimp only at hSw); have q0 := FL.out; go_simp; try with_reducible rfl)); simp only [Act.put, List.setIfInBounds_toArray, List.set_cons_zero, List.set_cons_succ]
              refine wpAnyH_take (i := 13) (oi := ⟨some 96, _, _, _, _, _⟩) (v := ?_) rfl (by kernel_rfl) (by kernel_rfl) (by kernel_rfl) (fun _ _ _ h => h) (Or.inl ⟨by rfl, ?_⟩) hS ?_; rotate_left; (focus (intro w9 hSw; (try dsimp only at hSw); have q0 := IX.out w9; go_simp; try with_reducible rfl)); simp only [Act.put, List.setIfInBounds_toArray, List.set_cons_zero, List.set_cons_succ]
              refine wpAnyH_take (i := 14) (oi := ⟨some 97, _, _, _, _, _⟩) (v := ?_) rfl (by kernel_rfl) (by kernel_rfl) (by kernel_rfl) (fun _ _ _ h => h) (Or.inl ⟨by rfl, ?_⟩) hS ?_; rotate_left; (focus (intro w9 hSw; (try dsimp only at hSw); go_simp; try with_reducible rfl)); simp only [Act.put, List.setIfInBounds_toArray, List.set_cons_zero, List.set_cons_succ]
              refine wpAnyH_ready (rs := [15]) (by kernel_rfl) (by simp) (AllReadyH.cons (o := ⟨none, _, _, _, _, _⟩) rfl (fun K hK => ?_) AllReadyH.nil)
              have q0 := K3.out
              have q1 := KF.out
              go_simp
              refine hK.out _ _ trivial (fun hS => ?_)
              clear hK K q0 q1
              refine wpAnyH_done (by kernel_rfl) ?_ _
              go_wp2
              go_roundw
              case rel => exact ⟨a + 1, init ++ [⟨p.cp, p.fr, p.ln, p.lit ++ e⟩], by omega, by go_num, by rw [List.length_append, HJ.out]; exact O3.out, HFIT.out, B3.out, HF.out⟩
              case measure => simp [intOf]; omega
            · have HF := Lib.hid hft
              have HFIT := Lib.hid (PF.out.text (c := s.extract a (a + 1)) (by rw [HXS.out]; decide))
              rw [ptext_new hcp] at HF HFIT
              obtain ⟨k0, k1, k2, k3⟩ := pc_cells hat
              rw [hcp] at k0
              have OKX := Lib.hid (pcTxt_ok (s.extract a (a + 1)) (by rw [HXS.out]; decide))
              have O1 := Lib.hid ((HO.out).alloc (.cells (KPc.cs (pcTxt (s.extract a (a + 1)))).toArray 44))
              have B2 := Lib.hid ((HBB.out).alloc (HBB.out).size (.cells (KPc.cs (pcTxt (s.extract a (a + 1)))).toArray 44))
              have R2 := Lib.hid (Kind.row_one (K := KPc) (w := w1) (x := (pcTxt (s.extract a (a + 1)))) (t := 44) OKX.out)
              have VL : Hid ((j + 1) + 1 ≤ 10000000) := Lib.hid (by have := PF.out.1; omega)
              have VS := Lib.hid B2.out.size
              have XL := Lib.hid (show (KPc.cs (pcTxt (s.extract a (a + 1)))).length = KPc.n from rfl)
              have HBD := Lib.hid (fun w9 => build_txt (s.extract a (a + 1)) w9)
              rw [show KPc.v (pcTxt (s.extract a (a + 1))) = .agg (KPc.cs (pcTxt (s.extract a (a + 1)))).toArray from rfl] at HBD
              have hsl := SL.out
              generalize hjo : j * 4 = o at *
              clear hft k1 k2 k3 hat hj hbg hgw hjo
              go_wp2_with (first | ((with_reducible refine wpList_build_at (o := ⟨some 104, .build 44 #[(3, .tmp 103)], _, _, _, _⟩) ?e1 44 #[(3, .tmp 103)] ?e2 #[(3, .string (s.extract a (a + 1)))] ?e3 _ (HBD.out _) ?_); (case e1 => rfl); (case e2 => rfl); (case e3 => (simp only [List.map_toArray, List.map_cons, List.map_nil]; rfl))) | ((with_reducible refine wpList_bsliceK (K := KPc) (o := ⟨some 105, .buildSlice 22 1 #[(0, .tmp 104)], _, _, _, _⟩) ?e1 (.tmp 104) ?e2 (pcTxt (s.extract a (a + 1))) ?e3 XL.out Tryd.underlying22 sizePc zeroPc nPc ?_); (case e1 => rfl); (case e2 => rfl); (case e3 => rfl)) | (at_builtin; refine wpList_append_K (K := KPc) _ rfl _ _ 22 rfl w.heap.size 44 i0 _ 40 Tryd.underlying22 hi hz0 hz1 hz2 hzl (by omega) _ (j + 1) (init ++ [p]) rfl O1.out (some ⟨w1.heap.size, 0, none⟩) 1 1 [(pcTxt (s.extract a (a + 1)))] rfl R2.out rfl VL.out VS.out ?_; intro v3 w3 ho3 hg3; have O3 := Lib.hid ho3; have B3 := Lib.hid (B2.out.grown hg3 B2.out.size (fun g hg => own_base O1.out hg)); obtain ⟨g13, cap13, rfl⟩ := ownsRow_succ ho3; clear ho3 hg3))
              go_roundw
              case rel => exact ⟨a + 1, init ++ [p] ++ [(pcTxt (s.extract a (a + 1)))], by omega, by go_num, by rw [List.length_append, List.length_append, HJ.out]; exact O3.out, HFIT.out, B3.out, HF.out⟩
              case measure => simp [intOf]; omega
      · have t3 : ¬ (a : Int) + 8 ≤ (N : Int) := by omega
        have hft := hf
        rw [pmk_text (by rw [HSZ.out]; exact hlt) (by rw [HPN.out a h8]; decide)] at hft
        clear ho hfit hb hf
        rcases List.eq_nil_or_concat out with hout | ⟨init, p, hout⟩
        · subst hout
          obtain ⟨A1, c1, rfl⟩ := own_pcs HO.out
          have HO := Lib.hid (show wr.ownsRow w.heap.size 44 KPc.n (.slice A1 0 c1) 0 (([] : List Pc).flatMap KPc.cs) from HO.out)
          have HF := Lib.hid hft
          have HFIT := Lib.hid (PF.out.text (c := s.extract a (a + 1)) (by rw [HXS.out]; decide))
          rw [ptext_nil] at HF HFIT
          have OKX := Lib.hid (pcTxt_ok (s.extract a (a + 1)) (by rw [HXS.out]; decide))
          have O1 := Lib.hid ((HO.out).alloc (.cells (KPc.cs (pcTxt (s.extract a (a + 1)))).toArray 44))
          have B2 := Lib.hid ((HBB.out).alloc (HBB.out).size (.cells (KPc.cs (pcTxt (s.extract a (a + 1)))).toArray 44))
          have R2 := Lib.hid (Kind.row_one (K := KPc) (w := wr) (x := (pcTxt (s.extract a (a + 1)))) (t := 44) OKX.out)
          have VL : Hid (0 + 1 ≤ 10000000) := Lib.hid (by have := PF.out.1; omega)
          have VS := Lib.hid B2.out.size
          have XL := Lib.hid (show (KPc.cs (pcTxt (s.extract a (a + 1)))).length = KPc.n from rfl)
          have HBD := Lib.hid (fun w9 => build_txt (s.extract a (a + 1)) w9)
          rw [show KPc.v (pcTxt (s.extract a (a + 1))) = .agg (KPc.cs (pcTxt (s.extract a (a + 1)))).toArray from rfl] at HBD
          have hsl := SL.out
          clear hft
          go_wp2_with (first | ((with_reducible refine wpList_build_at (o := ⟨some 104, .build 44 #[(3, .tmp 103)], _, _, _, _⟩) ?e1 44 #[(3, .tmp 103)] ?e2 #[(3, .string (s.extract a (a + 1)))] ?e3 _ (HBD.out _) ?_); (case e1 => rfl); (case e2 => rfl); (case e3 => (simp only [List.map_toArray, List.map_cons, List.map_nil]; rfl))) | ((with_reducible refine wpList_bsliceK (K := KPc) (o := ⟨some 105, .buildSlice 22 1 #[(0, .tmp 104)], _, _, _, _⟩) ?e1 (.tmp 104) ?e2 (pcTxt (s.extract a (a + 1))) ?e3 XL.out Tryd.underlying22 sizePc zeroPc nPc ?_); (case e1 => rfl); (case e2 => rfl); (case e3 => rfl)) | (at_builtin; refine wpList_append_K (K := KPc) _ rfl _ _ 22 rfl w.heap.size 44 i0 _ 40 Tryd.underlying22 hi hz0 hz1 hz2 hzl (by omega) _ 0 [] rfl O1.out (some ⟨wr.heap.size, 0, none⟩) 1 1 [(pcTxt (s.extract a (a + 1)))] rfl R2.out rfl VL.out VS.out ?_; intro v3 w3 ho3 hg3; have O3 := Lib.hid ho3; have B3 := Lib.hid (B2.out.grown hg3 B2.out.size (fun g hg => own_base O1.out hg)); obtain ⟨g13, cap13, rfl⟩ := ownsRow_succ ho3; clear ho3 hg3))
          go_roundw
          case rel => exact ⟨a + 1, [(pcTxt (s.extract a (a + 1)))], by omega, by go_num, O3.out, HFIT.out, B3.out, HF.out⟩
          case measure => simp [intOf]; omega
        · rw [List.concat_eq_append] at hout
          subst hout
          obtain ⟨j, hj⟩ : ∃ j, init.length = j := ⟨_, rfl⟩
          have hlj : (init ++ [p]).length = j + 1 := by rw [List.length_append, hj]; rfl
          have PF1 := PF.out.1
          rw [hlj] at HO PF1
          have hpp := PF.out.2 p (by simp)
          obtain ⟨g, cap, hv, hbg, hgw, hjc, hat⟩ := own_last hj HO.out
          subst hv
          have hjb : j ≤ 1000000 := by omega
          have f9 : IntKind.i64.wrap ((j : Int) + 1 - 1) = (j : Int) := by rw [IntWalk.i64_in _ (by omega)]; omega
          have ix := pc_ix g j cap (j : Int) rfl
          have t10 : (0 : Int) ≤ (j : Int) := by omega
          have HGW := Lib.hid hgw
          have HJ := Lib.hid hj
          have HBG := Lib.hid hbg
          cases hcp : p.cp
          · have HF := Lib.hid hft
            have HFIT := Lib.hid (PF.out.text (c := s.extract a (a + 1)) (by rw [HXS.out]; decide))
            rw [ptext_on hcp] at HF HFIT
            obtain ⟨k0, k1, k2, k3⟩ := pc_cells hat
            rw [hcp] at k0
            obtain ⟨ho3, hfz⟩ := own_put (q := ⟨p.cp, p.fr, p.ln, p.lit ++ s.extract a (a + 1)⟩) (i := 3) (u := .string (p.lit ++ s.extract a (a + 1))) hj HO.out.drew (by decide) rfl
            have O3 := Lib.hid ho3
            have B3 := Lib.hid (HBB.out.drew.setCell (p := ⟨g, j * 4 + 3, none⟩) hbg (.string (p.lit ++ s.extract a (a + 1))))
            have K3 := Lib.hid (show wr.drew.cell? ⟨g, j * 4 + 3, none⟩ = some (.string p.lit) from k3)
            have KF := Lib.hid hfz
            have IX := Lib.hid ix
            have FA := Lib.hid g2
            have FL := Lib.hid (show ¬ 9223372036854775807 < p.lit.size + (s.extract a (a + 1)).size by rw [HXS.out]; omega)
            generalize s.extract a (a + 1) = e at *
            generalize j * 4 = o at *
            clear hft k1 k2 k3 ho3 hfz hat hj hbg hgw
            go_wp2_with fail
            refine wp_region_held_drew (S := fun _ => True) (by kernel_rfl) trivial (fun hS => ?_)
            refine wpAnyH_take (i := 0) (oi := ⟨some 83, _, _, _, _, _⟩) (v := ?_) rfl (by kernel_rfl) (by kernel_rfl) (by kernel_rfl) (fun _ _ _ h => h) (Or.inl ⟨by rfl, ?_⟩) hS ?_; rotate_left; (focus (intro w9 hSw; (try dsimp only at hSw); go_simp; try with_reducible rfl)); simp only [Act.put, List.setIfInBounds_toArray, List.set_cons_zero, List.set_cons_succ]
            refine wpAnyH_take (i := 1) (oi := ⟨some 84, _, _, _, _, _⟩) (v := ?_) rfl (by kernel_rfl) (by kernel_rfl) (by kernel_rfl) (fun _ _ _ h => h) (Or.inl ⟨by rfl, ?_⟩) hS ?_; rotate_left; (focus (intro w9 hSw; (try dsimp only at hSw); go_simp; try with_reducible rfl)); simp only [Act.put, List.setIfInBounds_toArray, List.set_cons_zero, List.set_cons_succ]
            refine wpAnyH_take (i := 2) (oi := ⟨some 85, _, _, _, _, _⟩) (v := ?_) rfl (by kernel_rfl) (by kernel_rfl) (by kernel_rfl) (fun _ _ _ h => h) (Or.inl ⟨by rfl, ?_⟩) hS ?_; rotate_left; (focus (intro w9 hSw; (try dsimp only at hSw); go_simp; try with_reducible rfl)); simp only [Act.put, List.setIfInBounds_toArray, List.set_cons_zero, List.set_cons_succ]
            refine wpAnyH_take (i := 3) (oi := ⟨some 86, _, _, _, _, _⟩) (v := ?_) rfl (by kernel_rfl) (by kernel_rfl) (by kernel_rfl) (fun _ _ _ h => h) (Or.inl ⟨by rfl, ?_⟩) hS ?_; rotate_left; (focus (intro w9 hSw; (try dsimp only at hSw); go_simp; try with_reducible rfl)); simp only [Act.put, List.setIfInBounds_toArray, List.set_cons_zero, List.set_cons_succ]
            refine wpAnyH_take (i := 4) (oi := ⟨some 87, _, _, _, _, _⟩) (v := ?_) rfl (by kernel_rfl) (by kernel_rfl) (by kernel_rfl) (fun _ _ _ h => h) (Or.inl ⟨by rfl, ?_⟩) hS ?_; rotate_left; (focus (intro w9 hSw; (try dsimp only at hSw); have q0 := IX.out w9; go_simp; try with_reducible rfl)); simp only [Act.put, List.setIfInBounds_toArray, List.set_cons_zero, List.set_cons_succ]
            refine wpAnyH_take (i := 5) (oi := ⟨some 88, _, _, _, _, _⟩) (v := ?_) rfl (by kernel_rfl) (by kernel_rfl) (by kernel_rfl) (fun _ _ _ h => h) (Or.inl ⟨by rfl, ?_⟩) hS ?_; rotate_left; (focus (intro w9 hSw; (try dsimp only at hSw); go_simp; try with_reducible rfl)); simp only [Act.put, List.setIfInBounds_toArray, List.set_cons_zero, List.set_cons_succ]
            refine wpAnyH_take (i := 7) (oi := ⟨some 90, _, _, _, _, _⟩) (v := ?_) rfl (by kernel_rfl) (by kernel_rfl) (by kernel_rfl) (fun _ _ _ h => h) (Or.inl ⟨by rfl, ?_⟩) hS ?_; rotate_left; (focus (intro w9 hSw; (try dsimp only at hSw); go_simp; try with_reducible rfl)); simp only [Act.put, List.setIfInBounds_toArray, List.set_cons_zero, List.set_cons_succ]
            refine wpAnyH_take (i := 8) (oi := ⟨some 91, _, _, _, _, _⟩) (v := ?_) rfl (by kernel_rfl) (by kernel_rfl) (by kernel_rfl) (fun _ _ _ h => h) (Or.inl ⟨by rfl, ?_⟩) hS ?_; rotate_left; (focus (intro w9 hSw; (try dsimp only at hSw); go_simp; try with_reducible rfl)); simp only [Act.put, List.setIfInBounds_toArray, List.set_cons_zero, List.set_cons_succ]
            refine wpAnyH_take (i := 9) (oi := ⟨some 92, _, _, _, _, _⟩) (v := ?_) rfl (by kernel_rfl) (by kernel_rfl) (by kernel_rfl) (fun _ _ _ h => h) (Or.inl ⟨by rfl, ?_⟩) hS ?_; rotate_left; (focus (intro w9 hSw; (try dsimp only at hSw); go_simp; try with_reducible rfl)); simp only [Act.put, List.setIfInBounds_toArray, List.set_cons_zero, List.set_cons_succ]
            refine wpAnyH_take (i := 10) (oi := ⟨some 93, _, _, _, _, _⟩) (v := ?_) rfl (by kernel_rfl) (by kernel_rfl) (by kernel_rfl) (fun _ _ _ h => h) (Or.inl ⟨by rfl, ?_⟩) hS ?_; rotate_left; (focus (intro w9 hSw; (try dsimp only at hSw); have q0 := FA.out; go_simp; try with_reducible rfl)); simp only [Act.put, List.setIfInBounds_toArray, List.set_cons_zero, List.set_cons_succ]
            refine wpAnyH_take (i := 11) (oi := ⟨some 94, _, _, _, _, _⟩) (v := ?_) rfl (by kernel_rfl) (by kernel_rfl) (by kernel_rfl) (fun _ _ _ h => h) (Or.inl ⟨by rfl, ?_⟩) hS ?_; rotate_left; (focus (intro w9 hSw; (try dsimp only at hSw); have q0 := SL.out w9; go_simp; try with_reducible rfl)); simp only [Act.put, List.setIfInBounds_toArray, List.set_cons_zero, List.set_cons_succ]
            refine wpAnyH_ready (rs := [6]) (by kernel_rfl) (by simp) (AllReadyH.cons (o := ⟨some 89, _, _, _, _, _⟩) rfl (fun K hK => ?_) AllReadyH.nil)
            have q0 := K3.out
            go_simp
            refine hK.out _ _ trivial (fun hS => ?_)
            clear hK K q0
            refine wpAnyH_take (i := 12) (oi := ⟨some 95, _, _, _, _, _⟩) (v := ?_) rfl (by kernel_rfl) (by kernel_rfl) (by kernel_rfl) (fun _ _ _ h => h) (Or.inl ⟨by rfl, ?_⟩) hS ?_; rotate_left; (focus (intro w9 hSw; (try dsimp only at hSw); have q0 := FL.out; go_simp; try with_reducible rfl)); simp only [Act.put, List.setIfInBounds_toArray, List.set_cons_zero, List.set_cons_succ]
            refine wpAnyH_take (i := 13) (oi := ⟨some 96, _, _, _, _, _⟩) (v := ?_) rfl (by kernel_rfl) (by kernel_rfl) (by kernel_rfl) (fun _ _ _ h => h) (Or.inl ⟨by rfl, ?_⟩) hS ?_; rotate_left; (focus (intro w9 hSw; (try dsimp only at hSw); have q0 := IX.out w9; go_simp; try with_reducible rfl)); simp only [Act.put, List.setIfInBounds_toArray, List.set_cons_zero, List.set_cons_succ]
            refine wpAnyH_take (i := 14) (oi := ⟨some 97, _, _, _, _, _⟩) (v := ?_) rfl (by kernel_rfl) (by kernel_rfl) (by kernel_rfl) (fun _ _ _ h => h) (Or.inl ⟨by rfl, ?_⟩) hS ?_; rotate_left; (focus (intro w9 hSw; (try dsimp only at hSw); go_simp; try with_reducible rfl)); simp only [Act.put, List.setIfInBounds_toArray, List.set_cons_zero, List.set_cons_succ]
            refine wpAnyH_ready (rs := [15]) (by kernel_rfl) (by simp) (AllReadyH.cons (o := ⟨none, _, _, _, _, _⟩) rfl (fun K hK => ?_) AllReadyH.nil)
            have q0 := K3.out
            have q1 := KF.out
            go_simp
            refine hK.out _ _ trivial (fun hS => ?_)
            clear hK K q0 q1
            refine wpAnyH_done (by kernel_rfl) ?_ _
            go_wp2
            go_roundw
            case rel => exact ⟨a + 1, init ++ [⟨p.cp, p.fr, p.ln, p.lit ++ e⟩], by omega, by go_num, by rw [List.length_append, HJ.out]; exact O3.out, HFIT.out, B3.out, HF.out⟩
            case measure => simp [intOf]; omega
          · have HF := Lib.hid hft
            have HFIT := Lib.hid (PF.out.text (c := s.extract a (a + 1)) (by rw [HXS.out]; decide))
            rw [ptext_new hcp] at HF HFIT
            obtain ⟨k0, k1, k2, k3⟩ := pc_cells hat
            rw [hcp] at k0
            have OKX := Lib.hid (pcTxt_ok (s.extract a (a + 1)) (by rw [HXS.out]; decide))
            have O1 := Lib.hid ((HO.out).alloc (.cells (KPc.cs (pcTxt (s.extract a (a + 1)))).toArray 44))
            have B2 := Lib.hid ((HBB.out).alloc (HBB.out).size (.cells (KPc.cs (pcTxt (s.extract a (a + 1)))).toArray 44))
            have R2 := Lib.hid (Kind.row_one (K := KPc) (w := wr) (x := (pcTxt (s.extract a (a + 1)))) (t := 44) OKX.out)
            have VL : Hid ((j + 1) + 1 ≤ 10000000) := Lib.hid (by have := PF.out.1; omega)
            have VS := Lib.hid B2.out.size
            have XL := Lib.hid (show (KPc.cs (pcTxt (s.extract a (a + 1)))).length = KPc.n from rfl)
            have HBD := Lib.hid (fun w9 => build_txt (s.extract a (a + 1)) w9)
            rw [show KPc.v (pcTxt (s.extract a (a + 1))) = .agg (KPc.cs (pcTxt (s.extract a (a + 1)))).toArray from rfl] at HBD
            have hsl := SL.out
            generalize hjo : j * 4 = o at *
            clear hft k1 k2 k3 hat hj hbg hgw hjo
            go_wp2_with (first | ((with_reducible refine wpList_build_at (o := ⟨some 104, .build 44 #[(3, .tmp 103)], _, _, _, _⟩) ?e1 44 #[(3, .tmp 103)] ?e2 #[(3, .string (s.extract a (a + 1)))] ?e3 _ (HBD.out _) ?_); (case e1 => rfl); (case e2 => rfl); (case e3 => (simp only [List.map_toArray, List.map_cons, List.map_nil]; rfl))) | ((with_reducible refine wpList_bsliceK (K := KPc) (o := ⟨some 105, .buildSlice 22 1 #[(0, .tmp 104)], _, _, _, _⟩) ?e1 (.tmp 104) ?e2 (pcTxt (s.extract a (a + 1))) ?e3 XL.out Tryd.underlying22 sizePc zeroPc nPc ?_); (case e1 => rfl); (case e2 => rfl); (case e3 => rfl)) | (at_builtin; refine wpList_append_K (K := KPc) _ rfl _ _ 22 rfl w.heap.size 44 i0 _ 40 Tryd.underlying22 hi hz0 hz1 hz2 hzl (by omega) _ (j + 1) (init ++ [p]) rfl O1.out (some ⟨wr.heap.size, 0, none⟩) 1 1 [(pcTxt (s.extract a (a + 1)))] rfl R2.out rfl VL.out VS.out ?_; intro v3 w3 ho3 hg3; have O3 := Lib.hid ho3; have B3 := Lib.hid (B2.out.grown hg3 B2.out.size (fun g hg => own_base O1.out hg)); obtain ⟨g13, cap13, rfl⟩ := ownsRow_succ ho3; clear ho3 hg3))
            go_roundw
            case rel => exact ⟨a + 1, init ++ [p] ++ [(pcTxt (s.extract a (a + 1)))], by omega, by go_num, by rw [List.length_append, List.length_append, HJ.out]; exact O3.out, HFIT.out, B3.out, HF.out⟩
            case measure => simp [intOf]; omega
    · have t2 : ¬ (a : Int) < (N : Int) := by omega
      rw [pmk_end (by rw [HSZ.out]; omega)] at hf
      have HF := Lib.hid hf
      have HOK := Lib.hid (show ∀ p ∈ out, p.Ok from fun p hp => by
        have h := hfit.2 p hp
        refine ⟨?_, ?_, by simp only [maxLen]; omega⟩ <;> (simp [Lit.wf, IntKind.min, IntKind.max, IntKind.bits, IntKind.signed]; omega))
      clear ho hfit hb hf
      go_wp2
      exact HVE.out _ HF.out _ _ HO.out HOK.out HBB.out
end Go.Proofs.YtnencoainacpoaaDoor

