import Derived.Test.YtlahjooofjbfbaaDoorSgOne
/-
  What sign.Of answers. Nothing that was there is written.
-/
namespace Go.Proofs.YtlahjooofjbfbaaDoor
open Go.RowKit WM
set_option linter.unusedVariables false
set_option maxRecDepth 100000
theorem of10_nil (s : ByteArray) (w : World) (hs : s.size < 24) : Calls Tryd.prog 10 #[.string s] w fun e w' => e = .returned (.slice none 0 0) ∧ Below w.heap.size w w' := by
  have HB := Lib.hid (Below.refl w.heap.size w)
  have t1 : (s.size : Int) < 24 := by omega
  go_enter Tryd.func10, Tryd.ntmps10
  go_wp2
  go_ret
  exact ⟨rfl, HB.out⟩
theorem cut_upto (s : ByteArray) (m : Nat) (hm : m ≤ s.size) (I : Int) (eI : I = m) (w : World) : (Instr.slice 9 (.string s) none (some (.int .i64 I)) none).run Tryd.prog w = .ok (.string (s.extract 0 m)) w := by
  subst eI
  have h := run_slice_string_h (P := Tryd.prog) (w := w) (t := 9) (s := s) Tryd.underlying9 .i64 (m : Int) (by omega) (by omega)
  simpa using h
theorem cut_from (s : ByteArray) (m : Nat) (hm : m ≤ s.size) (I : Int) (eI : I = m) (w : World) : (Instr.slice 9 (.string s) (some (.int .i64 I)) none none).run Tryd.prog w = .ok (.string (s.extract m s.size)) w := by
  subst eI
  have h := run_slice_string_l (P := Tryd.prog) (w := w) (t := 9) (s := s) Tryd.underlying9 .i64 (m : Int) (by omega) (by omega)
  simpa using h
set_option maxHeartbeats 4000000 in
theorem of10_any (s : ByteArray) (w : World) (hlaid : Laid w) (hs : s.size ≤ 2000000) : Calls Tryd.prog 10 #[.string s] w (KPost KSig w (sgOf (nums s))) := by
  have HN0 := Lib.hid (kpost_nil (K := KSig) (Below.refl w.heap.size w))
  obtain ⟨n, hn⟩ : ∃ n, n = s.size := ⟨_, rfl⟩
  have HNN := Lib.hid (show (nums s).length = n by rw [nums_len, hn])
  have hlen : s.size = n := hn.symm
  have HSZ := Lib.hid hlen
  clear hn
  by_cases h1 : n < 24
  · have HV := Lib.hid (sgOf_none (zs := nums s) (by rw [HNN.out]; exact h1))
    have t1 : (n : Int) < 24 := by omega
    go_enter Tryd.func10, Tryd.ntmps10
    go_wp2
    go_ret
    rw [HV.out]
    exact HN0.out
  · have t0 : ¬ (n : Int) < 24 := by omega
    have h24 : ¬ (nums s).length < 24 := by rw [HNN.out]; exact h1
    obtain ⟨m, hm⟩ : ∃ m, m = n / 8 := ⟨_, rfl⟩
    have HLN := Lib.hid (sgOf_len h24)
    rw [HNN.out, ← hm] at HLN
    have HAT := Lib.hid (fun k (hk : k < m) => sgOf_at h24 (k := k) (by rw [HNN.out, ← hm]; exact hk))
    have HOK := Lib.hid (sgOf_ok (nums s))
    generalize sgOf (nums s) = L at *
    have hm8 : 8 * m ≤ n ∧ n < 8 * m + 8 := by omega
    have hquo : Int.tdiv (n : Int) 8 = (m : Int) := by rw [Int.tdiv_eq_ediv_of_nonneg (by omega)]; omega
    have HB := Lib.hid (Below.refl w.heap.size w)
    have HPS := Lib.hid (fun (p : ByteArray) (hp : p.size = 8) (X : World) (hX : Below w.heap.size w X) => one_any p X (hlaid.below hX (Nat.le_refl _)) (by omega))
    obtain ⟨i0, hi, hz0, hz1, hz2⟩ := info_parts infoSig
    have hzl : (KSig.v ⟨0, List.replicate 32 0⟩).cells.size = KSig.n := by decide
    have HUP := Lib.hid cut_upto
    have HFR := Lib.hid cut_from
    clear h1 h24 hm hlaid
    go_enter Tryd.func10, Tryd.ntmps10
    go_wp2_with (at_make; refine wpList_make_own _ rfl _ _ 22 rfl w.heap.size 30 i0 _ 33 Tryd.underlying22 hi hz0 hz1 .i64 .i64 (m : Int) m rfl rfl rfl (by rw [hz2]; omega) (by simp only [maxLen]; omega) (Nat.le_refl _) ?_; intro w1 hown hgrow; have OW := Lib.hid hown; have BW := Lib.hid ((Below.refl w.heap.size w).grown hgrow (Nat.le_refl _) (fun _ h => by cases h)); clear hown hgrow)
    go_loopw [0, 3] (fun r v wr => ∃ (k q : Nat) (R : ByteArray), k ≤ m ∧ R.size = q ∧ q + 8 * k = n ∧ r = .string R ∧ nums R = (nums s).drop (8 * k) ∧ wr.ownsRow w.heap.size 30 KSig.n v k ((L.take k).flatMap KSig.cs) ∧ Below w.heap.size w wr) (fun r _ _ => match r with | .string R => R.size | _ => 0)
    case atStart => exact ⟨0, n, s, Nat.zero_le _, hlen, rfl, rfl, by simp, OW.out, BW.out⟩
    case round =>
      obtain ⟨k, q, R, hk, hq, hqn, rfl, hR, ho, hb⟩ := hrel
      have HO := Lib.hid ho
      have HBB := Lib.hid hb
      have HRR := Lib.hid hR
      have HQ := Lib.hid hq
      have HQN := Lib.hid hqn
      by_cases hlt : k < m
      · have t1 : (8 : Int) ≤ (q : Int) := by omega
        have hup := HUP.out R 8 (by omega) 8 rfl
        have hfr := HFR.out R 8 (by omega) 8 rfl
        have HNP := Lib.hid (show nums (R.extract 0 8) = ((nums s).drop (8 * k)).take 8 by rw [nums_extract, hR, List.drop_zero])
        have HZP := Lib.hid (show (R.extract 0 8).size = 8 from extract_size _ _ _ (by omega))
        have HNF := Lib.hid (show nums (R.extract 8 R.size) = (nums s).drop (8 * (k + 1)) by
          rw [nums_extract, hR, List.drop_drop, List.take_of_length_le (by rw [List.length_drop, HNN.out]; omega)]
          rw [show 8 * (k + 1) = 8 * k + 8 by omega])
        have HZF := Lib.hid (show (R.extract 8 R.size).size = q - 8 by rw [extract_size _ _ _ (Nat.le_refl _), hq])
        have HC := Lib.hid (HPS.out (R.extract 0 8) HZP.out wr hb)
        rw [HNP.out, ← HAT.out k hlt] at HC
        have HXO := Lib.hid (HOK.out (L.getD k sg0) (by rw [List.getD_eq_getElem?_getD, List.getElem?_eq_getElem (by rw [HLN.out]; exact hlt)]; exact List.getElem_mem _))
        have HTK := Lib.hid (show L.take (k + 1) = L.take k ++ [L.getD k sg0] by
          rw [List.take_succ_eq_append_getElem (by rw [HLN.out]; exact hlt), List.getD_eq_getElem?_getD, List.getElem?_eq_getElem (by rw [HLN.out]; exact hlt)]
          rfl)
        clear HNP HZP hR
        generalize R.extract 0 8 = p at *
        generalize R.extract 8 R.size = f at *
        generalize L.getD k sg0 = x at *
        clear ho hb hqn
        go_wp2_with fail
        refine HC.out.mono ?_
        rintro e w1 ⟨rfl, hb1⟩
        have B1 := Lib.hid (HBB.out.trans (hb1.mono HBB.out.size))
        have O1 := Lib.hid ((own_below HO.out hb1).alloc (.cells (KSig.cs x).toArray 30))
        have B2 := Lib.hid (B1.out.alloc B1.out.size (.cells (KSig.cs x).toArray 30))
        have R2 := Lib.hid (Kind.row_one (K := KSig) (w := w1) (x := x) (t := 30) HXO.out)
        have VL : Hid (k + 1 ≤ 10000000) := Lib.hid (by omega)
        have VS := Lib.hid B2.out.size
        have XL := Lib.hid (show (KSig.cs x).length = KSig.n from Sg.cs_len HXO.out)
        clear hb1
        go_wp2_with (first | ((with_reducible refine wpList_bsliceK (K := KSig) (o := ⟨some 18, .buildSlice 22 1 #[(0, .tmp 17)], _, _, _, _⟩) ?e1 (.tmp 17) ?e2 x ?e3 XL.out Tryd.underlying22 sizeSigK zeroSig nSig ?_); (case e1 => rfl); (case e2 => rfl); (case e3 => rfl)) | (at_builtin; refine wpList_append_K (K := KSig) _ rfl _ _ 22 rfl w.heap.size 30 i0 _ 36 Tryd.underlying22 hi hz0 hz1 hz2 hzl (by omega) _ k (L.take k) rfl O1.out (some ⟨w1.heap.size, 0, none⟩) 1 1 [x] rfl R2.out rfl VL.out VS.out ?_; intro v3 w3 ho3 hg3; have O3 := Lib.hid ho3; have B3 := Lib.hid (B2.out.grown hg3 B2.out.size (fun g hg => own_base O1.out hg)); obtain ⟨g13, cap13, rfl⟩ := ownsRow_succ ho3; clear ho3 hg3))
        go_roundw
        case rel => exact ⟨k + 1, q - 8, f, by omega, HZF.out, by have := HQN.out; omega, rfl, HNF.out, by rw [HTK.out]; exact O3.out, B3.out⟩
        case measure => simp only [HZF.out]; have := HQ.out; omega
      · obtain rfl : k = m := by omega
        have t1 : ¬ (8 : Int) ≤ (q : Int) := by omega
        have hT : L.take k = L := List.take_of_length_le (by rw [HLN.out]; exact Nat.le_refl _)
        rw [hT] at ho
        have hll := HLN.out
        rw [← hll] at ho
        have HO := Lib.hid ho
        clear ho hb hT hll hR
        go_wp2
        go_ret
        exact kpost_own HO.out HOK.out HBB.out
end Go.Proofs.YtlahjooofjbfbaaDoor

