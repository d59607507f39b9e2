import Derived.Test.YtlahjooofjbfbaaDoorSgRefOne
/-
  What the document's own blocks of a value are. Nothing that was there is written.
-/
namespace Go.Proofs.YtlahjooofjbfbaaDoor
open Go.RowKit WM
set_option linter.unusedVariables false
set_option maxRecDepth 100000
set_option maxHeartbeats 4000000 in
theorem rof10_any (s : ByteArray) (w : World) (hs : s.size ≤ 2000000) : Calls Tryd.prog 11 #[.string s] w (KPost KSig w (sgOf (nums s))) := by
  have HN0 := Lib.hid (kpost_nil (K := KSig) (Below.refl w.heap.size w))
  obtain ⟨n, hn⟩ : ∃ n, n = s.size := ⟨_, rfl⟩
  have HNN := Lib.hid (show (nums s).length = n by rw [nums_len, hn])
  have hlen : s.size = n := hn.symm
  have HSZ := Lib.hid hlen
  clear hn
  by_cases h1 : n < 24
  · have HV := Lib.hid (sgOf_none (zs := nums s) (by rw [HNN.out]; exact h1))
    have t1 : (n : Int) < 24 := by omega
    go_enter Tryd.func11, Tryd.ntmps11
    go_wp2
    go_ret
    rw [HV.out]
    exact HN0.out
  · have t0 : ¬ (n : Int) < 24 := by omega
    have h24 : ¬ (nums s).length < 24 := by rw [HNN.out]; exact h1
    obtain ⟨m, hm⟩ : ∃ m, m = n / 8 := ⟨_, rfl⟩
    have HLN := Lib.hid (sgOf_len h24)
    rw [HNN.out, ← hm] at HLN
    have HAT := Lib.hid (fun k (hk : k < m) => sgOf_at h24 (k := k) (by rw [HNN.out, ← hm]; exact hk))
    have HOK := Lib.hid (sgOf_ok (nums s))
    generalize sgOf (nums s) = L at *
    have hm8 : 8 * m ≤ n ∧ n < 8 * m + 8 := by omega
    have hquo : Int.tdiv (n : Int) 8 = (m : Int) := by rw [Int.tdiv_eq_ediv_of_nonneg (by omega)]; omega
    have HB := Lib.hid (Below.refl w.heap.size w)
    have HPS := Lib.hid (fun (k : Nat) (hk : k + 8 ≤ n) (X : World) (hX : Below w.heap.size w X) => rone_any (s.extract k (k + 8)) X (by rw [extract_size _ _ _ (by rw [HSZ.out]; exact hk)]; omega))
    have HPN := Lib.hid (fun k => part_nums s k 8)
    obtain ⟨i0, hi, hz0, hz1, hz2⟩ := info_parts infoSig
    have hzl : (KSig.v ⟨0, List.replicate 32 0⟩).cells.size = KSig.n := by decide
    have HSB := Lib.hid (fun (k : Nat) (hk : k + 8 ≤ n) (I J : Int) (eI : I = k) (eJ : J = ((k + 8 : Nat) : Int)) (w : World) => sub_str s k (k + 8) (by omega) (by rw [HSZ.out]; exact hk) I J eI eJ w)
    clear h1 h24 hm
    go_enter Tryd.func11, Tryd.ntmps11
    go_wp2
    go_loopw [3, 4] (fun v i wr => ∃ k a : Nat, k ≤ m ∧ a = 8 * k ∧ i = .int .i64 a ∧ wr.ownsRow w.heap.size 30 KSig.n v k ((L.take k).flatMap KSig.cs) ∧ Below w.heap.size w wr) (fun _ i _ => n + 8 - (intOf i).toNat)
    case atStart => exact ⟨0, 0, Nat.zero_le _, rfl, rfl, World.ownsRow_nil _ _ _ _, HB.out⟩
    case round =>
      obtain ⟨k, a, hk, ha, rfl, ho, hb⟩ := hrel
      have HO := Lib.hid ho
      have HBB := Lib.hid hb
      have HA := Lib.hid ha
      by_cases hlt : k < m
      · have f2 : IntKind.i64.wrap ((a : Int) + 8) = (a : Int) + 8 := IntWalk.i64_in _ (by omega)
        have t1 : (a : Int) + 8 ≤ (n : Int) := by omega
        have hsl := HSB.out a (by omega) (a : Int) ((a : Int) + 8) rfl (by omega)
        have HC := Lib.hid (HPS.out a (by omega) wr hb)
        rw [HPN.out, ha, ← HAT.out k hlt, ← ha] at HC
        have HXO := Lib.hid (HOK.out (L.getD k sg0) (by rw [List.getD_eq_getElem?_getD, List.getElem?_eq_getElem (by rw [HLN.out]; exact hlt)]; exact List.getElem_mem _))
        have HTK := Lib.hid (show L.take (k + 1) = L.take k ++ [L.getD k sg0] by
          rw [List.take_succ_eq_append_getElem (by rw [HLN.out]; exact hlt), List.getD_eq_getElem?_getD, List.getElem?_eq_getElem (by rw [HLN.out]; exact hlt)]
          rfl)
        generalize s.extract a (a + 8) = p at *
        generalize L.getD k sg0 = x at *
        clear ho hb ha
        go_wp2_with fail
        refine HC.out.mono ?_
        rintro e w1 ⟨rfl, hb1⟩
        have B1 := Lib.hid (HBB.out.trans (hb1.mono HBB.out.size))
        have O1 := Lib.hid ((own_below HO.out hb1).alloc (.cells (KSig.cs x).toArray 30))
        have B2 := Lib.hid (B1.out.alloc B1.out.size (.cells (KSig.cs x).toArray 30))
        have R2 := Lib.hid (Kind.row_one (K := KSig) (w := w1) (x := x) (t := 30) HXO.out)
        have VL : Hid (k + 1 ≤ 10000000) := Lib.hid (by omega)
        have VS := Lib.hid B2.out.size
        have XL := Lib.hid (show (KSig.cs x).length = KSig.n from Sg.cs_len HXO.out)
        clear hb1
        go_wp2_with (first | ((with_reducible refine wpList_bsliceK (K := KSig) (o := ⟨some 22, .buildSlice 22 1 #[(0, .tmp 21)], _, _, _, _⟩) ?e1 (.tmp 21) ?e2 x ?e3 XL.out Tryd.underlying22 sizeSigK zeroSig nSig ?_); (case e1 => rfl); (case e2 => rfl); (case e3 => rfl)) | (at_builtin; refine wpList_append_K (K := KSig) _ rfl _ _ 22 rfl w.heap.size 30 i0 _ 36 Tryd.underlying22 hi hz0 hz1 hz2 hzl (by omega) _ k (L.take k) rfl O1.out (some ⟨w1.heap.size, 0, none⟩) 1 1 [x] rfl R2.out rfl VL.out VS.out ?_; intro v3 w3 ho3 hg3; have O3 := Lib.hid ho3; have B3 := Lib.hid (B2.out.grown hg3 B2.out.size (fun g hg => own_base O1.out hg)); obtain ⟨g13, cap13, rfl⟩ := ownsRow_succ ho3; clear ho3 hg3))
        go_roundw
        case rel => exact ⟨k + 1, a + 8, by omega, by have := HA.out; omega, by go_num, by rw [HTK.out]; exact O3.out, B3.out⟩
        case measure => simp [intOf]; omega
      · obtain rfl : k = m := by omega
        have f2 : IntKind.i64.wrap ((a : Int) + 8) = (a : Int) + 8 := IntWalk.i64_in _ (by omega)
        have t1 : ¬ (a : Int) + 8 ≤ (n : Int) := by omega
        have hT : L.take k = L := List.take_of_length_le (by rw [HLN.out]; exact Nat.le_refl _)
        rw [hT] at ho
        have hll := HLN.out
        rw [← hll] at ho
        have HO := Lib.hid ho
        clear ho hb hT hll ha
        go_wp2
        go_ret
        exact kpost_own HO.out HOK.out HBB.out
end Go.Proofs.YtlahjooofjbfbaaDoor

