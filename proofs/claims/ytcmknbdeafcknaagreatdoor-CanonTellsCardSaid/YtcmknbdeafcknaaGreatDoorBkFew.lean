import Derived.Test.YtcmknbdeafcknaaGreatDoorBkRec
/-
  What the laws' own Few of books answers. Nothing that was there is written.
-/
namespace Go.Proofs.YtcmknbdeafcknaaGreatDoor
open Go.RowKit WM
set_option linter.unusedVariables false
set_option maxRecDepth 100000
def fewB (rs : List Rc) : Bool := decide (rs.length ≤ 14) && rs.all fun r => fewR r.fs
theorem fewB_drop {xs : List RcA} {k : Nat} (hk : k < xs.length) : ((xs.drop k).map (·.R)).all (fun r => fewR r.fs) = (fewR (xs.getD k rcA0).R.fs && ((xs.drop (k + 1)).map (·.R)).all fun r => fewR r.fs) := by
  rw [List.drop_eq_getElem_cons hk, List.map_cons, List.all_cons]
  simp only [List.getD, List.getElem?_eq_getElem hk, Option.getD_some]
theorem fewB_fs {b : Bk} (h : fewB b.rs = true) : b.xs.length ≤ 14 ∧ ∀ x ∈ b.xs, x.R.fs.length ≤ 1000 := by
  unfold fewB Bk.rs at h
  simp only [Bool.and_eq_true, decide_eq_true_eq, List.length_map, List.all_eq_true] at h
  refine ⟨h.1, fun x hx => ?_⟩
  have h2 := h.2 x.R (List.mem_map_of_mem hx)
  unfold fewR at h2
  simp only [Bool.and_eq_true, decide_eq_true_eq] at h2
  omega
set_option maxHeartbeats 4000000 in
theorem fewB_any (b : Bk) (w : World) (h : BkAt w b) :
    Calls Tryz.prog 12 #[.agg #[.slice b.A b.xs.length b.c]] w fun e w' => e = .returned (.bool (fewB b.rs)) ∧ Below w.heap.size w w' := by
  obtain ⟨xs, A, c⟩ := b
  dsimp only at h ⊢
  have S0 := Lib.hid (BoAt.new w (.slice A xs.length c))
  have HB := Lib.hid ((Below.refl w.heap.size w).alloc (Nat.le_refl _) (.cells #[.slice A xs.length c] 24))
  have s0 := S0.out.c0
  have HRV := Lib.hid (fun i (hi : i < xs.length) => RsAt.rv h hi)
  obtain ⟨hc1, hc2, hc3, hcell, _⟩ := h
  dsimp only at hc1 hc2 hc3 hcell HRV
  simp only [maxLen] at hc2
  have HC := Lib.hid hcell
  have HV : Hid (fewB (Bk.rs ⟨xs, A, c⟩) = (decide (xs.length ≤ 14) && ((xs.drop 0).map (·.R)).all fun r => fewR r.fs)) := Lib.hid (by unfold fewB Bk.rs; rw [List.length_map]; rfl)
  generalize fewB (Bk.rs ⟨xs, A, c⟩) = V at HV ⊢
  generalize hlen : xs.length = len at *
  have HLN := Lib.hid hlen
  clear hcell hlen
  by_cases h14 : len ≤ 14
  · have hV2 := HV.out
    rw [decide_eq_true h14, Bool.true_and] at hV2
    have HV2 := Lib.hid hV2
    have t1 : ¬ 14 < (len : Int) := by omega
    clear hV2
    go_enter Tryz.func12, Tryz.ntmps12
    go_wp2
    clear s0
    go_loopw [3] (fun i wr => ∃ k : Nat, k ≤ len ∧ i = .int .i64 k ∧ BoAt wr w.heap.size (.slice A len c) ∧ Below w.heap.size w wr ∧ V = ((xs.drop k).map (·.R)).all fun r => fewR r.fs) (fun i _ => len - (intOf i).toNat)
    case atStart => exact ⟨0, Nat.zero_le _, rfl, S0.out, HB.out, HV2.out⟩
    case round =>
      obtain ⟨k, hk, rfl, hs, hb, hf⟩ := hrel
      have d0 := hs.c0
      by_cases hlt : k < len
      · obtain ⟨b0, off, rfl, hbB, hcc⟩ := HC.out (by omega)
        have hx := (hcc k hlt).same (hb.block b0 hbB)
        have IX := ix_rec b0 off len c k hlt k rfl
        have hvx := (HRV.out k hlt).below hb (Nat.le_refl _)
        rw [fewB_drop (by rw [HLN.out]; exact hlt)] at hf
        generalize xs.getD k rcA0 = x at *
        generalize off + k * 19 = ox at *
        have LX := Lib.hid hx.load
        have HFW := Lib.hid (xfew_any x wr hvx)
        have HBB := Lib.hid (And.intro hs hb)
        clear hcc hx hvx hs hb
        cases hq : fewR x.R.fs
        · rw [hq] at HFW hf
          rw [Bool.false_and] at hf
          have HF := Lib.hid hf
          clear hf hq
          go_wp2_with (first | ((with_reducible refine wpList_load_by (o := ⟨some 20, .load 33 (.tmp 19), _, _, _, _⟩) ?e1 33 (.tmp 19) ?e2 ⟨b0, ox, none⟩ ?e3 _ LX.out ?_); (case e1 => rfl); (case e2 => rfl); (case e3 => rfl)))
          refine HFW.out.mono ?_
          rintro e w2 ⟨rfl, hb⟩
          have B2 := Lib.hid (HBB.out.2.trans (hb.mono HBB.out.2.size))
          clear hb
          go_wp2
          go_ret
          exact ⟨by rw [HF.out]; rfl, B2.out⟩
        · rw [hq] at HFW hf
          rw [Bool.true_and] at hf
          have HF := Lib.hid hf
          clear hf hq
          go_wp2_with (first | ((with_reducible refine wpList_load_by (o := ⟨some 20, .load 33 (.tmp 19), _, _, _, _⟩) ?e1 33 (.tmp 19) ?e2 ⟨b0, ox, none⟩ ?e3 _ LX.out ?_); (case e1 => rfl); (case e2 => rfl); (case e3 => rfl)))
          refine HFW.out.mono ?_
          rintro e w2 ⟨rfl, hb⟩
          have B2 := Lib.hid (HBB.out.2.trans (hb.mono HBB.out.2.size))
          have S2 := Lib.hid (HBB.out.1.below hb HBB.out.1.lt)
          clear hb
          go_wp2
          go_roundw
          case rel => exact ⟨k + 1, by omega, by go_num, S2.out, B2.out, HF.out⟩
          case measure => simp [intOf]; omega
      · obtain rfl : k = len := by omega
        rw [List.drop_eq_nil_of_le (by rw [HLN.out]; exact Nat.le_refl _)] at hf
        have HF := Lib.hid hf
        have HBB := Lib.hid hb
        clear hf hb hs
        go_wp2
        go_ret
        exact ⟨by rw [HF.out]; rfl, HBB.out⟩
  · have hV2 := HV.out
    rw [decide_eq_false h14, Bool.false_and] at hV2
    have HF := Lib.hid hV2
    have t1 : 14 < (len : Int) := by omega
    clear hV2
    go_enter Tryz.func12, Tryz.ntmps12
    go_wp2
    go_ret
    exact ⟨by rw [HF.out]; rfl, HB.out⟩
end Go.Proofs.YtcmknbdeafcknaaGreatDoor

