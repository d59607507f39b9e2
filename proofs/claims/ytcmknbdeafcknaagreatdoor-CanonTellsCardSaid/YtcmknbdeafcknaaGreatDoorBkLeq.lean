import Derived.Test.YtcmknbdeafcknaaGreatDoorBkJoin
import Derived.Test.YtcmknbdeafcknaaGreatDoorBkSame
/-
  What book.Leq answers. Nothing that was there is written.
-/
namespace Go.Proofs.YtcmknbdeafcknaaGreatDoor
open Go.RowKit WM
set_option linter.unusedVariables false
set_option maxRecDepth 100000
theorem bleq_eq (a b : List Rc) : bleq a b = (decide ((bjE a b).1 = 0) && bsame (bjE a b).2 b) := rfl
set_option maxHeartbeats 4000000 in
theorem bleq_any (a b : Bk) (w : World) (hlaid : Laid w) (h1 : BkAt w a) (h2 : BkAt w b) :
    Calls Tryz.prog 24 #[.agg #[.slice a.A a.xs.length a.c], .agg #[.slice b.A b.xs.length b.c]] w fun e w' => e = .returned (.bool (bleq a.rs b.rs)) ∧ Below w.heap.size w w' := by
  have s0 := (BoAt.new w (.slice a.A a.xs.length a.c)).old (.cells #[.slice b.A b.xs.length b.c] 24)
  have s1 := BoAt.new (w.alloc (.cells #[.slice a.A a.xs.length a.c] 24)) (.slice b.A b.xs.length b.c)
  rw [World.size_alloc] at s1
  have S0 := Lib.hid s0
  have S1 := Lib.hid s1
  have HB := Lib.hid (((Below.refl w.heap.size w).alloc (Nat.le_refl _) (.cells #[.slice a.A a.xs.length a.c] 24)).alloc (by simp) (.cells #[.slice b.A b.xs.length b.c] 24))
  have LA := Lib.hid S0.out.load
  have LB := Lib.hid S1.out.load
  have HJ := Lib.hid (bjoin_any a b _ (hlaid.below HB.out (Nat.le_refl _)) (h1.below HB.out (Nat.le_refl _)) (h2.below HB.out (Nat.le_refl _)))
  unfold BJoinPost at HJ
  have H2 := Lib.hid h2
  have hz : ∀ w : World, (zeroValue 24).run Tryz.prog w = .ok (.agg #[.slice none 0 0]) w := zeroBook
  have HV := Lib.hid (bleq_eq a.rs b.rs)
  generalize bleq a.rs b.rs = V at HV ⊢
  generalize bjE a.rs b.rs = r at *
  clear s0 s1 h1 h2 hlaid
  by_cases h0 : r.1 = 0
  · have HV2 := HV.out
    rw [decide_eq_true h0, Bool.true_and] at HV2
    have HV3 := Lib.hid HV2
    rw [h0] at HJ
    clear HV2 h0
    go_enter Tryz.func24, Tryz.ntmps24
    go_wp2_with (first | ((with_reducible refine wpList_load_by (o := ⟨some 8, .load 24 (.tmp 2), _, _, _, _⟩) ?e1 24 (.tmp 2) ?e2 ⟨w.heap.size, 0, none⟩ ?e3 _ LA.out ?_); (case e1 => rfl); (case e2 => rfl); (case e3 => rfl)) | ((with_reducible refine wpList_load_by (o := ⟨some 9, .load 24 (.tmp 3), _, _, _, _⟩) ?e1 24 (.tmp 3) ?e2 ⟨(w.heap.size + 1), 0, none⟩ ?e3 _ LB.out ?_); (case e1 => rfl); (case e2 => rfl); (case e3 => rfl)))
    refine HJ.out.mono ?_
    rintro e w1 ⟨d, rfl, hd, hk, hb⟩
    have T1 := Lib.hid (S1.out.below hb S1.out.lt)
    have B1 := Lib.hid (HB.out.trans (hb.mono HB.out.size))
    have HD := Lib.hid hd
    have HK := Lib.hid hk
    clear hb hd hk
    have BA := (Below.refl w1.heap.size w1).alloc (Nat.le_refl _) (.cells #[.slice d.A d.xs.length d.c] 24)
    have L5 := Lib.hid (BoAt.new w1 (.slice d.A d.xs.length d.c)).load
    have L3 := Lib.hid (T1.out.below BA T1.out.lt).load
    have B2 := Lib.hid (B1.out.trans (BA.mono B1.out.size))
    have HS := Lib.hid (bsame_any d b _ (HK.out.below BA (Nat.le_refl _)) (H2.out.below B2.out (Nat.le_refl _)))
    rw [HD.out, ← HV3.out] at HS
    clear BA
    go_wp2_with (first | ((with_reducible refine wpList_load_by (o := ⟨some 16, .load 24 (.tmp 5), _, _, _, _⟩) ?e1 24 (.tmp 5) ?e2 ⟨w1.heap.size, 0, none⟩ ?e3 _ L5.out ?_); (case e1 => rfl); (case e2 => rfl); (case e3 => rfl)) | ((with_reducible refine wpList_load_by (o := ⟨some 17, .load 24 (.tmp 3), _, _, _, _⟩) ?e1 24 (.tmp 3) ?e2 ⟨(w.heap.size + 1), 0, none⟩ ?e3 _ L3.out ?_); (case e1 => rfl); (case e2 => rfl); (case e3 => rfl)))
    refine HS.out.mono ?_
    rintro e w2 ⟨rfl, hb⟩
    have B3 := Lib.hid (B2.out.trans (hb.mono B2.out.size))
    clear hb
    go_wp2
    go_ret
    exact ⟨rfl, B3.out⟩
  · have HV2 := HV.out
    rw [decide_eq_false h0, Bool.false_and] at HV2
    have HV3 := Lib.hid HV2
    clear HV2
    go_enter Tryz.func24, Tryz.ntmps24
    go_wp2_with (first | ((with_reducible refine wpList_load_by (o := ⟨some 8, .load 24 (.tmp 2), _, _, _, _⟩) ?e1 24 (.tmp 2) ?e2 ⟨w.heap.size, 0, none⟩ ?e3 _ LA.out ?_); (case e1 => rfl); (case e2 => rfl); (case e3 => rfl)) | ((with_reducible refine wpList_load_by (o := ⟨some 9, .load 24 (.tmp 3), _, _, _, _⟩) ?e1 24 (.tmp 3) ?e2 ⟨(w.heap.size + 1), 0, none⟩ ?e3 _ LB.out ?_); (case e1 => rfl); (case e2 => rfl); (case e3 => rfl)))
    refine HJ.out.mono ?_
    rintro e w1 ⟨d, rfl, hd, hk, hb⟩
    have T1 := Lib.hid (S1.out.below hb S1.out.lt)
    have B1 := Lib.hid (HB.out.trans (hb.mono HB.out.size))
    have HD := Lib.hid hd
    have HK := Lib.hid hk
    clear hb hd hk
    have B2 := Lib.hid (B1.out.alloc B1.out.size (.cells #[.slice d.A d.xs.length d.c] 24))
    go_wp2
    go_ret
    exact ⟨by rw [HV3.out]; rfl, B2.out⟩
end Go.Proofs.YtcmknbdeafcknaaGreatDoor

