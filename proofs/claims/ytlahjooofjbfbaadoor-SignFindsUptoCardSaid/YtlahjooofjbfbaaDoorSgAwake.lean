import Derived.Test.YtlahjooofjbfbaaDoorSgOf
import Derived.Test.YtlahjooofjbfbaaDoorSgPlaces
import Derived.Test.YtlahjooofjbfbaaDoorGUni
/-
  What awake of layer 10 answers. Nothing that was there is written.
-/
namespace Go.Proofs.YtlahjooofjbfbaaDoor
open Go.RowKit WM
set_option linter.unusedVariables false
set_option maxRecDepth 100000
def s24 : ByteArray := ⟨#[97, 98, 99, 100, 101, 102, 103, 104, 105, 106, 107, 108, 109, 110, 111, 112, 113, 114, 115, 116, 117, 118, 119, 120]⟩
def sg24 : List Sg := sgOf (nums s24)
theorem sg24_eq : sg24 = [sgOne (nums ⟨#[97, 98, 99, 100, 101, 102, 103, 104]⟩), sgOne (nums ⟨#[105, 106, 107, 108, 109, 110, 111, 112]⟩), sgOne (nums ⟨#[113, 114, 115, 116, 117, 118, 119, 120]⟩)] := rfl
theorem ne_of_wk {x y : Sg} (h : x.wk ≠ y.wk) : x ≠ y := fun e => h (by rw [e])
theorem sg24_find1 : sgFind sg24 (nums ⟨#[105, 106, 107, 108, 109, 110, 111, 112]⟩) = 1 := by
  have h1 : sgOne (nums ⟨#[97, 98, 99, 100, 101, 102, 103, 104]⟩) ≠ sgOne (nums ⟨#[105, 106, 107, 108, 109, 110, 111, 112]⟩) := ne_of_wk (show rlS _ ≠ rlS _ by decide)
  unfold sgFind
  rw [if_pos (show (nums ⟨#[105, 106, 107, 108, 109, 110, 111, 112]⟩).length = 8 from rfl), sg24_eq]
  simp only [sgFrom, if_neg h1, if_true]
  rfl
theorem sg24_find2 : sgFind sg24 (nums ⟨#[106, 107, 108, 109, 110, 111, 112, 113]⟩) = -1 := by
  have h1 : sgOne (nums ⟨#[97, 98, 99, 100, 101, 102, 103, 104]⟩) ≠ sgOne (nums ⟨#[106, 107, 108, 109, 110, 111, 112, 113]⟩) := ne_of_wk (show rlS _ ≠ rlS _ by decide)
  have h2 : sgOne (nums ⟨#[105, 106, 107, 108, 109, 110, 111, 112]⟩) ≠ sgOne (nums ⟨#[106, 107, 108, 109, 110, 111, 112, 113]⟩) := ne_of_wk (show rlS _ ≠ rlS _ by decide)
  have h3 : sgOne (nums ⟨#[113, 114, 115, 116, 117, 118, 119, 120]⟩) ≠ sgOne (nums ⟨#[106, 107, 108, 109, 110, 111, 112, 113]⟩) := ne_of_wk (show rlS _ ≠ rlS _ by decide)
  unfold sgFind
  rw [if_pos (show (nums ⟨#[106, 107, 108, 109, 110, 111, 112, 113]⟩).length = 8 from rfl), sg24_eq]
  simp only [sgFrom, if_neg h1, if_neg h2, if_neg h3]
set_option maxHeartbeats 4000000 in
theorem sgAwake (w : World) (hlaid : Laid w) : Calls Tryd.prog 8 #[] w fun e w' => e = .returned (.bool true) ∧ Below w.heap.size w w' := by
  have B0 := Lib.hid (Below.refl w.heap.size w)
  have C1 := Lib.hid (of10_any s24 w hlaid (by decide))
  unfold KPost at C1
  rw [show sgOf (nums s24) = sg24 from rfl, show sg24.length = 3 from rfl, show s24 = ⟨#[97, 98, 99, 100, 101, 102, 103, 104, 105, 106, 107, 108, 109, 110, 111, 112, 113, 114, 115, 116, 117, 118, 119, 120]⟩ from rfl] at C1
  have HLA := Lib.hid (fun (X : World) (hX : Below w.heap.size w X) => hlaid.below hX (Nat.le_refl _))
  have HL3 : Hid (sg24.length = 3) := Lib.hid rfl
  have HF1 := Lib.hid sg24_find1
  have HF2 := Lib.hid sg24_find2
  have HX0 : Hid (sg24.getD 0 sg0 = sgOne (nums ⟨#[97, 98, 99, 100, 101, 102, 103, 104]⟩)) := Lib.hid rfl
  generalize sg24 = L at *
  clear hlaid
  go_enter Tryd.func8, Tryd.ntmps8
  go_wp2_with fail
  refine C1.out.mono ?_
  rintro e w1 ⟨A, c, rfl, hr, hb⟩
  have B1 := Lib.hid hb
  have C7 := Lib.hid (fun X => of10_nil ⟨#[97, 98, 99, 100, 101, 102, 103, 104, 105, 106, 107, 108, 109, 110, 111, 112, 113, 114, 115, 116, 117, 118, 119]⟩ X (by decide))
  have C13 := Lib.hid (fun X (hX : Below w1.heap.size w1 X) => find10_any A c L ⟨#[105, 106, 107, 108, 109, 110, 111, 112]⟩ X (HLA.out _ (hb.trans (hX.mono hb.size))) (Kind.row_below hr hX (Nat.le_refl _)) (by rw [HL3.out]; decide) (by decide))
  have C18 := Lib.hid (fun X (hX : Below w1.heap.size w1 X) => find10_any A c L ⟨#[106, 107, 108, 109, 110, 111, 112, 113]⟩ X (HLA.out _ (hb.trans (hX.mono hb.size))) (Kind.row_below hr hX (Nat.le_refl _)) (by rw [HL3.out]; decide) (by decide))
  have C25 := Lib.hid (fun X (hX : Below w1.heap.size w1 X) => one_any ⟨#[97, 98, 99, 100, 101, 102, 103, 104]⟩ X (HLA.out _ (hb.trans (hX.mono hb.size))) (by decide))
  rw [HL3.out, HF1.out] at C13
  rw [HL3.out, HF2.out] at C18
  obtain ⟨b, off, rfl, hbw, hat, hix⟩ := sig_row hr (by rw [HL3.out]; decide)
  have IX0 := Lib.hid (hix 0 (by rw [HL3.out]; decide) 0 rfl)
  have Q0 := Lib.hid (hat 0 (by rw [HL3.out]; decide))
  have X0k := Lib.hid (sgOne_ok (nums ⟨#[97, 98, 99, 100, 101, 102, 103, 104]⟩))
  rw [HL3.out] at IX0
  rw [HX0.out] at Q0
  rw [← HX0.out] at C25 Q0 X0k
  have HQ := Lib.hid (show ∀ w9, (Op.equalIn 10000 30 (.agg (KSig.cs (L.getD 0 sg0)).toArray) (.agg (KSig.cs (L.getD 0 sg0)).toArray)).run Tryd.prog w9 = .ok true w9 from fun w9 => by rw [← show decide (L.getD 0 sg0 = L.getD 0 sg0) = true by simp]; exact eq_sig X0k.out X0k.out w9)
  rw [show KSig.v (L.getD 0 sg0) = .agg (KSig.cs (L.getD 0 sg0)).toArray from rfl] at C25
  generalize L.getD 0 sg0 = X0 at *
  have hbw := Lib.hid hbw
  clear hr hb hat hix
  go_wp2_with fail
  refine wp_region_G _ (by kernel_rfl) ?_
  refine wpG_take (i := 0) (oi := ⟨some 3, _, _, _, _, _⟩) (v := ?_) rfl (by kernel_rfl) (by kernel_rfl) (by kernel_rfl) (Or.inl ⟨by rfl, unib_val ?_⟩) ?_; rotate_left; (focus (intro w9 hSw; go_simp; try with_reducible rfl)); simp only [Act.put, List.setIfInBounds_toArray, List.set_cons_zero, List.set_cons_succ]
  refine wpG_take (i := 1) (oi := ⟨some 4, _, _, _, _, _⟩) (v := ?_) rfl (by kernel_rfl) (by kernel_rfl) (by kernel_rfl) (Or.inl ⟨by rfl, unib_val ?_⟩) ?_; rotate_left; (focus (intro w9 hSw; go_simp; try with_reducible rfl)); simp only [Act.put, List.setIfInBounds_toArray, List.set_cons_zero, List.set_cons_succ]
  refine wpG_take (i := 2) (oi := ⟨some 5, _, _, _, _, _⟩) (v := ?_) rfl (by kernel_rfl) (by kernel_rfl) (by kernel_rfl) (Or.inl ⟨by rfl, unib_val ?_⟩) ?_; rotate_left; (focus (intro w9 hSw; go_simp; try with_reducible rfl)); simp only [Act.put, List.setIfInBounds_toArray, List.set_cons_zero, List.set_cons_succ]
  refine wpG_take (i := 3) (oi := ⟨some 6, _, _, _, _, _⟩) (v := ?_) rfl (by kernel_rfl) (by kernel_rfl) (by kernel_rfl) (Or.inl ⟨by rfl, unib_val ?_⟩) ?_; rotate_left; (focus (intro w9 hSw; go_simp; try with_reducible rfl)); simp only [Act.put, List.setIfInBounds_toArray, List.set_cons_zero, List.set_cons_succ]
  refine wpG_take (i := 4) (oi := ⟨some 7, _, _, _, _, _⟩) rfl (by kernel_rfl) (by kernel_rfl) (by kernel_rfl) (Or.inl ⟨by rfl, unib_call ?_ C7.out⟩) ?_; (focus (intro w9 hSw; go_simp; try with_reducible rfl)); simp only [Act.put, List.setIfInBounds_toArray, List.set_cons_zero, List.set_cons_succ]
  refine wpG_take (i := 5) (oi := ⟨some 8, _, _, _, _, _⟩) (v := ?_) rfl (by kernel_rfl) (by kernel_rfl) (by kernel_rfl) (Or.inl ⟨by rfl, unib_val ?_⟩) ?_; rotate_left; (focus (intro w9 hSw; go_simp; try with_reducible rfl)); simp only [Act.put, List.setIfInBounds_toArray, List.set_cons_zero, List.set_cons_succ]
  refine wpG_take (i := 6) (oi := ⟨some 9, _, _, _, _, _⟩) (v := ?_) rfl (by kernel_rfl) (by kernel_rfl) (by kernel_rfl) (Or.inl ⟨by rfl, unib_val ?_⟩) ?_; rotate_left; (focus (intro w9 hSw; go_simp; try with_reducible rfl)); simp only [Act.put, List.setIfInBounds_toArray, List.set_cons_zero, List.set_cons_succ]
  refine wpG_take (i := 7) (oi := ⟨some 10, _, _, _, _, _⟩) (v := ?_) rfl (by kernel_rfl) (by kernel_rfl) (by kernel_rfl) (Or.inl ⟨by rfl, unib_val ?_⟩) ?_; rotate_left; (focus (intro w9 hSw; go_simp; try with_reducible rfl)); simp only [Act.put, List.setIfInBounds_toArray, List.set_cons_zero, List.set_cons_succ]
  refine wpG_take (i := 8) (oi := ⟨some 11, _, _, _, _, _⟩) (v := ?_) rfl (by kernel_rfl) (by kernel_rfl) (by kernel_rfl) (Or.inl ⟨by rfl, unib_val ?_⟩) ?_; rotate_left; (focus (intro w9 hSw; go_simp; try with_reducible rfl)); simp only [Act.put, List.setIfInBounds_toArray, List.set_cons_zero, List.set_cons_succ]
  refine wpG_take (i := 9) (oi := ⟨some 12, _, _, _, _, _⟩) (v := ?_) rfl (by kernel_rfl) (by kernel_rfl) (by kernel_rfl) (Or.inl ⟨by rfl, unib_val ?_⟩) ?_; rotate_left; (focus (intro w9 hSw; go_simp; try with_reducible rfl)); simp only [Act.put, List.setIfInBounds_toArray, List.set_cons_zero, List.set_cons_succ]
  refine wpG_take (i := 10) (oi := ⟨some 13, _, _, _, _, _⟩) rfl (by kernel_rfl) (by kernel_rfl) (by kernel_rfl) (Or.inl ⟨by rfl, unib_call_if ?_ C13.out⟩) ?_; (focus (intro w9 hSw; go_simp; try with_reducible rfl)); simp only [Act.put, List.setIfInBounds_toArray, List.set_cons_zero, List.set_cons_succ]
  refine wpG_take (i := 11) (oi := ⟨some 14, _, _, _, _, _⟩) (v := ?_) rfl (by kernel_rfl) (by kernel_rfl) (by kernel_rfl) (Or.inl ⟨by rfl, unib_val ?_⟩) ?_; rotate_left; (focus (intro w9 hSw; go_simp; try with_reducible rfl)); simp only [Act.put, List.setIfInBounds_toArray, List.set_cons_zero, List.set_cons_succ]
  refine wpG_take (i := 12) (oi := ⟨some 15, _, _, _, _, _⟩) (v := ?_) rfl (by kernel_rfl) (by kernel_rfl) (by kernel_rfl) (Or.inl ⟨by rfl, unib_val ?_⟩) ?_; rotate_left; (focus (intro w9 hSw; go_simp; try with_reducible rfl)); simp only [Act.put, List.setIfInBounds_toArray, List.set_cons_zero, List.set_cons_succ]
  refine wpG_take (i := 13) (oi := ⟨some 16, _, _, _, _, _⟩) (v := ?_) rfl (by kernel_rfl) (by kernel_rfl) (by kernel_rfl) (Or.inl ⟨by rfl, unib_val ?_⟩) ?_; rotate_left; (focus (intro w9 hSw; go_simp; try with_reducible rfl)); simp only [Act.put, List.setIfInBounds_toArray, List.set_cons_zero, List.set_cons_succ]
  refine wpG_take (i := 14) (oi := ⟨some 17, _, _, _, _, _⟩) (v := ?_) rfl (by kernel_rfl) (by kernel_rfl) (by kernel_rfl) (Or.inl ⟨by rfl, unib_val ?_⟩) ?_; rotate_left; (focus (intro w9 hSw; go_simp; try with_reducible rfl)); simp only [Act.put, List.setIfInBounds_toArray, List.set_cons_zero, List.set_cons_succ]
  refine wpG_take (i := 15) (oi := ⟨some 18, _, _, _, _, _⟩) rfl (by kernel_rfl) (by kernel_rfl) (by kernel_rfl) (Or.inl ⟨by rfl, unib_call_if ?_ C18.out⟩) ?_; (focus (intro w9 hSw; go_simp; try with_reducible rfl)); simp only [Act.put, List.setIfInBounds_toArray, List.set_cons_zero, List.set_cons_succ]
  refine wpG_take (i := 16) (oi := ⟨some 19, _, _, _, _, _⟩) (v := ?_) rfl (by kernel_rfl) (by kernel_rfl) (by kernel_rfl) (Or.inl ⟨by rfl, unib_val ?_⟩) ?_; rotate_left; (focus (intro w9 hSw; go_simp; try with_reducible rfl)); simp only [Act.put, List.setIfInBounds_toArray, List.set_cons_zero, List.set_cons_succ]
  refine wpG_take (i := 17) (oi := ⟨some 20, _, _, _, _, _⟩) (v := ?_) rfl (by kernel_rfl) (by kernel_rfl) (by kernel_rfl) (Or.inl ⟨by rfl, unib_val ?_⟩) ?_; rotate_left; (focus (intro w9 hSw; go_simp; try with_reducible rfl)); simp only [Act.put, List.setIfInBounds_toArray, List.set_cons_zero, List.set_cons_succ]
  refine wpG_take (i := 18) (oi := ⟨some 21, _, _, _, _, _⟩) (v := ?_) rfl (by kernel_rfl) (by kernel_rfl) (by kernel_rfl) (Or.inl ⟨by rfl, unib_val ?_⟩) ?_; rotate_left; (focus (intro w9 hSw; go_simp; try with_reducible rfl)); simp only [Act.put, List.setIfInBounds_toArray, List.set_cons_zero, List.set_cons_succ]
  refine wpG_take (i := 19) (oi := ⟨some 22, _, _, _, _, _⟩) (v := ?_) rfl (by kernel_rfl) (by kernel_rfl) (by kernel_rfl) (Or.inl ⟨by rfl, unib_val ?_⟩) ?_; rotate_left; (focus (intro w9 hSw; go_simp; try with_reducible rfl)); simp only [Act.put, List.setIfInBounds_toArray, List.set_cons_zero, List.set_cons_succ]
  refine wpG_take (i := 20) (oi := ⟨some 23, _, _, _, _, _⟩) (v := ?_) rfl (by kernel_rfl) (by kernel_rfl) (by kernel_rfl) (Or.inl ⟨by rfl, unib_val ?_⟩) ?_; rotate_left; (focus (intro w9 hSw; have q0 := IX0.out w9; go_simp; try with_reducible rfl)); simp only [Act.put, List.setIfInBounds_toArray, List.set_cons_zero, List.set_cons_succ]
  refine wpG_take (i := 21) (oi := ⟨some 24, _, _, _, _, _⟩) (v := (.agg (KSig.cs X0).toArray)) rfl (by kernel_rfl) (by kernel_rfl) (by kernel_rfl) (Or.inl ⟨by rfl, unib_val ?_⟩) ?_; (focus (intro w9 hSw; exact exec_load_at 30 _ rfl _ rfl (load_sigK Q0.out X0k.out hSw hbw.out))); simp only [Act.put, List.setIfInBounds_toArray, List.set_cons_zero, List.set_cons_succ]
  refine wpG_take (i := 22) (oi := ⟨some 25, _, _, _, _, _⟩) rfl (by kernel_rfl) (by kernel_rfl) (by kernel_rfl) (Or.inl ⟨by rfl, unib_call_if ?_ C25.out⟩) ?_; (focus (intro w9 hSw; go_simp; try with_reducible rfl)); simp only [Act.put, List.setIfInBounds_toArray, List.set_cons_zero, List.set_cons_succ]
  refine wpG_take (i := 23) (oi := ⟨some 26, _, _, _, _, _⟩) (v := (.bool true)) rfl (by kernel_rfl) (by kernel_rfl) (by kernel_rfl) (Or.inl ⟨by rfl, unib_val ?_⟩) ?_; (focus (intro w9 hSw; have q0 := HQ.out w9; exact exec_eql_at 30 _ _ _ rfl rfl rfl guardSig q0)); simp only [Act.put, List.setIfInBounds_toArray, List.set_cons_zero, List.set_cons_succ]
  refine wpG_take (i := 24) (oi := ⟨some 27, _, _, _, _, _⟩) (v := ?_) rfl (by kernel_rfl) (by kernel_rfl) (by kernel_rfl) (Or.inl ⟨by rfl, unib_val ?_⟩) ?_; rotate_left; (focus (intro w9 hSw; go_simp; try with_reducible rfl)); simp only [Act.put, List.setIfInBounds_toArray, List.set_cons_zero, List.set_cons_succ]
  refine wpG_take (i := 25) (oi := ⟨some 0, _, _, _, _, _⟩) (v := ?_) rfl (by kernel_rfl) (by kernel_rfl) (by kernel_rfl) (Or.inl ⟨by rfl, unib_val ?_⟩) ?_; rotate_left; (focus (intro w9 hSw; go_simp; try with_reducible rfl)); simp only [Act.put, List.setIfInBounds_toArray, List.set_cons_zero]
  refine wpG_done (by kernel_rfl) ?_ _
  intro w9 hSw _
  have B9 := Lib.hid (B1.out.trans (hSw.mono B1.out.size))
  clear hSw
  go_wp2
  go_ret
  exact ⟨rfl, B9.out⟩
end Go.Proofs.YtlahjooofjbfbaaDoor

