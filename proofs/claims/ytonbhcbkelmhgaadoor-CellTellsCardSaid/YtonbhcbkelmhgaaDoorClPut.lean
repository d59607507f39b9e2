/-
  What cell.Put answers. Nothing that was there is written.
-/
import Derived.Test.YtonbhcbkelmhgaaDoorClBase
import Derived.Test.YtonbhcbkelmhgaaDoorWText
namespace Go.Proofs.YtonbhcbkelmhgaaDoor
open Go.RowKit WM
set_option linter.unusedVariables false
/-- A cell's bytes. -/
def cenc (c : Cel) : List Int := enc (c.n * 8 + c.r) ++ txt c.s
theorem cenc_bytes (c : Cel) : AllBytes (cenc c) := all_append (enc_bytes _) (txt_bytes _)
theorem cenc_len (c : Cel) (h : c.s.size ≤ 200) : (cenc c).length ≤ 220 ∧ 2 ≤ (cenc c).length := by
  have h1 := enc_len (c.n * 8 + c.r)
  have h2 := enc_len c.s.size
  have h3 := nums_len c.s
  unfold cenc txt
  rw [List.length_append, List.length_append]
  omega
def CPutPost (w : World) (c : Cel) (e : Ending) (w' : World) : Prop :=
  if cmay c then GivesT w (cenc c) e w' else e = .returned (.tuple #[.slice none 0 0, .bool false]) ∧ Below w.heap.size w w'
set_option maxHeartbeats 1000000 in
theorem cput_any (c : Cel) (w : World) : Calls Tryd.prog 15 #[c.v] w (CPutPost w c) := by
  obtain ⟨i0, hi, hz0, hz1, hz2⟩ := info_parts infoByte
  have S0 := Lib.hid (ClAt.new w c)
  have B0 := Lib.hid ((((Below.refl w.heap.size w).alloc (Nat.le_refl _) (.cells #[.int .i64 c.n, .int .i64 c.r, .string c.s] 25))))
  have HP := Lib.hid (stPut_any c.n c.r)
  have HM := Lib.hid (cmay_any c)
  cases hm : cmay c
  · have HN : Hid (∀ e w', e = .returned (.tuple #[.slice none 0 0, .bool false]) → Below w.heap.size w w' → CPutPost w c e w') := Lib.hid (fun e w' h1 h2 => by unfold CPutPost; rw [hm]; exact ⟨h1, h2⟩)
    rw [hm] at HM
    unfold StPutPost at HP
    clear hm
    cases hs : may c.n c.r
    · rw [hs] at HP
      simp only [Bool.false_eq_true, if_false] at HP
      unfold st at HP
      unfold Cel.v
      clear hs
      go_enter Tryd.func15, Tryd.ntmps15
      go_wp2_with fail
      refine (HP.out _).mono ?_
      rintro e w1 ⟨rfl, hb⟩
      have B1 := Lib.hid (B0.out.trans (hb.mono B0.out.size))
      clear hb
      go_wp2
      go_ret2
      exact HN.out _ _ rfl B1.out
    · rw [hs] at HP
      simp only [if_true] at HP
      unfold st at HP
      unfold Cel.v at HM ⊢
      clear hs
      go_enter Tryd.func15, Tryd.ntmps15
      go_wp2_with fail
      refine (HP.out _).mono ?_
      rintro e w1 ⟨A, n, k, rfl, hn, hnk, hkm, hown, hb⟩
      have B1 := Lib.hid (B0.out.trans (hb.mono B0.out.size))
      have s0 := S0.out.below hb S0.out.lt
      have a0 := s0.c0
      have a1 := s0.c1
      have a2 := s0.c2
      clear hb s0 hn hnk hkm hown
      go_wp2_with fail
      refine (HM.out _).mono ?_
      rintro e w2 ⟨rfl, hb⟩
      have B2 := Lib.hid (B1.out.trans (hb.mono B1.out.size))
      clear hb a0 a1 a2
      go_wp2
      go_ret2
      exact HN.out _ _ rfl B2.out
  · have HN : Hid (∀ e w', GivesT w (cenc c) e w' → CPutPost w c e w') := Lib.hid (fun e w' h1 => by unfold CPutPost; rw [hm]; exact h1)
    rw [hm] at HM
    obtain ⟨hs, hn1, hsz⟩ := cmay_iff.1 hm
    have HT := Lib.hid (fun w => text_gives c.s w (by omega))
    have hlen := cenc_len c hsz
    unfold cenc at hlen HN
    rw [List.length_append] at hlen
    unfold StPutPost at HP
    rw [hs] at HP
    simp only [if_true] at HP
    generalize enc (c.n * 8 + c.r) = E at *
    generalize txt c.s = F at *
    unfold st at HP
    unfold Cel.v at HM ⊢
    clear hs hm hn1 hsz
    go_enter Tryd.func15, Tryd.ntmps15
    go_wp2_with fail
    refine (HP.out _).mono ?_
    rintro e w1 ⟨A, n, k, rfl, hn, hnk, hkm, hown, hb⟩
    have B1 := Lib.hid (B0.out.trans (hb.mono B0.out.size))
    have O1 := Lib.hid (own_wide hown B0.out.size)
    have S1 := Lib.hid (S0.out.below hb S0.out.lt)
    have a0 := S1.out.c0
    have a1 := S1.out.c1
    have a2 := S1.out.c2
    have HL1 := Lib.hid hn
    clear hb hn hnk hkm hown
    go_wp2_with fail
    refine (HM.out _).mono ?_
    rintro e w2 ⟨rfl, hb⟩
    have B2 := Lib.hid (B1.out.trans (hb.mono B1.out.size))
    have O2 := Lib.hid (own_below O1.out hb)
    have S2 := Lib.hid (S1.out.below hb S1.out.lt)
    clear hb a0 a1 a2
    have a2 := S2.out.c2
    go_wp2_with fail
    refine (HT.out _).mono ?_
    rintro e w3 ⟨A3, n3, k3, rfl, hn3, hnk3, hkm3, hown3, hb⟩
    have B3 := Lib.hid (B2.out.trans (hb.mono B2.out.size))
    have O3 := Lib.hid (own_below O2.out hb)
    have hnil := Lib.hid (own_nil hown3)
    have hby := Lib.hid (Byt.own hown3)
    have HL3 := Lib.hid hn3
    have hlen3 : n + n3 ≤ 140737488355328 := by have := HL1.out; omega
    clear hb a2 hn3 hnk3 hkm3 hown3 hlen
    go_wp2_with (at_builtin; refine wpList_append_byt _ rfl _ _ 26 rfl w.heap.size 5 i0 Tryd.underlying26 hi hz0 hz1 hz2 _ n E rfl O3.out w3.heap.size A3 n3 k3 F rfl hby.out HL3.out hnil.out hlen3 B3.out.size ?_; intro v4 w4 ho4 hg4; have G4 := Lib.hid (HN.out _ _ (givesT_own ho4 (B3.out.grown hg4 B3.out.size (fun g hg => own_base O3.out hg)))); clear ho4 hg4)
    go_ret2
    exact G4.out
end Go.Proofs.YtonbhcbkelmhgaaDoor
