import Derived.Test.YtcmknbdeafcknaaGreatDoorCaMath
/-
  Books, as bytes: with more behind, or cut, they are none. No program is named here.
-/
namespace Go.Proofs.YtcmknbdeafcknaaGreatDoor
open Go.RowKit WM
set_option linter.unusedVariables false
theorem many_ok {p : List Int → Option (Rc × List Int)} (h : ∀ zs R ys, AllBytes zs → p zs = some (R, ys) → R.Ok ∧ AllBytes ys) : ∀ (k : Nat) (zs : List Int) (l : List Rc) (ys : List Int), AllBytes zs → many p k zs = some (l, ys) → ∀ R ∈ l, R.Ok
  | 0, zs, l, ys, hb, hm, R, hR => by rw [many] at hm; cases hm; cases hR
  | k + 1, zs, l, ys, hb, hm, R, hR => by
    cases hp : p zs with
    | none => rw [many_none hp] at hm; cases hm
    | some x =>
      obtain ⟨a, rs⟩ := x
      rw [many_some hp] at hm
      cases hq : many p k rs with
      | none => rw [hq] at hm; cases hm
      | some y =>
        obtain ⟨l', r'⟩ := y
        rw [hq] at hm
        cases hm
        obtain ⟨h1, h2⟩ := h zs a rs hb hp
        rcases List.mem_cons.1 hR with rfl | hR
        · exact h1
        · exact many_ok h k rs l' r' h2 hq R hR
theorem bget_ok {zs : List Int} {X : List Rc} (hb : AllBytes zs) (h : bget zs = some X) : ∀ R ∈ X, R.Ok := by
  unfold bget at h
  split at h
  · cases h
  · rename_i rs ys hl
    split at h
    · cases h
      unfold lst at hl
      cases hc : cnt 10 zs with
      | none => rw [hc] at hl; cases hl
      | some x =>
        rw [hc, Option.bind_some] at hl
        have c1 := (cnt_some hb (show cnt 10 zs = some (x.1, x.2) from hc)).1
        exact many_ok (fun zs R ys hz hp => ⟨prc_ok hz hp, fun z hzz => hz z (by rw [prc_got zs R ys hz hp]; exact List.mem_append_right _ hzz)⟩) x.1 x.2 X ys (fun z hz => hb z (by rw [c1]; exact List.mem_append_right _ hz)) hl
    · cases h
theorem lst_benc {X : List Rc} (t : List Int) (h : bmay X = true) (hz : ∀ R ∈ X, R.z.length = 16) : lst prc 10 (benc X ++ t) = some (X, t) := by
  obtain ⟨h1, h2, h3⟩ := bmay_iff.1 h
  unfold benc
  rw [List.append_assoc]
  exact lst_put (p := prc) (enc1 := renc) (most := 10) X t (by omega) (by omega) (fun R hR t => prc_put t (hz R hR) (h2 R hR))
theorem bget_more {X : List Rc} {t : List Int} (h : bmay X = true) (hz : ∀ R ∈ X, R.z.length = 16) (ht : t ≠ []) : bget (benc X ++ t) = none := by
  unfold bget
  rw [lst_benc t h hz]
  dsimp only
  rw [if_neg (fun hc => ht (List.length_eq_zero_iff.1 hc.1))]
theorem bget_less {X : List Rc} {k : Nat} (h : bmay X = true) (hk : ∀ R ∈ X, R.Ok) (hl : k < (benc X).length) : bget ((benc X).take k) = none := by
  cases hg : bget ((benc X).take k) with
  | none => rfl
  | some Y =>
    have hb := all_take (benc_bytes h hk) k
    obtain ⟨g1, g2⟩ := bget_got hb hg
    have g3 := bget_ok hb hg
    have e : benc X = benc Y ++ (benc X).drop k := by rw [g2]; exact (List.take_append_drop k _).symm
    have e1 := lst_benc ((benc X).drop k) g1 fun R hR => (g3 R hR).1
    have e2 := lst_benc [] h fun R hR => (hk R hR).1
    rw [List.append_nil, e, e1] at e2
    have e3 := congrArg List.length (Prod.mk.inj (Option.some.inj e2)).2
    rw [List.length_drop, List.length_nil] at e3
    omega
end Go.Proofs.YtcmknbdeafcknaaGreatDoor

