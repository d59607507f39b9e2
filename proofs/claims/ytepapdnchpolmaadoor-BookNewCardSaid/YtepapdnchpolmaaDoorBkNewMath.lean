import Derived.Test.YtepapdnchpolmaaDoorBkKillMath
/-
  Plain facts on a book that a text is written into: what is found there, and that all that was there is of earlier stamps.
-/
namespace Go.Proofs.YtepapdnchpolmaaDoor
open WM
set_option linter.unusedVariables false
theorem mx_may {x : Int × Int} (h : may x.1 x.2 = true) : mx x (0, 0) = x := by
  rcases mx_is x ((0, 0) : Int × Int) with h' | h'
  · have h2 := stLess_iff.1 h'.1
    dsimp only at h2
    rcases may_iff.1 h with h | h <;> omega
  · exact h'.2
theorem find_wrec {x : Rc} {z : List Int} {no : Int} {t : Int × Int × Int} {s : ByteArray} {m : Int × Int} (hx : x.may = true) (hu : under x m) (ht : ∀ k, sle k m → stLess k.1 k.2 t.1 t.2.1 = true) (h3 : 0 ≤ no) (h4 : no < 8) :
    rfind (jn x (wrec z no t s)).fs no = some ⟨t.1, t.2.1, s⟩ := by
  have hj := at_jn x (wrec z no t s) (k := no.toNat) (by omega)
  unfold Rc.at at hj
  rw [Int.toNat_of_nonneg h3] at hj
  rw [hj]
  show ofilt (mx x.d (0, 0)) (omerge (rfind x.fs no) (rfind [⟨no, ⟨t.1, t.2.1, s⟩⟩] no)) = _
  rw [mx_may (may_dead hx), rfind_cons, if_pos rfl]
  have hl : sl x.d ⟨t.1, t.2.1, s⟩ = true := ht _ hu.1
  cases hc : rfind x.fs no with
  | none => exact ofilt_some hl
  | some c =>
    obtain ⟨f, hf, _, rfl⟩ := rfind_mem hc
    have hls : cless f.c ⟨t.1, t.2.1, s⟩ = true := st_cless (ht _ (hu.2 f hf))
    show ofilt x.d (some (cjoin f.c ⟨t.1, t.2.1, s⟩)) = _
    unfold cjoin
    rw [if_pos hls]
    exact ofilt_some hl
theorem bwrite_cases (rs : List Rc) (z : List Int) (no q : Int) (s : ByteArray) :
    bwrite rs z no q s = (1, []) ∨ bwrite rs z no q s = (4, []) ∨ ∃ (X : List Rc) (U : Rc) (n2 : Int), bwrite rs z no q s = (0, X) ∧ bmay X = true ∧ bat X z = some U ∧ rfind U.fs no = some ⟨n2, q, s⟩ ∧ bleq rs X = true ∧
      ∀ r ∈ rs, stLess r.n r.r n2 q = true ∧ ∀ f ∈ r.fs, stLess f.c.n f.c.r n2 q = true := by
  cases ho : bwok rs no q s
  · exact .inl (by unfold bwrite; rw [ho]; rfl)
  · have hw : bwrite rs z no q s = if (bnext rs q).2.2 = 0 then bjE rs [wrec z no (bnext rs q) s] else ((bnext rs q).2.2, []) := by unfold bwrite; rw [ho]; rfl
    rcases bnext_err rs q with e | e | e
    · rw [if_pos e] at hw
      obtain ⟨u1, u2, u3, u4⟩ := bnext_ok e
      clear e
      generalize bnext rs q = t at hw u1 u2 u3 u4
      unfold bwok at ho
      simp only [Bool.and_eq_true, decide_eq_true_eq] at ho
      have hm := ho.1.1.1.1
      have wm := wrec_may (z := z) u1 u2 ho.1.1.1.2 ho.1.1.2 ho.2
      have hm2 := bmay_one wm
      obtain ⟨h1, h2, h3⟩ := bmay_iff.1 hm
      by_cases hl : 10 < (bjoin rs [wrec z no t s]).length
      · exact .inr (.inl (hw.trans (bjE_large hm hm2 hl)))
      · refine .inr (.inr ⟨_, bone (bat rs z) (wrec z no t s), t.1, hw.trans (bjE_yes hm hm2 (by omega)), bjoin_bmay hm hm2 (by omega), ?_, ?_, bleq_join1 hm hm2 (by omega), fun r hr => ?_⟩)
        · rw [bat_bjoin h3 (bmay_iff.1 hm2).2.2, bat_cons, if_pos (show (wrec z no t s).z = z from rfl), bmerge_bone]
        · rw [← u3]
          cases hb : bat rs z with
          | none =>
            show rfind [⟨no, ⟨t.1, t.2.1, s⟩⟩] no = _
            rw [rfind_cons, if_pos rfl]
          | some x => exact find_wrec (bat_may h2 hb).1 (blast_ge (bat_some hb).1) u4 ho.1.1.1.2 ho.1.1.2
        · have hu := blast_ge hr
          rw [← u3]
          exact ⟨u4 _ hu.1, fun f hf => u4 _ (hu.2 f hf)⟩
    · rw [if_neg (by omega), e] at hw
      exact .inl hw
    · rw [if_neg (by omega), e] at hw
      exact .inr (.inl hw)
end Go.Proofs.YtepapdnchpolmaaDoor

