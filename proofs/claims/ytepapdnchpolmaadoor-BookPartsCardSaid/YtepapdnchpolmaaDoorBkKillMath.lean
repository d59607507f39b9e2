import Derived.Test.YtepapdnchpolmaaDoorBkWith
/-
  Plain facts on books that are written into: the greatest stamp bounds each stamp in it; what the next stamp is; what a record that is killed, and one that is written again, are.
-/
namespace Go.Proofs.YtepapdnchpolmaaDoor
open WM
set_option linter.unusedVariables false
theorem sle_refl (a : Int × Int) : sle a a := by unfold sle; rw [st_no]; omega
theorem sle_trans {a b c : Int × Int} (h1 : sle a b) (h2 : sle b c) : sle a c := by
  unfold sle at *
  rw [st_no] at *
  omega
theorem lastF_ge : ∀ (fs : List Fld) (s : Int × Int), sle s (lastF s fs) ∧ ∀ f ∈ fs, sle (f.c.n, f.c.r) (lastF s fs)
  | [], s => ⟨sle_refl s, fun f hf => by cases hf⟩
  | f :: fs, s => by
    have ih := lastF_ge fs (mx s (f.c.n, f.c.r))
    have e : lastF s (f :: fs) = lastF (mx s (f.c.n, f.c.r)) fs := rfl
    rw [e]
    refine ⟨sle_trans (sle_mx1 _ _) ih.1, fun g hg => ?_⟩
    rcases List.mem_cons.1 hg with rfl | hg
    · exact sle_trans (sle_mx2 _ _) ih.1
    · exact ih.2 g hg
/-- No stamp of the record is later. -/
def under (r : Rc) (m : Int × Int) : Prop := sle r.d m ∧ ∀ f ∈ r.fs, sle (f.c.n, f.c.r) m
theorem lastR_ge (s : Int × Int) (r : Rc) : sle s (lastR s r) ∧ under r (lastR s r) := by
  have h := lastF_ge r.fs (mx s (r.n, r.r))
  exact ⟨sle_trans (sle_mx1 _ _) h.1, sle_trans (sle_mx2 _ _) h.1, h.2⟩
theorem under_mono {r : Rc} {m m' : Int × Int} (h : under r m) (hm : sle m m') : under r m' := ⟨sle_trans h.1 hm, fun f hf => sle_trans (h.2 f hf) hm⟩
theorem foldR_ge : ∀ (rs : List Rc) (s : Int × Int), sle s (rs.foldl lastR s) ∧ ∀ r ∈ rs, under r (rs.foldl lastR s)
  | [], s => ⟨sle_refl s, fun r hr => by cases hr⟩
  | x :: rs, s => by
    have ih := foldR_ge rs (lastR s x)
    rw [List.foldl_cons]
    refine ⟨sle_trans (lastR_ge s x).1 ih.1, fun r hr => ?_⟩
    rcases List.mem_cons.1 hr with rfl | hr
    · exact under_mono (lastR_ge s r).2 ih.1
    · exact ih.2 r hr
theorem blast_ge {rs : List Rc} {r : Rc} (h : r ∈ rs) : under r (blast rs) := (foldR_ge rs (0, 0)).2 r h
/-- A stamp that may be given next. -/
theorem bnext_ok {rs : List Rc} {q : Int} (h : (bnext rs q).2.2 = 0) : 1 ≤ (bnext rs q).1 ∧ may (bnext rs q).1 (bnext rs q).2.1 = true ∧ (bnext rs q).2.1 = q ∧ ∀ m, sle m (blast rs) → stLess m.1 m.2 (bnext rs q).1 (bnext rs q).2.1 = true := by
  unfold bnext nxt at *
  split at h
  · rename_i hc
    rw [if_pos hc]
    split at h
    · cases h
    · rename_i hn
      rw [if_neg hn]
      simp only [Bool.and_eq_true] at hc
      obtain ⟨h1, h2⟩ := hc
      rw [may_iff] at h1
      unfold mayR at h2
      rw [decide_eq_true_iff] at h2
      dsimp only
      refine ⟨by omega, may_iff.2 (.inr ⟨by omega, by omega, h2.1, h2.2⟩), rfl, fun m hm => ?_⟩
      unfold sle at hm
      rw [st_no] at hm
      rw [stLess_iff]
      omega
  · cases h
theorem bnext_err (rs : List Rc) (q : Int) : (bnext rs q).2.2 = 0 ∨ (bnext rs q).2.2 = 1 ∨ (bnext rs q).2.2 = 4 := by
  unfold bnext nxt
  split
  · split
    · exact .inr (.inr rfl)
    · exact .inl rfl
  · exact .inr (.inl rfl)
theorem krec_may {z : List Int} {t : Int × Int × Int} (h1 : 1 ≤ t.1) (h2 : may t.1 t.2.1 = true) : (krec z t).may = true := by
  show rmay t.1 t.2.1 [] = true
  unfold rmay
  rw [h2, okFrom]
  simp
  omega
theorem okF_one {n r : Int} {no : Int} {t : Int × Int × Int} {s : ByteArray} (h1 : 1 ≤ t.1) (h2 : may t.1 t.2.1 = true) (h3 : 0 ≤ no) (h4 : no < 8) (h5 : s.size ≤ 200) (h6 : stLess n r t.1 t.2.1 = true) : okFrom n r 0 [⟨no, ⟨t.1, t.2.1, s⟩⟩] = true := by
  rw [okFrom, okFrom]
  have hc : cmay ⟨t.1, t.2.1, s⟩ = true := cmay_iff.2 ⟨h2, h1, h5⟩
  simp [h3, h4, hc, h6]
theorem wrec_may {z : List Int} {no : Int} {t : Int × Int × Int} {s : ByteArray} (h1 : 1 ≤ t.1) (h2 : may t.1 t.2.1 = true) (h3 : 0 ≤ no) (h4 : no < 8) (h5 : s.size ≤ 200) : (wrec z no t s).may = true := by
  show rmay 0 0 [⟨no, ⟨t.1, t.2.1, s⟩⟩] = true
  unfold rmay
  rw [okF_one h1 h2 h3 h4 h5 (stLess_iff.2 (.inl (by omega)))]
  simp [may]
theorem bmay_one {r : Rc} (h : r.may = true) : bmay [r] = true := bmay_iff.2 ⟨by simp, fun x hx => by rw [List.mem_singleton.1 hx]; exact h, List.pairwise_singleton _ _⟩
theorem bjoin_one {rs : List Rc} (r : Rc) (h : Rise rs) : bjoin rs [r] = bput rs r := by
  refine bk_ext (bjoin_rise _ _) (bput_rise r h) fun z => ?_
  rw [bat_bjoin h (List.pairwise_singleton _ _), bat_bput r z h, bat_cons, bat_nil]
  by_cases e : r.z = z
  · rw [if_pos e, if_pos e, bmerge_bone]
  · rw [if_neg e, if_neg e, bmerge_none]
theorem bput_len : ∀ {bs : List Rc} {r x : Rc}, Rise bs → bat bs r.z = some x → (bput bs r).length = bs.length
  | [], r, x, _, h => by cases h
  | y :: ys, r, x, hr, h => by
    rw [bput]
    by_cases e : y.z = r.z
    · rw [if_pos e]; rfl
    · rw [if_neg e]
      rw [bat_cons, if_neg e] at h
      have hy := List.pairwise_cons.1 hr
      have hl : lessL r.z y.z = false := by
        have hm := bat_some h
        have := hy.1 x hm.1
        rw [hm.2] at this
        exact il_asym this
      rw [hl, if_neg (by simp), List.length_cons, List.length_cons, bput_len hy.2 h]
/-- What is joined to a book's record of that name: the book holds the join, and no record more. -/
theorem join_in {rs : List Rc} {r x : Rc} (hm : bmay rs = true) (hr : r.may = true) (h : bat rs r.z = some x) :
    bjE rs [r] = (0, bjoin rs [r]) ∧ bmay (bjoin rs [r]) = true ∧ bat (bjoin rs [r]) r.z = some (jn x r) ∧ (bjoin rs [r]).length = rs.length ∧ bleq rs (bjoin rs [r]) = true := by
  obtain ⟨h1, h2, h3⟩ := bmay_iff.1 hm
  have hl : (bjoin rs [r]).length = rs.length := by rw [bjoin_one r h3, bput_len h3 h]
  have h10 : (bjoin rs [r]).length ≤ 10 := by omega
  have ho := bmay_one hr
  refine ⟨bjE_yes hm ho h10, bjoin_bmay hm ho h10, ?_, hl, bleq_join1 hm ho h10⟩
  rw [bjoin_one r h3, bat_bput r r.z h3, if_pos rfl, h]
  rfl
theorem toF_no {φ : Nat → Option Cel} (h : ∀ k, φ k = none) : ∀ n k, toF φ k n = []
  | 0, _ => rfl
  | n + 1, k => by rw [toF, h k, toF_no h n (k + 1)]; rfl
theorem mx_less {a b : Int × Int} (h : stLess a.1 a.2 b.1 b.2 = true) : mx a b = b := by unfold mx; rw [if_pos h]
theorem mx_nought {x : Int × Int} (h : 1 ≤ x.1) : mx x (0, 0) = x := by
  rcases mx_is x ((0, 0) : Int × Int) with h' | h'
  · have := stLess_iff.1 h'.1
    dsimp only at this
    omega
  · exact h'.2
/-- Killed by a stamp that is later than all of the record's own. -/
theorem jn_krec {x : Rc} {z : List Int} {t : Int × Int × Int} {m : Int × Int} (hz : x.z = z) (hu : under x m) (ht : ∀ k, sle k m → stLess k.1 k.2 t.1 t.2.1 = true) : jn x (krec z t) = krec z t := by
  have hd : mx x.d (krec z t).d = (t.1, t.2.1) := mx_less (ht _ hu.1)
  have hf : (jn x (krec z t)).fs = [] := by
    refine toF_no (φ := fun k => ofilt (mx x.d (krec z t).d) (omerge (x.at k) ((krec z t).at k))) (fun k => ?_) 8 0
    show ofilt (mx x.d (krec z t).d) (omerge (x.at k) (rfind [] (k : Int))) = none
    rw [rfind_nil, omerge_none, hd]
    cases hc : x.at k with
    | none => rfl
    | some c =>
      obtain ⟨f, hf, _, rfl⟩ := rfind_mem hc
      refine ofilt_no ?_
      have := stLess_iff.1 (ht _ (hu.2 f hf))
      show stLess t.1 t.2.1 f.c.n f.c.r = false
      rw [st_no]
      dsimp only at this
      omega
  have e : jn x (krec z t) = ⟨x.z, (mx x.d (krec z t).d).1, (mx x.d (krec z t).d).2, (jn x (krec z t)).fs⟩ := rfl
  rw [e, hf, hd, hz]
  rfl
/-- Written again after a death. -/
def urec (z : List Int) (t : Int × Int × Int) (no : Int) (t' : Int × Int × Int) (s : ByteArray) : Rc := ⟨z, t.1, t.2.1, [⟨no, ⟨t'.1, t'.2.1, s⟩⟩]⟩
theorem jn_wrec {z : List Int} {no : Int} {t t' : Int × Int × Int} {s : ByteArray} (h1 : 1 ≤ t.1) (h2 : may t.1 t.2.1 = true) (h1' : 1 ≤ t'.1) (h2' : may t'.1 t'.2.1 = true) (h3 : 0 ≤ no) (h4 : no < 8) (h5 : s.size ≤ 200) (hl : stLess t.1 t.2.1 t'.1 t'.2.1 = true) :
    jn (krec z t) (wrec z no t' s) = urec z t no t' s := by
  have m1 := krec_may (z := z) h1 h2
  have m2 := wrec_may (z := z) h1' h2' h3 h4 h5
  have m3 : (urec z t no t' s).may = true := by
    show rmay t.1 t.2.1 [⟨no, ⟨t'.1, t'.2.1, s⟩⟩] = true
    unfold rmay
    rw [h2, okF_one h1' h2' h3 h4 h5 hl]
    simp
  have hd : mx (krec z t).d (wrec z no t' s).d = (t.1, t.2.1) := mx_nought (x := (t.1, t.2.1)) h1
  refine rc_ext (jn_may m1 m2) m3 rfl (hd.trans rfl) fun k hk => ?_
  rw [at_jn _ _ hk, hd]
  show ofilt (t.1, t.2.1) (omerge (rfind [] (k : Int)) (rfind [⟨no, ⟨t'.1, t'.2.1, s⟩⟩] (k : Int))) = rfind [⟨no, ⟨t'.1, t'.2.1, s⟩⟩] (k : Int)
  rw [rfind_nil, omerge_comm, omerge_none, rfind_cons, rfind_nil]
  by_cases e : no = (k : Int)
  · rw [if_pos e]
    exact ofilt_some hl
  · rw [if_neg e]; rfl
end Go.Proofs.YtepapdnchpolmaaDoor

