import Derived.Test.YtepapdnchpolmaaDoorBkKillMath
/-
  Plain facts on a book that is put together out of its records, one by one, from the n-th one on, round the end.
-/
namespace Go.Proofs.YtepapdnchpolmaaDoor
open WM
set_option linter.unusedVariables false
theorem bat_filter (q : List Int → Bool) (z : List Int) : ∀ rs : List Rc, bat (rs.filter fun r => q r.z) z = if q z = true then bat rs z else none
  | [] => by simp [bat_nil]
  | r :: rs => by
    have ih := bat_filter q z rs
    rw [List.filter_cons, bat_cons]
    by_cases e : r.z = z
    · subst e
      rw [if_pos rfl]
      cases hq : q r.z
      · rw [hq] at ih
        rw [if_neg (by simp), if_neg (by simp), ih, if_neg (by simp)]
      · rw [if_pos rfl, if_pos rfl, bat_cons, if_pos rfl]
    · rw [if_neg e]
      split
      · rw [bat_cons, if_neg e, ih]
      · exact ih
/-- Is it one of the names that were put in? -/
def pq (rs : List Rc) (n i : Nat) (z : List Int) : Bool := (List.range i).any fun j => decide ((rs.getD ((j + n) % rs.length) rc0).z = z)
def part (rs : List Rc) (n i : Nat) : List Rc := rs.filter fun r => pq rs n i r.z
theorem pq_succ (rs : List Rc) (n i : Nat) (z : List Int) : pq rs n (i + 1) z = (pq rs n i z || decide ((rs.getD ((i + n) % rs.length) rc0).z = z)) := by
  unfold pq
  rw [List.range_succ, List.any_append]
  simp
theorem part_zero (rs : List Rc) (n : Nat) : part rs n 0 = [] := by
  unfold part
  rw [List.filter_eq_nil_iff]
  intro r _
  simp [pq]
theorem part_rise {rs : List Rc} (h : Rise rs) (n i : Nat) : Rise (part rs n i) := List.Pairwise.filter _ h
theorem part_bmay {rs : List Rc} (h : bmay rs = true) (n i : Nat) : bmay (part rs n i) = true := by
  obtain ⟨h1, h2, h3⟩ := bmay_iff.1 h
  exact bmay_iff.2 ⟨Nat.le_trans (List.length_filter_le _ _) h1, fun r hr => h2 r (List.mem_filter.1 hr).1, part_rise h3 n i⟩
theorem part_all {rs : List Rc} {n : Nat} (hn : n < rs.length) : part rs n rs.length = rs := by
  unfold part
  rw [List.filter_eq_self]
  intro r hr
  obtain ⟨m, hm, rfl⟩ := List.mem_iff_getElem.1 hr
  unfold pq
  rw [List.any_eq_true]
  refine ⟨if n ≤ m then m - n else m + rs.length - n, ?_, ?_⟩
  · rw [List.mem_range]; split <;> omega
  · have e : ((if n ≤ m then m - n else m + rs.length - n) + n) % rs.length = m := by
      split
      · rw [Nat.sub_add_cancel (by omega), Nat.mod_eq_of_lt hm]
      · rw [Nat.sub_add_cancel (by omega), Nat.add_mod_right, Nat.mod_eq_of_lt hm]
    rw [e]
    simp [List.getD, List.getElem?_eq_getElem hm]
theorem part_succ {rs : List Rc} {n i : Nat} (h : bmay rs = true) (h0 : 0 < rs.length) : bjE [rs.getD ((i + n) % rs.length) rc0] (part rs n i) = (0, part rs n (i + 1)) := by
  obtain ⟨h1, h2, h3⟩ := bmay_iff.1 h
  have hm : (i + n) % rs.length < rs.length := Nat.mod_lt _ h0
  have hmem : rs.getD ((i + n) % rs.length) rc0 ∈ rs := by rw [List.getD, List.getElem?_eq_getElem hm]; exact List.getElem_mem hm
  generalize hx : rs.getD ((i + n) % rs.length) rc0 = x at *
  have o1 := bmay_one (h2 x hmem)
  have o2 := part_bmay h n i
  have e : bjoin [x] (part rs n i) = part rs n (i + 1) := by
    refine bk_ext (bjoin_rise _ _) (part_rise h3 _ _) fun z => ?_
    rw [bat_bjoin (bmay_iff.1 o1).2.2 (part_rise h3 _ _)]
    unfold part
    rw [bat_filter, bat_filter, pq_succ, hx, bat_cons, bat_nil]
    by_cases e : x.z = z
    · subst e
      have hb := bat_mem h3 hmem
      rw [if_pos rfl, hb, decide_eq_true rfl, Bool.or_true, if_pos rfl]
      split
      · have := bmerge_self h2 x.z
        rwa [hb] at this
      · rfl
    · rw [if_neg e, decide_eq_false e, Bool.or_false]
      generalize (if pq rs n i z = true then bat rs z else none) = o
      cases o <;> rfl
  rw [bjE_yes o1 o2 (by rw [e]; exact (bmay_iff.1 (part_bmay h n (i + 1))).1), e]
end Go.Proofs.YtepapdnchpolmaaDoor

