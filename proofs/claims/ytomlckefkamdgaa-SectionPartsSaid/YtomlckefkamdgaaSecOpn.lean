/-
  Plain facts on sections as lists of bytes: what is packed is opened, whatever stands behind; what is opened is packed as the same bytes; a beginning is none; with one byte changed it is none.
-/
import Derived.Test.YtomlckefkamdgaaSecOpen
namespace Go.Proofs.Ytomlckefkamdgaa
open Go.RowKit WM
set_option linter.unusedVariables false

theorem head_len (k : Int) (b : List Int) : (packHead k b).length = 1 + (enc b.length).length + b.length := by simp [packHead]; omega
theorem beg_head {k : Int} {n : Nat} (t : List Int) (h9 : k ≤ 9) (hn : n ≤ 100000) : beg (k :: (enc n ++ t)) = some (1 + (enc n).length, n) := by
  rw [beg, if_neg (by omega), dec_enc n t (by omega) (by omega)]
  simp only [if_neg (show ¬ (100000 : Int) < n by omega)]
  simp
theorem opn_is (k : Int) (b wd rest : List Int) (h9 : k ≤ 9) (hn : b.length ≤ 100000) (h4 : wd.length = 4) :
    opn (packHead k b ++ (wd ++ rest)) = if wd = word (SM.sum (packHead k b)) then .ok k b ((packHead k b).length + 4) else .check := by
  have e0 : packHead k b ++ (wd ++ rest) = k :: (enc b.length ++ (b ++ (wd ++ rest))) := by simp [packHead]
  have hl := head_len k b
  have hb : beg (packHead k b ++ (wd ++ rest)) = some (1 + (enc b.length).length, b.length) := by rw [e0]; exact beg_head _ h9 hn
  rw [opn, hb]
  simp only []
  rw [if_neg (by simp only [List.length_append]; omega), List.drop_left' (by omega), List.take_left' h4, List.take_left' (by omega)]
  have e1 : packHead k b ++ (wd ++ rest) = ([k] ++ enc b.length) ++ (b ++ (wd ++ rest)) := by simp [packHead]
  have e2 : (packHead k b ++ (wd ++ rest)).getD 0 0 = k := by rw [e0]; rfl
  have e3 : (List.drop (1 + (enc b.length).length) (packHead k b ++ (wd ++ rest))).take b.length = b := by
    rw [e1, List.drop_left' (by simp; omega), List.take_left' rfl]
  rw [e2, e3, hl]
theorem word_len (x : Int) : (word x).length = 4 := rfl
theorem opn_pack (k : Int) (b rest : List Int) (h9 : k ≤ 9) (hn : b.length ≤ 100000) : opn (packL k b ++ rest) = .ok k b (packL k b).length := by
  rw [packL, List.append_assoc, opn_is k b _ rest h9 hn (word_len _), if_pos rfl, List.length_append, word_len]
theorem opn_ok {zs : List Int} {k : Int} {b : List Int} {n : Nat} (hb : AllBytes zs) (h : opn zs = .ok k b n) : 0 ≤ k ∧ k ≤ 9 ∧ b.length ≤ 100000 ∧ n ≤ zs.length ∧ packL k b = zs.take n ∧ AllBytes b := by
  rw [opn] at h
  match hg : beg zs with
  | none => rw [hg] at h; cases h
  | some (u, m) =>
    rw [hg] at h
    simp only [] at h
    obtain ⟨b1, b2, b3, b4, k0, t, rfl, k1, k2, hd⟩ := beg_some hb hg
    split at h
    · cases h
    · rename_i hs
      split at h
      · rename_i hq
        injection h with h1 h2 h3
        subst h1 h2 h3
        have hbt : AllBytes t := fun z hz => hb z (by simp [hz])
        obtain ⟨_, d2, d3, d4, d5⟩ := dec_some hbt hd
        have hlen : (List.take m (List.drop u (k0 :: t))).length = m := by rw [List.length_take, List.length_drop]; omega
        have hhead : packHead k0 (List.take m (List.drop u (k0 :: t))) = (k0 :: t).take (u + m) := by
          rw [packHead, hlen, d3, List.take_add, List.singleton_append, show u = (u - 1) + 1 by omega, List.take_succ_cons, Nat.add_sub_cancel]
        refine ⟨k1, k2, by omega, by omega, ?_, fun z hz => hb z (List.mem_of_mem_drop (List.mem_of_mem_take hz))⟩
        show packL k0 (List.take m (List.drop u (k0 :: t))) = _
        rw [packL, hhead, ← hq, List.take_add (i := u + m) (j := 4)]
      · cases h
theorem sum_set {l : List Int} {i : Nat} {c : Int} (hi : i < l.length) (hb : AllBytes l) (hc : 0 ≤ c ∧ c ≤ 255) (h : SM.sum (l.set i c) = SM.sum l) : l.getD i 0 = c := by
  have e1 : l = l.take i ++ l.getD i 0 :: l.drop (i + 1) := by
    conv => lhs; rw [← List.take_append_drop i l, List.drop_eq_getElem_cons hi]
    simp [List.getD, List.getElem?_eq_getElem hi]
  have e2 : l.set i c = l.take i ++ c :: l.drop (i + 1) := by rw [List.set_eq_take_append_cons_drop, if_pos hi]
  rw [e2] at h
  conv at h => rhs; rw [e1]
  exact (SM.sum_one (all_take hb _) (all_drop hb _) hc (all_get hb i) h).symm
theorem word_inj {x y : Int} (hx : 0 ≤ x ∧ x ≤ 4294967295) (hy : 0 ≤ y ∧ y ≤ 4294967295) (h : word x = word y) : x = y := by
  simp [word] at h
  omega
/-- With one byte changed. -/
theorem opn_one {k : Int} {b : List Int} {i : Nat} {c : Int} (h0 : 0 ≤ k) (h9 : k ≤ 9) (hb : AllBytes b) (hn : b.length ≤ 100000) (hc : 0 ≤ c ∧ c ≤ 255) (hi : i < (packL k b).length) (hne : (packL k b).getD i 0 ≠ c) (hat : i = 0 ∨ (packL k b).length - 4 - b.length ≤ i) :
    opn ((packL k b).set i c) = .check ∨ i = 0 ∧ opn ((packL k b).set i c) = .form := by
  have hl := head_len k b
  have hpl := pack_len k b
  have hhb := head_bytes h0 h9 hb
  have hsr := SM.sum_range hhb
  rw [packL, List.set_append]
  by_cases hh : i < (packHead k b).length
  · rw [if_pos hh]
    have hne' : (packHead k b).getD i 0 ≠ c := by
      have : (packL k b).getD i 0 = (packHead k b).getD i 0 := by rw [packL, List.getD, List.getElem?_append_left hh]; rfl
      rwa [this] at hne
    have hbs : AllBytes ((packHead k b).set i c) := fun z hz => by
      rcases List.mem_or_eq_of_mem_set hz with h1 | h1
      · exact hhb z h1
      · rw [h1]; exact hc
    have hws : ¬ word (SM.sum (packHead k b)) = word (SM.sum ((packHead k b).set i c)) := fun e => hne' (sum_set hh hhb hc (word_inj hsr (SM.sum_range hbs) e).symm)
    rcases hat with rfl | hat
    · have e1 : (packHead k b).set 0 c = packHead c b := by simp [packHead]
      rw [e1] at hws ⊢
      by_cases hc9 : c ≤ 9
      · refine .inl ?_
        have := opn_is c b (word (SM.sum (packHead k b))) [] hc9 hn (word_len _)
        rw [List.append_nil, if_neg hws] at this
        exact this
      · refine .inr ⟨rfl, ?_⟩
        have : packHead c b ++ word (SM.sum (packHead k b)) = c :: (enc b.length ++ b ++ word (SM.sum (packHead k b))) := by simp [packHead]
        rw [this, opn, beg, if_pos (by omega)]
    · have e1 : (packHead k b).set i c = packHead k (b.set (i - (1 + (enc b.length).length)) c) := by
        simp only [packHead, List.length_set]
        rw [List.set_append, if_neg (by simp; omega)]
        simp [Nat.add_comm]
      rw [e1] at hws ⊢
      refine .inl ?_
      have := opn_is k (b.set (i - (1 + (enc b.length).length)) c) (word (SM.sum (packHead k b))) [] h9 (by simpa using hn) (word_len _)
      rw [List.append_nil, if_neg hws] at this
      exact this
  · rw [if_neg hh]
    refine .inl ?_
    have h4 : i - (packHead k b).length < 4 := by omega
    have := opn_is k b ((word (SM.sum (packHead k b))).set (i - (packHead k b).length) c) [] h9 hn (by rw [List.length_set, word_len])
    rw [List.append_nil] at this
    rw [this, if_neg]
    intro e
    apply hne
    have h5 := congrArg (fun l => l.getD (i - (packHead k b).length) 0) e
    simp only [List.getD, List.getElem?_set_self (show i - (packHead k b).length < (word (SM.sum (packHead k b))).length by rw [word_len]; exact h4), Option.getD_some] at h5
    rw [packL, List.getD, List.getElem?_append_right (by omega)]
    exact h5.symm
theorem dec_cut {n : Int} {k : Nat} (h0 : 0 ≤ n) (h1 : n ≤ 18446744073709551615) (hk : k < (enc n).length) : dec ((enc n).take k) = none := by
  match hd : dec ((enc n).take k) with
  | none => rfl
  | some (m, j) =>
    obtain ⟨j1, j2, j3, j4, j5⟩ := dec_some (fun z hz => enc_bytes n z (List.mem_of_mem_take hz)) hd
    rw [List.length_take] at j2
    rw [List.take_take, Nat.min_eq_left (by omega)] at j3
    have e1 := dec_enc n [] h0 h1
    have e2 := dec_enc m ((enc n).drop j) j4 j5
    rw [j3, List.take_append_drop] at e2
    rw [List.append_nil, e2] at e1
    simp only [Option.some.injEq, Prod.mk.injEq, List.length_take] at e1
    omega
/-- A beginning. -/
theorem opn_cut {k : Int} {b : List Int} {i : Nat} (h9 : k ≤ 9) (hn : b.length ≤ 100000) (hi : i < (packL k b).length) : opn ((packL k b).take i) = .form := by
  have hpl := pack_len k b
  have e0 : packL k b = k :: (enc b.length ++ (b ++ word (SM.sum (packHead k b)))) := by simp [packL, packHead]
  match i, hi with
  | 0, _ => rw [List.take_zero]; rfl
  | i + 1, hi =>
    have hl : ((packL k b).take (i + 1)).length = i + 1 := by rw [List.length_take]; omega
    rw [e0, List.take_succ_cons, List.take_append] at hl ⊢
    by_cases he : i < (enc b.length).length
    · rw [show i - (enc b.length).length = 0 by omega, List.take_zero, List.append_nil, opn, beg, if_neg (by omega), dec_cut (by omega) (by omega) he]
    · rw [List.take_of_length_le (show (enc b.length).length ≤ i by omega)] at hl ⊢
      rw [opn, beg_head _ h9 hn]
      simp only []
      rw [if_pos (by rw [hl]; omega)]
end Go.Proofs.Ytomlckefkamdgaa
