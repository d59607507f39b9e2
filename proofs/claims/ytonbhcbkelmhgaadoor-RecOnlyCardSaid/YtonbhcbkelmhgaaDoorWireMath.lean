/-
  Plain facts on numbers written by groups of seven bits, the greatest group first: what is written is read back, and what is read is written as the same bytes. No condition but the ranges named in each fact. Nothing of any program is imported.
-/
namespace Go.Proofs.YtonbhcbkelmhgaaDoor
namespace WM

/-- The groups of m, all with 128 more; at most f of them; none for nought. -/
def encH : Nat → Int → List Int
  | 0, _ => []
  | f + 1, m => if m = 0 then [] else encH f (m / 128) ++ [m % 128 + 128]

/-- A number's bytes. -/
def enc (n : Int) : List Int := encH 9 (n / 128) ++ [n % 128]

/-- Reading: r rounds are left, 'first': none is done, acc: what was read. -/
def decR : Nat → Bool → Int → List Int → Option (Int × Nat)
  | 0, _, _, _ => none
  | _ + 1, _, _, [] => none
  | r + 1, first, acc, b :: t =>
    if (first && b == 128) = true then none else if 144115188075855871 < acc then none else
    if b < 128 then some (acc * 128 + b % 128, 1) else (decR r false (acc * 128 + b % 128) t).map fun p => (p.1, p.2 + 1)

def dec (zs : List Int) : Option (Int × Nat) := decR 10 true 0 zs

def AllBytes (zs : List Int) : Prop := ∀ z ∈ zs, 0 ≤ z ∧ z ≤ 255

theorem encH_zero (f : Nat) : encH f 0 = [] := by cases f <;> simp [encH]
theorem encH_len : ∀ (f : Nat) (m : Int), (encH f m).length ≤ f
  | 0, m => by simp [encH]
  | f + 1, m => by
    unfold encH
    have := encH_len f (m / 128)
    split <;> simp <;> omega
theorem encH_bytes : ∀ (f : Nat) (m : Int), ∀ z ∈ encH f m, 128 ≤ z ∧ z ≤ 255
  | 0, m => by simp [encH]
  | f + 1, m => by
    intro z hz
    unfold encH at hz
    split at hz
    · simp at hz
    · rcases List.mem_append.1 hz with h | h
      · exact encH_bytes f _ z h
      · simp at h; omega
theorem enc_bytes (n : Int) : AllBytes (enc n) := by
  intro z hz
  rcases List.mem_append.1 hz with h | h
  · have := encH_bytes 9 _ z h; omega
  · simp at h; omega
theorem enc_len (n : Int) : 1 ≤ (enc n).length ∧ (enc n).length ≤ 10 := by
  have := encH_len 9 (n / 128)
  unfold enc; simp; omega
theorem pow_pos' (j : Nat) : 0 < (128 : Int) ^ j := Int.pow_pos (by omega)

/-- More room changes nothing. -/
theorem encH_more : ∀ (f g : Nat) (m : Int), 0 ≤ m → m < 128 ^ f → f ≤ g → encH g m = encH f m
  | 0, g, m, h0, h, _ => by
    have : m = 0 := by simp at h; omega
    subst this; simp [encH_zero]
  | f + 1, 0, m, _, _, h => by omega
  | f + 1, g + 1, m, h0, h, hg => by
    unfold encH
    split
    · rfl
    · rw [encH_more f g (m / 128) (by omega) (by rw [Int.pow_succ] at h; omega) (by omega)]

theorem decR_encH : ∀ (f : Nat) (m : Int) (r : Nat) (first : Bool) (t : List Int), 0 ≤ m → m < 128 ^ f → m ≤ 18446744073709551615 →
    decR (r + (encH f m).length) first 0 (encH f m ++ t) = (decR r (first && m == 0) m t).map fun p => (p.1, p.2 + (encH f m).length)
  | 0, m, r, first, t, h0, h, _ => by
    have : m = 0 := by simp at h; omega
    subst this; simp [encH]
  | f + 1, m, r, first, t, h0, h, hm => by
    by_cases hz : m = 0
    · subst hz; simp [encH]
    · have hs : encH (f + 1) m = encH f (m / 128) ++ [m % 128 + 128] := by rw [encH, if_neg hz]
      rw [hs]
      have ih := decR_encH f (m / 128) (r + 1) first ((m % 128 + 128) :: t) (by omega) (by rw [Int.pow_succ] at h; omega) (by omega)
      rw [List.length_append, List.append_assoc, show r + ((encH f (m / 128)).length + [m % 128 + 128].length) = r + 1 + (encH f (m / 128)).length by simp; omega, List.singleton_append, ih]
      have e1 : (first && m / 128 == 0 && m % 128 + 128 == 128) = false := by
        cases first
        · rfl
        · simp; omega
      have e2 : ¬ (144115188075855871 < m / 128) := by omega
      have e3 : ¬ (m % 128 + 128 < 128) := by omega
      have e4 : m / 128 * 128 + (m % 128 + 128) % 128 = m := by omega
      have e5 : (m == 0) = false := by simp [hz]
      conv => lhs; rw [decR]
      rw [if_neg (by simp [e1]), if_neg e2, if_neg e3, e4, e5]
      simp only [Bool.and_false, Option.map_map]
      congr 1
      funext p
      simp
      omega

/-- What is written is read, whatever stands behind. -/
theorem dec_enc (n : Int) (t : List Int) (h0 : 0 ≤ n) (h : n ≤ 18446744073709551615) : dec (enc n ++ t) = some (n, (enc n).length) := by
  have hl := encH_len 9 (n / 128)
  have k := decR_encH 9 (n / 128) (10 - (encH 9 (n / 128)).length) true ((n % 128) :: t) (by omega) (by omega) (by omega)
  unfold dec enc
  rw [List.append_assoc, List.singleton_append]
  rw [show 10 - (encH 9 (n / 128)).length + (encH 9 (n / 128)).length = 10 by omega] at k
  rw [k]
  obtain ⟨r, hr⟩ : ∃ r, 10 - (encH 9 (n / 128)).length = r + 1 := ⟨9 - (encH 9 (n / 128)).length, by omega⟩
  rw [hr, decR, if_neg (by simp; omega), if_neg (by omega), if_pos (by omega)]
  simp
  omega

theorem decR_some : ∀ (r : Nat) (first : Bool) (acc : Int) (t : List Int) (j : Nat) (n : Int) (k : Nat), j + r = 10 → 0 ≤ acc → acc < 128 ^ j → (first = false → acc ≠ 0) → (first = true → acc = 0) → AllBytes t →
    decR r first acc t = some (n, k) → 1 ≤ k ∧ k ≤ t.length ∧ enc n = encH j acc ++ t.take k ∧ 0 ≤ n ∧ n ≤ 18446744073709551615
  | 0, first, acc, t, j, n, k, _, _, _, _, _, _, h => by simp [decR] at h
  | r + 1, first, acc, [], j, n, k, _, _, _, _, _, _, h => by simp [decR] at h
  | r + 1, first, acc, b :: t, j, n, k, hj, h0, hlt, hf, hft, hb, h => by
    have hbb := hb b (by simp)
    rw [decR] at h
    split at h
    · cases h
    · rename_i hn1
      split at h
      · cases h
      · rename_i hn2
        split at h
        · rename_i hn3
          simp only [Option.some.injEq, Prod.mk.injEq] at h
          obtain ⟨rfl, rfl⟩ := h
          refine ⟨by omega, by simp, ?_, by omega, by omega⟩
          unfold enc
          rw [show (acc * 128 + b % 128) / 128 = acc by omega, show (acc * 128 + b % 128) % 128 = b by omega, encH_more j 9 acc h0 hlt (by omega)]
          simp
        · rename_i hn3
          rw [Option.map_eq_some_iff] at h
          obtain ⟨⟨n1, k1⟩, hd, he⟩ := h
          simp only [Prod.mk.injEq] at he
          obtain ⟨rfl, rfl⟩ := he
          have hne : acc * 128 + b % 128 ≠ 0 := by
            cases first
            · have := hf rfl; omega
            · have := hft rfl
              simp at hn1
              omega
          have ih := decR_some r false (acc * 128 + b % 128) t (j + 1) n1 k1 (by omega) (by omega) (by rw [Int.pow_succ]; omega) (fun _ => hne) (fun h => by cases h) (fun z hz => hb z (by simp [hz])) hd
          obtain ⟨i1, i2, i3, i4, i5⟩ := ih
          refine ⟨by omega, by simp; omega, ?_, i4, i5⟩
          rw [i3, encH, if_neg hne, show (acc * 128 + b % 128) / 128 = acc by omega, show (acc * 128 + b % 128) % 128 + 128 = b by omega]
          simp

/-- What is read is written as the same bytes. -/
theorem dec_some {zs : List Int} {n : Int} {k : Nat} (hb : AllBytes zs) (h : dec zs = some (n, k)) : 1 ≤ k ∧ k ≤ zs.length ∧ enc n = zs.take k ∧ 0 ≤ n ∧ n ≤ 18446744073709551615 := by
  have := decR_some 10 true 0 zs 0 n k rfl (by omega) (by simp) (fun h => by cases h) (fun _ => rfl) hb h
  simpa [encH] using this
end WM
end Go.Proofs.YtonbhcbkelmhgaaDoor
