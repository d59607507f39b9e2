/-
  What section.begin answers: how many bytes a section has ahead of its own ones, and how many these are; for every slice that reads as bytes.
-/
import Derived.Test.YtomlckefkamdgaaSecSum
import Derived.Test.YtomlckefkamdgaaWGet
namespace Go.Proofs.Ytomlckefkamdgaa
open Go.RowKit WM
set_option linter.unusedVariables false

/-- How many bytes stand ahead, and how many these are to be. -/
def beg : List Int → Option (Nat × Nat)
  | [] => none
  | k :: t => if 9 < k then none else match dec t with
    | none => none
    | some (n, u) => if 100000 < n then none else some (1 + u, n.toNat)
def begV : Option (Nat × Nat) → Value
  | none => .tuple #[.int .i64 0, .int .i64 0, .bool false]
  | some (h, n) => .tuple #[.int .i64 h, .int .i64 n, .bool true]
theorem begin_empty (A : Option Addr) (cap : Nat) (w : World) : Calls Try.prog 30 #[.slice A 0 cap] w fun e w' => e = .returned (begV none) ∧ w = w' := by
  unfold begV
  go_enter Try.func30, Try.ntmps30
  go_wp2
  go_ret3
  exact ⟨rfl, rfl⟩
theorem begin_kind (b off len cap : Nat) (k : Int) (w : World) (hc : w.cell? ⟨b, off, none⟩ = some (.int .u8 k)) (hk : 9 < k) (hk' : k ≤ 255) (hl : 0 < len) (hm : len ≤ maxLen) : Calls Try.prog 30 #[.slice (some ⟨b, off, none⟩) len cap] w fun e w' => e = .returned (begV none) ∧ w = w' := by
  unfold begV
  unfold maxLen at hm
  have h0 : ((len : Int) == 0) = false := by simp; omega
  go_enter Try.func30, Try.ntmps30
  go_wp2
  go_ret3
  exact ⟨rfl, rfl⟩
/-- Behind its first byte. -/
def restA (A : Option Addr) (k cap : Nat) : Option Addr := if cap = k then A else A.map (·.add k)
theorem begin_get (b off len cap : Nat) (k : Int) (w : World) (r : Option (Int × Nat)) (hc : w.cell? ⟨b, off, none⟩ = some (.int .u8 k)) (hk0 : 0 ≤ k) (hk : k ≤ 9) (hl : 0 < len) (hlc : len ≤ cap) (hm : cap ≤ maxLen)
    (hr : ∀ n u, r = some (n, u) → 0 ≤ n ∧ n ≤ 18446744073709551615 ∧ u + 1 ≤ len)
    (hg : Calls Try.prog 35 #[.slice (restA (some ⟨b, off, none⟩) 1 cap) (len - 1) (cap - 1)] w fun e w' => e = .returned (getV r) ∧ w = w') :
    Calls Try.prog 30 #[.slice (some ⟨b, off, none⟩) len cap] w fun e w' => e = .returned (begV (r.bind fun p => if 100000 < p.1 then none else some (1 + p.2, p.1.toNat))) ∧ w = w' := by
  unfold maxLen at hm
  have h0 : ((len : Int) == 0) = false := by simp; omega
  have HG := Lib.hid hg
  have HR := Lib.hid hr
  clear hg hr
  unfold restA at HG
  by_cases hc1 : cap = 1
  · obtain rfl : len = 1 := by omega
    subst hc1
    rw [if_pos rfl] at HG
    cases r with
    | none =>
      simp only [getV, Option.bind_none, begV] at HG ⊢
      go_enter Try.func30, Try.ntmps30
      go_wp2_with (go_at_call 35; refine HG.out.mono ?_; rintro e w1 ⟨rfl, rfl⟩)
      go_ret3
      exact ⟨rfl, rfl⟩
    | some p =>
      obtain ⟨n, u⟩ := p
      obtain ⟨r0, r1, r2⟩ := HR.out n u rfl
      clear HR
      by_cases hn : 100000 < n
      · simp only [getV, Option.bind_some, if_pos hn, begV] at HG ⊢
        go_enter Try.func30, Try.ntmps30
        go_wp2_with (go_at_call 35; refine HG.out.mono ?_; rintro e w1 ⟨rfl, rfl⟩)
        go_ret3
        exact ⟨rfl, rfl⟩
      · obtain ⟨N, rfl⟩ : ∃ N : Nat, n = N := ⟨n.toNat, by omega⟩
        simp only [getV, Option.bind_some, if_neg hn, begV, Int.toNat_natCast] at HG ⊢
        go_enter Try.func30, Try.ntmps30
        go_wp2_with (go_at_call 35; refine HG.out.mono ?_; rintro e w1 ⟨rfl, rfl⟩)
        go_ret3
        exact ⟨ret3 (by go_num) rfl rfl, rfl⟩
  · rw [if_neg hc1] at HG
    simp only [Option.map_some, Addr.add_lit] at HG
    cases r with
    | none =>
      simp only [getV, Option.bind_none, begV] at HG ⊢
      go_enter Try.func30, Try.ntmps30
      go_wp2_with (go_at_call 35; refine HG.out.mono ?_; rintro e w1 ⟨rfl, rfl⟩)
      go_ret3
      exact ⟨rfl, rfl⟩
    | some p =>
      obtain ⟨n, u⟩ := p
      obtain ⟨r0, r1, r2⟩ := HR.out n u rfl
      clear HR
      by_cases hn : 100000 < n
      · simp only [getV, Option.bind_some, if_pos hn, begV] at HG ⊢
        go_enter Try.func30, Try.ntmps30
        go_wp2_with (go_at_call 35; refine HG.out.mono ?_; rintro e w1 ⟨rfl, rfl⟩)
        go_ret3
        exact ⟨rfl, rfl⟩
      · obtain ⟨N, rfl⟩ : ∃ N : Nat, n = N := ⟨n.toNat, by omega⟩
        simp only [getV, Option.bind_some, if_neg hn, begV, Int.toNat_natCast] at HG ⊢
        go_enter Try.func30, Try.ntmps30
        go_wp2_with (go_at_call 35; refine HG.out.mono ?_; rintro e w1 ⟨rfl, rfl⟩)
        go_ret3
        exact ⟨ret3 (by go_num) rfl rfl, rfl⟩
theorem begin_any {B : Nat} (A : Option Addr) (len cap : Nat) (zs : List Int) (w : World) (h : Byt w B A zs) (hl : zs.length = len) (hb : AllBytes zs) (hlc : len ≤ cap) (hm : cap ≤ maxLen) :
    Calls Try.prog 30 #[.slice A len cap] w fun e w' => e = .returned (begV (beg zs)) ∧ w = w' := by
  match zs, hl, hb, h with
  | [], hl, _, _ => obtain rfl : 0 = len := hl; exact begin_empty A cap w
  | k :: t, hl, hb, h =>
    have hk := hb k (by simp)
    obtain ⟨b, off, rfl, hbB, hc⟩ := h (by simp)
    have hc0 : w.cell? ⟨b, off, none⟩ = some (.int .u8 k) := hc 0 (by simp)
    simp only [List.length_cons] at hl
    by_cases h9 : 9 < k
    · rw [beg, if_pos h9]
      exact begin_kind b off len cap k w hc0 h9 hk.2 (by omega) (by omega)
    · rw [beg, if_neg h9]
      have hbt : AllBytes t := fun z hz => hb z (by simp [hz])
      have hg := get_any (restA (some ⟨b, off, none⟩) 1 cap) (len - 1) (cap - 1) t w (by have := h.drop (k := 1) (cap := cap) (by simp; omega); simpa [restA] using this) (by omega) hbt (by omega)
      have := begin_get b off len cap k w (dec t) hc0 hk.1 (by omega) (by omega) hlc hm (fun n u e => by
        obtain ⟨_, k2, _, k4, k5⟩ := dec_some hbt e
        exact ⟨k4, k5, by omega⟩) hg
      match hd : dec t with
      | none => rw [hd] at this; exact this
      | some (n, u) => rw [hd] at this; exact this
end Go.Proofs.Ytomlckefkamdgaa
