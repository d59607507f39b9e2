/-
  What the document's own Read answers.
-/
import Derived.Test.YtonbhcbkelmhgaaDoorRGet
import Derived.Test.YtonbhcbkelmhgaaDoorWRead
namespace Go.Proofs.YtonbhcbkelmhgaaDoor
open Go.RowKit WM
set_option linter.unusedVariables false

/-! ### Read -/
theorem rread_none {B : Nat} (A : Option Addr) (len cap : Nat) (zs : List Int) (most : Int) (w : World) (h : Byt w B A zs) (hl : zs.length = len) (hb : AllBytes zs) (hlc : len ≤ cap) (hm : cap ≤ maxLen) (hB : B ≤ w.heap.size) (m0 : -9223372036854775808 ≤ most) (m1 : most ≤ 9223372036854775807) (hd : rd zs most = none) :
    Calls Tryd.prog 46 #[.slice A len cap, .int .i64 most] w fun e w' => e = .returned (.tuple #[.string ⟨#[]⟩, .int .i64 0, .bool false]) ∧ Below w.heap.size w w' := by
  have hg := rget_any A len cap zs w h hl hb hlc hm hB
  simp only [maxLen] at hm
  unfold rd at hd
  obtain ⟨D, hD⟩ : ∃ D, dec zs = D := ⟨_, rfl⟩
  rw [hD] at hg hd
  cases D with
  | none =>
    simp only [getV] at hg
    have HG := Lib.hid hg
    clear hg hd hl hb h hD
    go_enter Tryd.func46, Tryd.ntmps46
    go_wp2_with (go_at_call 63; refine HG.out.mono ?_; rintro e w1 ⟨rfl, hb1⟩)
    go_ret3
    exact ⟨rfl, hb1⟩
  | some nk =>
    obtain ⟨n, k⟩ := nk
    obtain ⟨k1, k2, _, k4, k5⟩ := dec_some hb hD
    rw [hl] at k2
    simp only [getV] at hg
    have HG := Lib.hid hg
    have hcase : most < 0 ∨ (0 ≤ most ∧ most < n) ∨ (0 ≤ most ∧ n ≤ most ∧ (len : Int) - k < n) := by
      by_cases h1 : (zs.length : Int) - k < n
      · omega
      · simp only [if_neg h1] at hd
        by_cases h2 : most < n
        · omega
        · simp only [if_neg h2] at hd; cases hd
    clear hg hd hl hb h hD
    rcases hcase with c | ⟨c, c'⟩ | ⟨c, c', c''⟩
    · go_enter Tryd.func46, Tryd.ntmps46
      go_wp2_with (go_at_call 63; refine HG.out.mono ?_; rintro e w1 ⟨rfl, hb1⟩)
      go_ret3
      exact ⟨rfl, hb1⟩
    · go_enter Tryd.func46, Tryd.ntmps46
      go_wp2_with (go_at_call 63; refine HG.out.mono ?_; rintro e w1 ⟨rfl, hb1⟩)
      go_ret3
      exact ⟨rfl, hb1⟩
    · go_enter Tryd.func46, Tryd.ntmps46
      go_wp2_with (go_at_call 63; refine HG.out.mono ?_; rintro e w1 ⟨rfl, hb1⟩)
      go_ret3
      exact ⟨rfl, hb1⟩
theorem rread_yes {B : Nat} (A : Option Addr) (len cap : Nat) (zs : List Int) (most : Int) (w : World) (n : Nat) (k : Nat) (h : Byt w B A zs) (hl : zs.length = len) (hb : AllBytes zs) (hlc : len ≤ cap) (hm : cap ≤ maxLen) (hB : B ≤ w.heap.size) (m1 : most ≤ 9223372036854775807) (hd : dec zs = some ((n : Int), k)) (hn : k + n ≤ len) (hmo : (n : Int) ≤ most) :
    Calls Tryd.prog 46 #[.slice A len cap, .int .i64 most] w fun e w' => e = .returned (.tuple #[.string (strOfNums ((zs.drop k).take n)), .int .i64 (k + n : Nat), .bool true]) ∧ Below w.heap.size w w' := by
  have hg := rget_any A len cap zs w h hl hb hlc hm hB
  rw [hd] at hg
  simp only [getV] at hg
  have HG := Lib.hid hg
  have hk := dec_some hb hd
  obtain ⟨k1, k2, _, k4, k5⟩ := hk
  rw [hl] at k2
  obtain ⟨F, cv, hF⟩ := cvt_ex
  have ht : ∀ w' : World, Below w.heap.size w w' → F (.slice (if cap = k then A else A.map (·.add k)) n (cap - k)) w' = .ok (.string (strOfNums ((zs.drop k).take n))) w' := fun w' hbw =>
    hF _ _ _ _ ((((h.below (hbw.mono hB)).drop (k := k) (cap := cap) (by omega))).take n) n (cap - k) (by rw [List.length_take, List.length_drop]; omega)
  generalize (zs.drop k).take n = S at ht ⊢
  clear hg hd hb h hl hF
  simp only [maxLen] at hm
  by_cases hck : cap = k
  · simp only [if_pos hck] at ht
    have HT := Lib.hid ht
    subst hck
    clear ht
    simp only [Nat.sub_self] at HT
    go_enter Tryd.func46, Tryd.ntmps46
    go_wp2_with (go_at_call 63; refine HG.out.mono ?_; rintro e w1 ⟨rfl, hb1⟩; have t1 := HT.out w1 hb1)
    go_ret3
    exact ⟨ret3 rfl (by go_num) rfl, hb1⟩
  · simp only [if_neg hck] at ht
    have HT := Lib.hid ht
    clear ht
    go_enter Tryd.func46, Tryd.ntmps46
    go_wp2_with (go_at_call 63; refine HG.out.mono ?_; rintro e w1 ⟨rfl, hb1⟩; have t1 := HT.out w1 hb1)
    go_ret3
    exact ⟨ret3 rfl (by go_num) rfl, hb1⟩
theorem rread_any {B : Nat} (A : Option Addr) (len cap : Nat) (zs : List Int) (most : Int) (w : World) (h : Byt w B A zs) (hl : zs.length = len) (hb : AllBytes zs) (hlc : len ≤ cap) (hm : cap ≤ maxLen) (hB : B ≤ w.heap.size) (m0 : -9223372036854775808 ≤ most) (m1 : most ≤ 9223372036854775807) :
    Calls Tryd.prog 46 #[.slice A len cap, .int .i64 most] w fun e w' => e = .returned (readV (rd zs most)) ∧ Below w.heap.size w w' := by
  obtain ⟨D, hD⟩ : ∃ D, rd zs most = D := ⟨_, rfl⟩
  cases D with
  | none => rw [hD]; exact rread_none A len cap zs most w h hl hb hlc hm hB m0 m1 hD
  | some tk =>
    rw [hD]
    unfold rd at hD
    obtain ⟨E, hE⟩ : ∃ E, dec zs = E := ⟨_, rfl⟩
    rw [hE] at hD
    cases E with
    | none => cases hD
    | some nk =>
      obtain ⟨n, k⟩ := nk
      obtain ⟨k1, k2, _, k4, k5⟩ := dec_some hb hE
      by_cases h1 : (zs.length : Int) - k < n
      · simp only [if_pos h1] at hD; cases hD
      · simp only [if_neg h1] at hD
        by_cases h2 : most < n
        · simp only [if_pos h2] at hD; cases hD
        · simp only [if_neg h2, Option.some.injEq] at hD
          subst hD
          obtain ⟨n, rfl⟩ : ∃ m : Nat, n = m := ⟨n.toNat, by omega⟩
          exact rread_yes A len cap zs most w n k h hl hb hlc hm hB m1 hE (by omega) (by omega)

end Go.Proofs.YtonbhcbkelmhgaaDoor
