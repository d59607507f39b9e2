/-
  What wire.Get answers.
-/
import Derived.Test.YtonbhcbkelmhgaaDoorBase
namespace Go.Proofs.YtonbhcbkelmhgaaDoor
open Go.RowKit WM
set_option linter.unusedVariables false

/-! ### Get -/
def getV : Option (Int × Nat) → Value
  | none => .tuple #[.int .u64 0, .int .i64 0, .bool false]
  | some (n, k) => .tuple #[.int .u64 n, .int .i64 k, .bool true]
/-- What Get has still to tell behind k rounds. -/
def GetAt (zs : List Int) (k : Nat) (acc : Int) : Prop := dec zs = (decR (10 - k) (k == 0) acc (zs.drop k)).map fun p => (p.1, p.2 + k)
theorem getAt_end {zs : List Int} {k : Nat} {acc : Int} (h : GetAt zs k acc) (hk : k = 10 ∨ k = zs.length) : dec zs = none := by
  rw [h]
  rcases hk with rfl | rfl
  · simp [decR]
  · rw [List.drop_length]
    cases 10 - zs.length <;> simp [decR]
theorem getAt_open {zs : List Int} {k : Nat} {acc : Int} (h : GetAt zs k acc) (h10 : k < 10) (hk : k < zs.length) :
    dec zs = (if (k == 0 && zs.getD k 0 == 128) = true then none else if 144115188075855871 < acc then none else
      if zs.getD k 0 < 128 then some (acc * 128 + zs.getD k 0 % 128, 1) else (decR (10 - (k + 1)) false (acc * 128 + zs.getD k 0 % 128) (zs.drop (k + 1))).map fun p => (p.1, p.2 + 1)).map fun p => (p.1, p.2 + k) := by
  rw [h, drop_at hk, show 10 - k = (10 - (k + 1)) + 1 by omega, decR]
theorem getAt_next {zs : List Int} {k : Nat} {acc : Int} (h : GetAt zs k acc) (h10 : k < 10) (hk : k < zs.length) (hf : ¬ (k = 0 ∧ zs.getD k 0 = 128)) (ha : acc ≤ 144115188075855871) (hz : 128 ≤ zs.getD k 0) :
    GetAt zs (k + 1) (acc * 128 + zs.getD k 0 % 128) := by
  have := getAt_open h h10 hk
  rw [if_neg (by simpa using hf), if_neg (by omega), if_neg (by omega)] at this
  unfold GetAt
  rw [this, Option.map_map]
  simp only [show (k + 1 == 0) = false by simp]
  congr 1
  funext p
  simp
  omega
theorem getAt_done {zs : List Int} {k : Nat} {acc : Int} (h : GetAt zs k acc) (h10 : k < 10) (hk : k < zs.length) (hf : ¬ (k = 0 ∧ zs.getD k 0 = 128)) (ha : acc ≤ 144115188075855871) (hz : zs.getD k 0 < 128) :
    dec zs = some (acc * 128 + zs.getD k 0 % 128, k + 1) := by
  have := getAt_open h h10 hk
  rw [if_neg (by simpa using hf), if_neg (by omega), if_pos hz] at this
  rw [this]
  simp
  omega
theorem getAt_none {zs : List Int} {k : Nat} {acc : Int} (h : GetAt zs k acc) (h10 : k < 10) (hk : k < zs.length) (hf : (k = 0 ∧ zs.getD k 0 = 128) ∨ 144115188075855871 < acc) : dec zs = none := by
  have := getAt_open h h10 hk
  rw [this]
  by_cases h1 : (k == 0 && zs.getD k 0 == 128) = true
  · rw [if_pos h1]; rfl
  · rw [if_neg h1, if_pos]
    · rfl
    · rcases hf with hf | hf
      · simp at h1; exact absurd hf.2 (by simpa using h1 hf.1)
      · exact hf
theorem get_val {acc z : Int} (h0 : 0 ≤ acc) (h1 : acc ≤ 144115188075855871) (hz : 0 ≤ z ∧ z ≤ 255) : bits BinOp.or IntKind.u64 (acc * 128) (IntKind.u64.wrap (bits BinOp.andNot IntKind.u8 z 128)) = acc * 128 + z % 128 := by
  rw [low_seven z hz.1 hz.2, IntWalk.u64_in _ (by omega), or_seven acc (z % 128) h0 h1 (by omega) (by omega)]
set_option maxHeartbeats 1000000 in
theorem get_any {B : Nat} (A : Option Addr) (len cap : Nat) (zs : List Int) (w : World) (h : Byt w B A zs) (hl : zs.length = len) (hb : AllBytes zs) (hm : len ≤ maxLen) :
    Calls Tryd.prog 62 #[.slice A len cap] w fun e w' => e = .returned (getV (dec zs)) ∧ w = w' := by
  unfold maxLen at hm
  have hr : ∀ j, 0 ≤ zs.getD j 0 ∧ zs.getD j 0 ≤ 255 := fun j => by
    rcases Nat.lt_or_ge j zs.length with h1 | h1
    · have := hb _ (List.getElem_mem h1)
      simpa [List.getD, List.getElem?_eq_getElem h1] using this
    · simp [List.getD, List.getElem?_eq_none h1]
  have HL := Lib.hid hl
  have HR := Lib.hid hr
  have HB := Lib.hid h
  have HS := Lib.hid (rfl : getV none = getV none)
  clear hl hr hb h
  go_enter Tryd.func62, Tryd.ntmps62
  go_wp2
  go_step3
  go_wp2
  go_step3
  go_wp2
  go_loop [5, 7] (fun n i => ∃ (k : Nat) (acc : Int), k ≤ 10 ∧ k ≤ len ∧ i = .int .i64 k ∧ n = .int .u64 acc ∧ 0 ≤ acc ∧ acc ≤ 18446744073709551615 ∧ GetAt zs k acc) (fun _ i => 10 - (intOf i).toNat)
  case atStart => exact ⟨0, 0, by omega, by omega, rfl, rfl, by omega, by omega, by unfold GetAt; simp; rfl⟩
  case round =>
    obtain ⟨k, acc, hk, hkl, rfl, rfl, ha0, ha1, hg⟩ := hrel
    by_cases hk9 : k < 10
    · by_cases hlt : k < len
      · have hlt' : k < zs.length := by rw [HL.out]; exact hlt
        obtain ⟨b, off, rfl, _, hcell⟩ := HB.out (fun e => by rw [e] at hlt'; simp at hlt')
        have hc := hcell k hlt'
        have hz := HR.out k
        by_cases hf : k = 0 ∧ zs.getD k 0 = 128
        · have hd := Lib.hid (getAt_none hg hk9 hlt' (.inl hf))
          obtain ⟨rfl, hf⟩ := hf
          rw [hf, Nat.add_zero] at hc
          clear hcell hg hlt' hf hz
          go_wp2
          go_ret3
          exact ⟨by rw [hd.out]; rfl, rfl⟩
        · have hne : k = 0 → (zs.getD k 0 == 128) = false := fun e => by simp; intro h; exact hf ⟨e, by simpa using h⟩
          by_cases hac : acc ≤ 144115188075855871
          · generalize hzz : zs.getD k 0 = z at *
            by_cases h128 : z < 128
            · have hd := Lib.hid (by have := getAt_done hg hk9 hlt' (by rw [hzz]; exact hf) hac (by rw [hzz]; exact h128); rwa [hzz] at this : dec zs = some (acc * 128 + z % 128, k + 1))
              have HZ := Lib.hid hzz
              clear hcell hg hlt' hf hzz
              by_cases hk0 : k = 0
              · subst hk0
                have hne' := hne rfl
                rw [Nat.add_zero] at hc
                clear hne
                go_wp2
                go_ret3
                refine ⟨?_, rfl⟩
                rw [hd.out]
                exact ret3 (congrArg _ (get_val ha0 hac hz)) rfl rfl
              · clear hne
                go_wp2
                go_ret3
                refine ⟨?_, rfl⟩
                rw [hd.out]
                exact ret3 (congrArg _ (get_val ha0 hac hz)) rfl rfl
            · have hd := Lib.hid (by have := getAt_next hg hk9 hlt' (by rw [hzz]; exact hf) hac (by rw [hzz]; omega); rwa [hzz] at this : GetAt zs (k + 1) (acc * 128 + z % 128))
              have HZ := Lib.hid hzz
              clear hcell hg hlt' hf hzz
              by_cases hk0 : k = 0
              · subst hk0
                have hne' := hne rfl
                rw [Nat.add_zero] at hc
                clear hne
                go_wp2
                go_round
                case rel => exact ⟨0 + 1, _, by omega, by omega, rfl, congrArg _ (get_val ha0 hac hz), by omega, by omega, hd.out⟩
                case measure => simp [intOf]
              · clear hne
                go_wp2
                go_round
                case rel => exact ⟨k + 1, _, by omega, by omega, by go_num, congrArg _ (get_val ha0 hac hz), by omega, by omega, hd.out⟩
                case measure => simp [intOf]; omega
          · have hd := Lib.hid (getAt_none hg hk9 hlt' (.inr (by omega)))
            have hac' : 144115188075855871 < acc := by omega
            generalize zs.getD k 0 = z at *
            clear hcell hg hlt' hf hac
            by_cases hk0 : k = 0
            · subst hk0
              have hne' := hne rfl
              rw [Nat.add_zero] at hc
              clear hne
              go_wp2
              go_ret3
              exact ⟨by rw [hd.out]; rfl, rfl⟩
            · clear hne
              go_wp2
              go_ret3
              exact ⟨by rw [hd.out]; rfl, rfl⟩
      · obtain rfl : k = len := by omega
        have hd := Lib.hid (getAt_end hg (.inr HL.out.symm))
        clear hg
        go_wp2
        go_ret3
        exact ⟨by rw [hd.out]; rfl, rfl⟩
    · have hd := Lib.hid (getAt_end hg (.inl (by omega)))
      clear hg
      go_wp2
      go_ret3
      exact ⟨by rw [hd.out]; rfl, rfl⟩

theorem get_own {w : World} {base : Nat} {v : Value} {n : Nat} {zs : List Int} (ho : w.ownsRow base 5 1 v n (zs.map (Value.int .u8))) (hb : AllBytes zs) {x : Option (Int × Nat)} (hx : dec zs = x) : ∃ A c, v = .slice A n c ∧ n ≤ c ∧ c ≤ maxLen ∧
    Hid (Calls Tryd.prog 62 #[.slice A n c] w fun e w' => e = .returned (getV x) ∧ w = w') := by
  subst hx
  have hn : zs.length = n := by simpa using ho.1
  rcases ho.2 with ⟨rfl, rfl⟩ | ⟨g, cap, cur, rfl, _, _, h1, h2, _⟩
  · exact ⟨_, _, rfl, by omega, by decide, Lib.hid (get_any _ 0 0 zs w (Byt.own ho) hn hb (by decide))⟩
  · exact ⟨_, _, rfl, h1, h2, Lib.hid (get_any _ n cap zs w (Byt.own ho) hn hb (by omega))⟩
theorem get_own_yes {w : World} {base : Nat} {v : Value} {n : Nat} {zs : List Int} (ho : w.ownsRow base 5 1 v n (zs.map (Value.int .u8))) (hb : AllBytes zs) {y : Int} {u : Nat} (hx : dec zs = some (y, u)) : ∃ A c, v = .slice A n c ∧ n ≤ c ∧ c ≤ maxLen ∧
    Hid (Calls Tryd.prog 62 #[.slice A n c] w fun e w' => e = .returned (.tuple #[.int .u64 y, .int .i64 u, .bool true]) ∧ w = w') := get_own ho hb hx
end Go.Proofs.YtonbhcbkelmhgaaDoor
