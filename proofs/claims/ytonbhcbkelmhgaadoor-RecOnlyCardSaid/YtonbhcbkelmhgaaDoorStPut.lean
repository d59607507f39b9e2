/-
  What stamp.Put and stamp.Get answer. Nothing that was there is written.
-/
import Derived.Test.YtonbhcbkelmhgaaDoorStMay
import Derived.Test.YtonbhcbkelmhgaaDoorWPut
import Derived.Test.YtonbhcbkelmhgaaDoorWGet
namespace Go.Proofs.YtonbhcbkelmhgaaDoor
open Go.RowKit WM
set_option linter.unusedVariables false
theorem own_wide {w : World} {base base' size n : Nat} {e : TypeId} {v : Value} {xs : List Value} (h : w.ownsRow base' e size v n xs) (hb : base ≤ base') : w.ownsRow base e size v n xs := by
  refine ⟨h.1, ?_⟩
  rcases h.2 with h1 | ⟨g, cap, cur, h1, h2, h3⟩
  · exact .inl h1
  · exact .inr ⟨g, cap, cur, h1, by omega, h3⟩
theorem or_three (a y : Int) (h0 : 0 ≤ a) (h1 : a ≤ 1099511627776) (h2 : 0 ≤ y) (h3 : y < 8) : bits .or .u64 (a * 8) y = a * 8 + y := by
  rw [u64_or _ _ (by omega) (by omega) h2 (by omega)]
  have := Nat.two_pow_add_eq_or_of_lt (i := 3) (b := y.toNat) (by omega) a.toNat
  rw [show (a * 8).toNat = 2 ^ 3 * a.toNat by omega, ← this]
  omega
theorem and_seven (a : Int) (h0 : 0 ≤ a) (h1 : a ≤ 18446744073709551615) : bits .and .u64 a 7 = a % 8 := by
  rw [u64_and _ _ h0 (by omega) (by omega) (by omega)]
  have := Nat.and_two_pow_sub_one_eq_mod a.toNat 3
  simp only [show Int.toNat 7 = 2 ^ 3 - 1 by decide, this]
  omega
def StPutPost (w : World) (n r : Int) (e : Ending) (w' : World) : Prop :=
  if may n r then GivesT w (enc (n * 8 + r)) e w' else e = .returned (.tuple #[.slice none 0 0, .bool false]) ∧ Below w.heap.size w w'
set_option maxHeartbeats 1000000 in
theorem stPut_any (n r : Int) (w : World) : Calls Tryd.prog 39 #[st n r] w (StPutPost w n r) := by
  have HC := Lib.hid (may_any n r)
  have S0 := Lib.hid (StAt.new w n r)
  have HB := Lib.hid ((((Below.refl w.heap.size w).alloc (Nat.le_refl _) (.cells #[.int .i64 n, .int .i64 r] 23))))
  cases hm : may n r
  · have HP : Hid (∀ e w', e = .returned (.tuple #[.slice none 0 0, .bool false]) → Below w.heap.size w w' → StPutPost w n r e w') := Lib.hid (fun e w' h1 h2 => by unfold StPutPost; rw [hm]; exact ⟨h1, h2⟩)
    rw [hm] at HC
    unfold st at HC ⊢
    clear hm
    go_enter Tryd.func39, Tryd.ntmps39
    go_wp2_with fail
    refine (HC.out _).mono ?_
    rintro e w1 ⟨rfl, hb1⟩
    have bw := HB.out.trans (hb1.mono HB.out.size)
    clear hb1
    go_wp2
    go_ret2
    exact HP.out _ _ rfl bw
  · have HP : Hid (∀ e w', GivesT w (enc (n * 8 + r)) e w' → StPutPost w n r e w') := Lib.hid (fun e w' h1 => by unfold StPutPost; rw [hm]; exact h1)
    rw [hm] at HC
    have hmay := may_iff.1 hm
    have n0 : 0 ≤ n := by omega
    have n1 : n ≤ 1099511627776 := by omega
    have r0 : 0 ≤ r := by omega
    have r1 : r < 8 := by omega
    have hor := or_three n r n0 n1 r0 r1
    have HPut := Lib.hid (fun w => put_gives (n * 8 + r) w (by omega) (by omega))
    unfold st at HC ⊢
    clear hm hmay
    go_enter Tryd.func39, Tryd.ntmps39
    go_wp2_with fail
    refine (HC.out _).mono ?_
    rintro e w1 ⟨rfl, hb1⟩
    have s0 := S0.out.below hb1 S0.out.lt
    have bw := HB.out.trans (hb1.mono HB.out.size)
    have a0 := s0.c0
    have a1 := s0.c1
    clear s0 hb1
    go_wp2_with fail
    refine (HPut.out _).mono ?_
    rintro e w2 ⟨A, k, c, rfl, hk, hkc, hc, hown, hb2⟩
    have HG := Lib.hid (HP.out _ _ (givesT_own (own_wide hown bw.size) (bw.trans (hb2.mono bw.size))))
    clear hown hb2 hk hkc hc
    go_wp2
    go_ret2
    exact HG.out
/-! ### Get -/
def stGet (zs : List Int) : Option (Int × Int × Nat) :=
  match dec zs with
  | none => none
  | some (x, k) => if may (x / 8) (x % 8) then some (x / 8, x % 8, k) else none
def stGetV : Option (Int × Int × Nat) → Value
  | none => .tuple #[st 0 0, .int .i64 0, .bool false]
  | some (n, r, k) => .tuple #[st n r, .int .i64 k, .bool true]
set_option maxHeartbeats 1000000 in
theorem stGet_any {B : Nat} (A : Option Addr) (len cap : Nat) (zs : List Int) (w : World) (h : Byt w B A zs) (hB : B ≤ w.heap.size) (hl : zs.length = len) (hb : AllBytes zs) (hm : len ≤ maxLen) :
    Calls Tryd.prog 43 #[.slice A len cap] w fun e w' => e = .returned (stGetV (stGet zs)) ∧ Below w.heap.size w w' := by
  have HG := Lib.hid (get_any A len cap zs (w.alloc (.cells #[.int .i64 0, .int .i64 0] 23)) ((h.wide hB).below ((Below.refl _ _).alloc (Nat.le_refl _) _)) hl hb hm)
  have HD := Lib.hid (fun x k => dec_some (n := x) (k := k) hb)
  have S0 := Lib.hid (StAt.new w 0 0)
  have HB := Lib.hid ((((Below.refl w.heap.size w).alloc (Nat.le_refl _) (.cells #[.int .i64 0, .int .i64 0] 23))))
  have hgv : stGet zs = stGet zs := rfl
  conv at hgv => rhs; unfold stGet
  clear h hB hl hb hm
  cases hd : dec zs with
  | none =>
    rw [hd] at HG hgv
    have HV := Lib.hid hgv
    unfold getV at HG
    clear hd hgv
    go_enter Tryd.func43, Tryd.ntmps43
    go_wp2_with fail
    refine HG.out.mono ?_
    rintro e w1 ⟨rfl, rfl⟩
    go_wp2
    refine bodyPost_ret (v := stGetV none) ?_ rfl ⟨by rw [HV.out], ?_⟩
    · exact res_st3 Tryd.results43 rfl S0.out
    · exact HB.out
  | some p =>
    obtain ⟨x, k⟩ := p
    rw [hd] at HG hgv
    obtain ⟨d1, d2, d3, d4, d5⟩ := HD.out x k hd
    unfold getV at HG
    simp only at HG hgv
    have x1 : IntKind.i64.wrap (x / 8) = x / 8 := IntWalk.i64_in _ (by omega)
    have x2 : bits .and .u64 x 7 = x % 8 := and_seven x d4 d5
    have x3 : IntKind.i64.wrap (x % 8) = x % 8 := IntWalk.i64_in _ (by omega)
    have HM := Lib.hid (may_any (x / 8) (x % 8))
    clear hd d3 HD
    go_enter Tryd.func43, Tryd.ntmps43
    go_wp2_with fail
    refine HG.out.mono ?_
    rintro e w1 ⟨rfl, rfl⟩
    have T0 := Lib.hid (S0.out.old (.cells #[.int .i64 (x / 8), .int .i64 (x % 8)] 23))
    have t1 := StAt.new (w.alloc (.cells #[.int .i64 0, .int .i64 0] 23)) (x / 8) (x % 8)
    rw [World.size_alloc] at t1
    have T1 := Lib.hid t1
    have HB1 := Lib.hid (HB.out.alloc HB.out.size (.cells #[.int .i64 (x / 8), .int .i64 (x % 8)] 23))
    clear t1
    cases hm : may (x / 8) (x % 8)
    · rw [hm] at hgv HM
      have HV := Lib.hid (show stGet zs = none by rw [hgv]; rfl)
      unfold st at HM
      clear hgv hm
      go_wp2_with fail
      refine (HM.out _).mono ?_
      rintro e w2 ⟨rfl, hb2⟩
      have s0 := T0.out.below hb2 T0.out.lt
      have s1 := T1.out.below hb2 T1.out.lt
      have bw := HB1.out.trans (hb2.mono HB1.out.size)
      have a0 := s0.c0
      have a1 := s0.c1
      have b0 := s1.c0
      have b1 := s1.c1
      have f0 := s0.fz 0
      have f1 := s0.fz 1
      have S9 := Lib.hid (s0.put 0 0)
      have B9 := Lib.hid (below_put bw (Nat.le_refl w.heap.size) (.int .i64 0) (.int .i64 0))
      clear s0 s1 hb2 bw
      go_wp2
      refine bodyPost_ret (v := stGetV none) ?_ rfl ⟨by rw [HV.out], ?_⟩
      · exact res_st3 Tryd.results43 rfl S9.out
      · exact B9.out
    · rw [hm] at hgv HM
      have HV := Lib.hid (show stGet zs = some (x / 8, x % 8, k) by rw [hgv]; rfl)
      unfold st at HM
      clear hgv hm
      go_wp2_with fail
      refine (HM.out _).mono ?_
      rintro e w2 ⟨rfl, hb2⟩
      have s0 := T0.out.below hb2 T0.out.lt
      have s1 := T1.out.below hb2 T1.out.lt
      have bw := HB1.out.trans (hb2.mono HB1.out.size)
      have a0 := s0.c0
      have a1 := s0.c1
      have b0 := s1.c0
      have b1 := s1.c1
      have f0 := s0.fz 0
      have f1 := s0.fz 1
      have S9 := Lib.hid (s0.put (x / 8) (x % 8))
      have B9 := Lib.hid (below_put bw (Nat.le_refl w.heap.size) (.int .i64 (x / 8)) (.int .i64 (x % 8)))
      clear s0 s1 hb2 bw
      go_wp2
      refine bodyPost_ret (v := stGetV (some (x / 8, x % 8, k))) ?_ rfl ⟨by rw [HV.out], ?_⟩
      · exact res_st3 Tryd.results43 rfl S9.out
      · exact B9.out
end Go.Proofs.YtonbhcbkelmhgaaDoor
