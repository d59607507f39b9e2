import Derived.Test.YtcmknbdeafcknaaGreatDoorGBase
import Derived.Test.YtcmknbdeafcknaaGreatDoorGRd
import Derived.Test.YtcmknbdeafcknaaGreatDoorGStR
/-
  What the document's own answers of layer 4 are; nothing that was there is written.
-/
namespace Go.Proofs.YtcmknbdeafcknaaGreatDoor
open Go.RowKit WM
set_option linter.unusedVariables false
set_option maxHeartbeats 1000000 in
theorem rstPut_any (n r : Int) (w : World) : Calls Tryz.prog 60 #[st n r] w (StPutPost w n r) := by
  have HC := Lib.hid (rdmay_any n r)
  have S0 := Lib.hid (StAt.new w n r)
  have HB := Lib.hid ((((Below.refl w.heap.size w).alloc (Nat.le_refl _) (.cells #[.int .i64 n, .int .i64 r] 30))))
  cases hm : may n r
  · have HP : Hid (∀ e w', e = .returned (.tuple #[.slice none 0 0, .bool false]) → Below w.heap.size w w' → StPutPost w n r e w') := Lib.hid (fun e w' h1 h2 => by unfold StPutPost; rw [hm]; exact ⟨h1, h2⟩)
    rw [hm] at HC
    unfold st at HC ⊢
    clear hm
    go_enter Tryz.func60, Tryz.ntmps60
    go_wp2_with fail
    refine (HC.out _).mono ?_
    rintro e w1 ⟨rfl, hb1⟩
    have bw := HB.out.trans (hb1.mono HB.out.size)
    clear hb1
    go_wp2
    go_ret2
    exact HP.out _ _ rfl bw
  · have HP : Hid (∀ e w', GivesT w (enc (n * 8 + r)) e w' → StPutPost w n r e w') := Lib.hid (fun e w' h1 => by unfold StPutPost; rw [hm]; exact h1)
    rw [hm] at HC
    have hmay := may_iff.1 hm
    have x1 : IntKind.i64.wrap (8 * n) = 8 * n := IntWalk.i64_in _ (by omega)
    have x2 : IntKind.i64.wrap (8 * n + r) = 8 * n + r := IntWalk.i64_in _ (by omega)
    have x3 : IntKind.u64.wrap (8 * n + r) = 8 * n + r := IntWalk.u64_in _ (by omega)
    have HPut := Lib.hid (fun w => rput_any (8 * n + r) w (by omega) (by omega))
    rw [show n * 8 + r = 8 * n + r by omega] at HP
    unfold st at HC ⊢
    clear hm hmay
    go_enter Tryz.func60, Tryz.ntmps60
    go_wp2_with fail
    refine (HC.out _).mono ?_
    rintro e w1 ⟨rfl, hb1⟩
    have s0 := S0.out.below hb1 S0.out.lt
    have bw := HB.out.trans (hb1.mono HB.out.size)
    have a0 := s0.c0
    have a1 := s0.c1
    clear s0 hb1
    go_wp2_with fail
    refine (HPut.out _).mono ?_
    rintro e w2 ⟨A, k, c, rfl, hk, hkc, hc, hown, hb2⟩
    have HG := Lib.hid (HP.out _ _ (givesT_own (own_wide hown bw.size) (bw.trans (hb2.mono bw.size))))
    clear hown hb2 hk hkc hc
    go_wp2
    go_ret2
    exact HG.out
set_option maxHeartbeats 1000000 in
theorem rstGet_any {B : Nat} (A : Option Addr) (len cap : Nat) (zs : List Int) (w : World) (h : Byt w B A zs) (hB : B ≤ w.heap.size) (hl : zs.length = len) (hb : AllBytes zs) (hlc : len ≤ cap) (hm : cap ≤ maxLen) :
    Calls Tryz.prog 101 #[.slice A len cap] w fun e w' => e = .returned (stGetV (stGet zs)) ∧ Below w.heap.size w w' := by
  have HG := Lib.hid (rget_any A len cap zs (w.alloc (.cells #[.int .i64 0, .int .i64 0] 30)) ((h.wide hB).below ((Below.refl _ _).alloc (Nat.le_refl _) _)) hl hb hlc hm (by rw [World.size_alloc]; omega))
  have HD := Lib.hid (fun x k => dec_some (n := x) (k := k) hb)
  have S0 := Lib.hid (StAt.new w 0 0)
  have HB := Lib.hid ((((Below.refl w.heap.size w).alloc (Nat.le_refl _) (.cells #[.int .i64 0, .int .i64 0] 30))))
  have hgv : stGet zs = stGet zs := rfl
  conv at hgv => rhs; unfold stGet
  clear h hB hl hb hm hlc
  cases hd : dec zs with
  | none =>
    rw [hd] at HG hgv
    have HV := Lib.hid hgv
    unfold getV at HG
    clear hd hgv
    go_enter Tryz.func101, Tryz.ntmps101
    go_wp2_with fail
    refine HG.out.mono ?_
    rintro e w1 ⟨rfl, hb1⟩
    have s0 := S0.out.below hb1 S0.out.lt
    have bw := HB.out.trans (hb1.mono HB.out.size)
    have a0 := s0.c0
    have a1 := s0.c1
    have f0 := s0.fz 0
    have f1 := s0.fz 1
    have S9 := Lib.hid (s0.put 0 0)
    have B9 := Lib.hid (below_put bw (Nat.le_refl w.heap.size) (.int .i64 0) (.int .i64 0))
    clear s0 hb1 bw
    go_wp2
    refine bodyPost_ret (v := stGetV none) ?_ rfl ⟨by rw [HV.out], ?_⟩
    · exact res_st3 Tryz.results101 rfl S9.out
    · exact B9.out
  | some p =>
    obtain ⟨x, k⟩ := p
    rw [hd] at HG hgv
    obtain ⟨d1, d2, d3, d4, d5⟩ := HD.out x k hd
    unfold getV at HG
    simp only at HG hgv
    by_cases hbig : 8796093022216 ≤ x
    · have HV := Lib.hid (show stGet zs = none by rw [hgv, if_neg]; rw [may_iff]; omega)
      clear hd d3 HD hgv
      go_enter Tryz.func101, Tryz.ntmps101
      go_wp2_with fail
      refine HG.out.mono ?_
      rintro e w1 ⟨rfl, hb1⟩
      have s0 := S0.out.below hb1 S0.out.lt
      have bw := HB.out.trans (hb1.mono HB.out.size)
      have a0 := s0.c0
      have a1 := s0.c1
      have f0 := s0.fz 0
      have f1 := s0.fz 1
      have S9 := Lib.hid (s0.put 0 0)
      have B9 := Lib.hid (below_put bw (Nat.le_refl w.heap.size) (.int .i64 0) (.int .i64 0))
      clear s0 hb1 bw
      go_wp2
      refine bodyPost_ret (v := stGetV none) ?_ rfl ⟨by rw [HV.out], ?_⟩
      · exact res_st3 Tryz.results101 rfl S9.out
      · exact B9.out
    have x1 : IntKind.i64.wrap (x / 8) = x / 8 := IntWalk.i64_in _ (by omega)
    have x3 : IntKind.i64.wrap (x % 8) = x % 8 := IntWalk.i64_in _ (by omega)
    have HM := Lib.hid (rdmay_any (x / 8) (x % 8))
    clear hd d3 HD
    go_enter Tryz.func101, Tryz.ntmps101
    go_wp2_with fail
    refine HG.out.mono ?_
    rintro e w1 ⟨rfl, hb1⟩
    have S0 := Lib.hid (S0.out.below hb1 S0.out.lt)
    have HB := Lib.hid (HB.out.trans (hb1.mono HB.out.size))
    clear hb1
    have T0 := Lib.hid (S0.out.old (.cells #[.int .i64 (x / 8), .int .i64 (x % 8)] 30))
    have T1 := Lib.hid (StAt.new w1 (x / 8) (x % 8))
    have HB1 := Lib.hid (HB.out.alloc HB.out.size (.cells #[.int .i64 (x / 8), .int .i64 (x % 8)] 30))
    cases hm : may (x / 8) (x % 8)
    · rw [hm] at hgv HM
      have HV := Lib.hid (show stGet zs = none by rw [hgv]; rfl)
      unfold st at HM
      clear hgv hm
      go_wp2_with fail
      refine (HM.out _).mono ?_
      rintro e w2 ⟨rfl, hb2⟩
      have s0 := T0.out.below hb2 T0.out.lt
      have s1 := T1.out.below hb2 T1.out.lt
      have bw := HB1.out.trans (hb2.mono HB1.out.size)
      have a0 := s0.c0
      have a1 := s0.c1
      have b0 := s1.c0
      have b1 := s1.c1
      have f0 := s0.fz 0
      have f1 := s0.fz 1
      have S9 := Lib.hid (s0.put 0 0)
      have B9 := Lib.hid (below_put bw (Nat.le_refl w.heap.size) (.int .i64 0) (.int .i64 0))
      clear s0 s1 hb2 bw
      go_wp2
      refine bodyPost_ret (v := stGetV none) ?_ rfl ⟨by rw [HV.out], ?_⟩
      · exact res_st3 Tryz.results101 rfl S9.out
      · exact B9.out
    · rw [hm] at hgv HM
      have HV := Lib.hid (show stGet zs = some (x / 8, x % 8, k) by rw [hgv]; rfl)
      unfold st at HM
      clear hgv hm
      go_wp2_with fail
      refine (HM.out _).mono ?_
      rintro e w2 ⟨rfl, hb2⟩
      have s0 := T0.out.below hb2 T0.out.lt
      have s1 := T1.out.below hb2 T1.out.lt
      have bw := HB1.out.trans (hb2.mono HB1.out.size)
      have a0 := s0.c0
      have a1 := s0.c1
      have b0 := s1.c0
      have b1 := s1.c1
      have f0 := s0.fz 0
      have f1 := s0.fz 1
      have S9 := Lib.hid (s0.put (x / 8) (x % 8))
      have B9 := Lib.hid (below_put bw (Nat.le_refl w.heap.size) (.int .i64 (x / 8)) (.int .i64 (x % 8)))
      clear s0 s1 hb2 bw
      go_wp2
      refine bodyPost_ret (v := stGetV (some (x / 8, x % 8, k))) ?_ rfl ⟨by rw [HV.out], ?_⟩
      · exact res_st3 Tryz.results101 rfl S9.out
      · exact B9.out
end Go.Proofs.YtcmknbdeafcknaaGreatDoor

