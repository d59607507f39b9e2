/-
  What the document's own answers of layer 4 are; nothing that was there is written.
-/
import Derived.Test.YtomlckefkamdgaaStNext
import Derived.Test.YtomlckefkamdgaaRPut
import Derived.Test.YtomlckefkamdgaaRGet
namespace Go.Proofs.Ytomlckefkamdgaa
open Go.RowKit WM
set_option linter.unusedVariables false
set_option maxHeartbeats 1000000 in
theorem rmay_any (n r : Int) (w : World) : Calls Try.prog 22 #[st n r] w fun e w' => e = .returned (.bool (may n r)) ∧ Below w.heap.size w w' := by
  unfold st
  have hbel := Lib.hid (fun (o : Obj) => (Below.refl w.heap.size w).alloc (Nat.le_refl _) o)
  by_cases h0 : n = 0
  · subst h0
    by_cases h1 : r = 0
    · subst h1
      have hm := Lib.hid (show may 0 0 = true by decide)
      go_enter Try.func22, Try.ntmps22
      go_wp2
      go_ret
      exact ⟨by rw [hm.out]; rfl, hbel.out _⟩
    · have hm := Lib.hid (show may 0 r = false by rw [may, decide_eq_false_iff_not]; omega)
      have h2 : (r == 0) = false := by simpa using h1
      go_enter Try.func22, Try.ntmps22
      go_wp2
      go_ret
      exact ⟨by rw [hm.out]; rfl, hbel.out _⟩
  · by_cases h1 : 1 ≤ n
    · by_cases h2 : n ≤ 1099511627776
      · by_cases h3 : 0 ≤ r
        · have hm := Lib.hid (show may n r = decide (r < 8) by rw [may, decide_eq_decide]; omega)
          go_enter Try.func22, Try.ntmps22
          go_wp2
          go_ret
          exact ⟨by rw [hm.out]; rfl, hbel.out _⟩
        · have hm := Lib.hid (show may n r = false by rw [may, decide_eq_false_iff_not]; omega)
          go_enter Try.func22, Try.ntmps22
          go_wp2
          go_ret
          exact ⟨by rw [hm.out]; rfl, hbel.out _⟩
      · have hm := Lib.hid (show may n r = false by rw [may, decide_eq_false_iff_not]; omega)
        go_enter Try.func22, Try.ntmps22
        go_wp2
        go_ret
        exact ⟨by rw [hm.out]; rfl, hbel.out _⟩
    · have hm := Lib.hid (show may n r = false by rw [may, decide_eq_false_iff_not]; omega)
      go_enter Try.func22, Try.ntmps22
      go_wp2
      go_ret
      exact ⟨by rw [hm.out]; rfl, hbel.out _⟩
set_option maxHeartbeats 1000000 in
theorem rless_any (n r m s : Int) (w : World) : Calls Try.prog 24 #[st n r, st m s] w fun e w' => e = .returned (.bool (stLess n r m s)) ∧ Below w.heap.size w w' := by
  unfold st
  have hbel := Lib.hid (fun (o o' : Obj) => ((Below.refl w.heap.size w).alloc (Nat.le_refl _) o).alloc (by simp) o')
  by_cases h1 : n < m
  · have hm := Lib.hid (show stLess n r m s = true by rw [stLess, decide_eq_true_iff]; omega)
    go_enter Try.func24, Try.ntmps24
    go_wp2
    go_ret
    exact ⟨by rw [hm.out]; rfl, hbel.out _ _⟩
  · by_cases h2 : n = m
    · subst h2
      have hm := Lib.hid (show stLess n r n s = decide (r < s) by rw [stLess, decide_eq_decide]; omega)
      go_enter Try.func24, Try.ntmps24
      go_wp2
      go_ret
      exact ⟨by rw [hm.out]; rfl, hbel.out _ _⟩
    · have hm := Lib.hid (show stLess n r m s = false by rw [stLess, decide_eq_false_iff_not]; omega)
      have h2' : (n == m) = false := by simpa using h2
      go_enter Try.func24, Try.ntmps24
      go_wp2
      go_ret
      exact ⟨by rw [hm.out]; rfl, hbel.out _ _⟩
set_option maxHeartbeats 1000000 in
theorem rmax_any (n r m s : Int) (w : World) : Calls Try.prog 26 #[st n r, st m s] w fun e w' => e = .returned (if stLess n r m s then st m s else st n r) ∧ Below w.heap.size w w' := by
  cases hl : stLess n r m s
  · have hc := Lib.hid (rless_any n r m s)
    rw [hl] at hc
    unfold st at hc ⊢
    have S0 := Lib.hid (((StAt.new w n r).old (.cells #[.int .i64 m, .int .i64 s] 33)).old (.cells #[.int .i64 0, .int .i64 0] 33))
    have s1 := (StAt.new (w.alloc (.cells #[.int .i64 n, .int .i64 r] 33)) m s).old (.cells #[.int .i64 0, .int .i64 0] 33)
    have s2 := (StAt.new ((w.alloc (.cells #[.int .i64 n, .int .i64 r] 33)).alloc (.cells #[.int .i64 m, .int .i64 s] 33)) 0 0)
    rw [World.size_alloc] at s1 s2
    rw [World.size_alloc] at s2
    have HB := Lib.hid (((((Below.refl w.heap.size w).alloc (Nat.le_refl _) (.cells #[.int .i64 n, .int .i64 r] 33))).alloc (by simp) (.cells #[.int .i64 m, .int .i64 s] 33)).alloc (by simp; omega) (.cells #[.int .i64 0, .int .i64 0] 33))
    have S1 := Lib.hid s1
    have S2 := Lib.hid s2
    clear s1 s2
    go_enter Try.func26, Try.ntmps26
    go_wp2_with fail
    refine (hc.out _).mono ?_
    rintro e w1 ⟨rfl, hb1⟩
    have s0 := S0.out.below hb1 S0.out.lt
    have s1 := S1.out.below hb1 S1.out.lt
    have s2 := S2.out.below hb1 S2.out.lt
    have bw := HB.out.trans (hb1.mono HB.out.size)
    have a0 := s0.c0
    have a1 := s0.c1
    have b0 := s1.c0
    have b1 := s1.c1
    have c0 := s2.c0
    have c1 := s2.c1
    have f0 := s2.fz 0
    have f1 := s2.fz 1
    have S9 := Lib.hid (s2.put n r)
    have B9 := Lib.hid (below_put bw (show w.heap.size ≤ w.heap.size + 1 + 1 by omega) (.int .i64 n) (.int .i64 r))
    clear s0 s1 s2 hb1 bw
    go_wp2
    refine bodyPost_ret (v := st n r) ?_ rfl ⟨rfl, ?_⟩
    · exact res_st Try.results26 rfl S9.out
    · exact B9.out
  · have hc := Lib.hid (rless_any n r m s)
    rw [hl] at hc
    unfold st at hc ⊢
    have S0 := Lib.hid (((StAt.new w n r).old (.cells #[.int .i64 m, .int .i64 s] 33)).old (.cells #[.int .i64 0, .int .i64 0] 33))
    have s1 := (StAt.new (w.alloc (.cells #[.int .i64 n, .int .i64 r] 33)) m s).old (.cells #[.int .i64 0, .int .i64 0] 33)
    have s2 := (StAt.new ((w.alloc (.cells #[.int .i64 n, .int .i64 r] 33)).alloc (.cells #[.int .i64 m, .int .i64 s] 33)) 0 0)
    rw [World.size_alloc] at s1 s2
    rw [World.size_alloc] at s2
    have HB := Lib.hid (((((Below.refl w.heap.size w).alloc (Nat.le_refl _) (.cells #[.int .i64 n, .int .i64 r] 33))).alloc (by simp) (.cells #[.int .i64 m, .int .i64 s] 33)).alloc (by simp; omega) (.cells #[.int .i64 0, .int .i64 0] 33))
    have S1 := Lib.hid s1
    have S2 := Lib.hid s2
    clear s1 s2
    go_enter Try.func26, Try.ntmps26
    go_wp2_with fail
    refine (hc.out _).mono ?_
    rintro e w1 ⟨rfl, hb1⟩
    have s0 := S0.out.below hb1 S0.out.lt
    have s1 := S1.out.below hb1 S1.out.lt
    have s2 := S2.out.below hb1 S2.out.lt
    have bw := HB.out.trans (hb1.mono HB.out.size)
    have a0 := s0.c0
    have a1 := s0.c1
    have b0 := s1.c0
    have b1 := s1.c1
    have c0 := s2.c0
    have c1 := s2.c1
    have f0 := s2.fz 0
    have f1 := s2.fz 1
    have S9 := Lib.hid (s2.put m s)
    have B9 := Lib.hid (below_put bw (show w.heap.size ≤ w.heap.size + 1 + 1 by omega) (.int .i64 m) (.int .i64 s))
    clear s0 s1 s2 hb1 bw
    go_wp2
    refine bodyPost_ret (v := st m s) ?_ rfl ⟨rfl, ?_⟩
    · exact res_st Try.results26 rfl S9.out
    · exact B9.out
set_option maxHeartbeats 1000000 in
theorem rnext_any (n r q : Int) (w : World) : Calls Try.prog 16 #[st n r, .int .i64 q] w fun e w' => e = .returned (nxtV (nxt n r q)) ∧ Below w.heap.size w w' := by
  have HC := Lib.hid (rmay_any n r)
  have S0 := Lib.hid ((StAt.new w n r).old (.cells #[.int .i64 0, .int .i64 0] 33))
  have s1 := StAt.new (w.alloc (.cells #[.int .i64 n, .int .i64 r] 33)) 0 0
  rw [World.size_alloc] at s1
  have S1 := Lib.hid s1
  have HB := Lib.hid ((((Below.refl w.heap.size w).alloc (Nat.le_refl _) (.cells #[.int .i64 n, .int .i64 r] 33))).alloc (by simp) (.cells #[.int .i64 0, .int .i64 0] 33))
  clear s1
  cases hm : may n r
  · have HN := Lib.hid (show nxt n r q = (0, 0, 1) by simp [nxt, hm])
    rw [hm] at HC
    unfold st at HC ⊢
    clear hm
    go_enter Try.func16, Try.ntmps16
    go_wp2_with fail
    refine (HC.out _).mono ?_
    rintro e w1 ⟨rfl, hb1⟩
    have s0 := S0.out.below hb1 S0.out.lt
    have s1 := S1.out.below hb1 S1.out.lt
    have bw := HB.out.trans (hb1.mono HB.out.size)
    have a0 := s0.c0
    have a1 := s0.c1
    have c0 := s1.c0
    have c1 := s1.c1
    have f0 := s1.fz 0
    have f1 := s1.fz 1
    have S9 := Lib.hid (s1.put 0 0)
    have B9 := Lib.hid (below_put bw (show w.heap.size ≤ w.heap.size + 1 by omega) (.int .i64 0) (.int .i64 0))
    clear s0 s1 hb1 bw
    go_wp2
    refine bodyPost_ret (v := nxtV (0, 0, 1)) ?_ rfl ⟨by rw [HN.out], ?_⟩
    · exact res_st2 Try.results16 rfl S9.out
    · exact B9.out
  · rw [hm] at HC
    have hmay := may_iff.1 hm
    cases hq : mayR q
    · have HN := Lib.hid (show nxt n r q = (0, 0, 1) by simp [nxt, hq])
      have hq' : ¬ (0 ≤ q ∧ q < 8) := by unfold mayR at hq; simpa using hq
      unfold st at HC ⊢
      clear hm hq hmay
      by_cases hq0 : q < 0
      · clear hq'
        go_enter Try.func16, Try.ntmps16
        go_wp2_with fail
        refine (HC.out _).mono ?_
        rintro e w1 ⟨rfl, hb1⟩
        have s0 := S0.out.below hb1 S0.out.lt
        have s1 := S1.out.below hb1 S1.out.lt
        have bw := HB.out.trans (hb1.mono HB.out.size)
        have a0 := s0.c0
        have a1 := s0.c1
        have c0 := s1.c0
        have c1 := s1.c1
        have f0 := s1.fz 0
        have f1 := s1.fz 1
        have S9 := Lib.hid (s1.put 0 0)
        have B9 := Lib.hid (below_put bw (show w.heap.size ≤ w.heap.size + 1 by omega) (.int .i64 0) (.int .i64 0))
        clear s0 s1 hb1 bw
        go_wp2
        refine bodyPost_ret (v := nxtV (0, 0, 1)) ?_ rfl ⟨by rw [HN.out], ?_⟩
        · exact res_st2 Try.results16 rfl S9.out
        · exact B9.out
      · have hq8 : 8 ≤ q := by omega
        clear hq'
        go_enter Try.func16, Try.ntmps16
        go_wp2_with fail
        refine (HC.out _).mono ?_
        rintro e w1 ⟨rfl, hb1⟩
        have s0 := S0.out.below hb1 S0.out.lt
        have s1 := S1.out.below hb1 S1.out.lt
        have bw := HB.out.trans (hb1.mono HB.out.size)
        have a0 := s0.c0
        have a1 := s0.c1
        have c0 := s1.c0
        have c1 := s1.c1
        have f0 := s1.fz 0
        have f1 := s1.fz 1
        have S9 := Lib.hid (s1.put 0 0)
        have B9 := Lib.hid (below_put bw (show w.heap.size ≤ w.heap.size + 1 by omega) (.int .i64 0) (.int .i64 0))
        clear s0 s1 hb1 bw
        go_wp2
        refine bodyPost_ret (v := nxtV (0, 0, 1)) ?_ rfl ⟨by rw [HN.out], ?_⟩
        · exact res_st2 Try.results16 rfl S9.out
        · exact B9.out
    · have hq' : 0 ≤ q ∧ q < 8 := by unfold mayR at hq; simpa using hq
      have hq0 : ¬ q < 0 := by omega
      have hq8 : ¬ 8 ≤ q := by omega
      by_cases h40 : n = 1099511627776
      · subst h40
        have HN := Lib.hid (show nxt 1099511627776 r q = (0, 0, 4) by simp [nxt, hm, hq])
        unfold st at HC ⊢
        clear hm hq hmay hq'
        go_enter Try.func16, Try.ntmps16
        go_wp2_with fail
        refine (HC.out _).mono ?_
        rintro e w1 ⟨rfl, hb1⟩
        have s0 := S0.out.below hb1 S0.out.lt
        have s1 := S1.out.below hb1 S1.out.lt
        have bw := HB.out.trans (hb1.mono HB.out.size)
        have a0 := s0.c0
        have a1 := s0.c1
        have c0 := s1.c0
        have c1 := s1.c1
        have f0 := s1.fz 0
        have f1 := s1.fz 1
        have S9 := Lib.hid (s1.put 0 0)
        have B9 := Lib.hid (below_put bw (show w.heap.size ≤ w.heap.size + 1 by omega) (.int .i64 0) (.int .i64 0))
        clear s0 s1 hb1 bw
        go_wp2
        refine bodyPost_ret (v := nxtV (0, 0, 4)) ?_ rfl ⟨by rw [HN.out], ?_⟩
        · exact res_st2 Try.results16 rfl S9.out
        · exact B9.out
      · have HN := Lib.hid (show nxt n r q = (n + 1, q, 0) by simp [nxt, hm, hq, h40])
        have hw : IntKind.i64.wrap (n + 1) = n + 1 := IntWalk.i64_in _ (by omega)
        have h41 : ¬ 1099511627776 ≤ n := by omega
        unfold st at HC ⊢
        clear hm hq hmay hq'
        go_enter Try.func16, Try.ntmps16
        go_wp2_with fail
        refine (HC.out _).mono ?_
        rintro e w1 ⟨rfl, hb1⟩
        have s0 := S0.out.below hb1 S0.out.lt
        have s1 := S1.out.below hb1 S1.out.lt
        have bw := HB.out.trans (hb1.mono HB.out.size)
        have a0 := s0.c0
        have a1 := s0.c1
        have c0 := s1.c0
        have c1 := s1.c1
        have f0 := s1.fz 0
        have f1 := s1.fz 1
        have S9 := Lib.hid (s1.put (n + 1) q)
        have B9 := Lib.hid (below_put bw (show w.heap.size ≤ w.heap.size + 1 by omega) (.int .i64 (n + 1)) (.int .i64 q))
        clear s0 s1 hb1 bw
        go_wp2
        refine bodyPost_ret (v := nxtV (n + 1, q, 0)) ?_ rfl ⟨by rw [HN.out], ?_⟩
        · exact res_st2 Try.results16 rfl S9.out
        · exact B9.out
set_option maxHeartbeats 1000000 in
theorem rstPut_any (n r : Int) (w : World) : Calls Try.prog 18 #[st n r] w (StPutPost w n r) := by
  have HC := Lib.hid (rmay_any n r)
  have S0 := Lib.hid (StAt.new w n r)
  have HB := Lib.hid ((((Below.refl w.heap.size w).alloc (Nat.le_refl _) (.cells #[.int .i64 n, .int .i64 r] 33))))
  cases hm : may n r
  · have HP : Hid (∀ e w', e = .returned (.tuple #[.slice none 0 0, .bool false]) → Below w.heap.size w w' → StPutPost w n r e w') := Lib.hid (fun e w' h1 h2 => by unfold StPutPost; rw [hm]; exact ⟨h1, h2⟩)
    rw [hm] at HC
    unfold st at HC ⊢
    clear hm
    go_enter Try.func18, Try.ntmps18
    go_wp2_with fail
    refine (HC.out _).mono ?_
    rintro e w1 ⟨rfl, hb1⟩
    have bw := HB.out.trans (hb1.mono HB.out.size)
    clear hb1
    go_wp2
    go_ret2
    exact HP.out _ _ rfl bw
  · have HP : Hid (∀ e w', GivesT w (enc (n * 8 + r)) e w' → StPutPost w n r e w') := Lib.hid (fun e w' h1 => by unfold StPutPost; rw [hm]; exact h1)
    rw [hm] at HC
    have hmay := may_iff.1 hm
    have x1 : IntKind.i64.wrap (8 * n) = 8 * n := IntWalk.i64_in _ (by omega)
    have x2 : IntKind.i64.wrap (8 * n + r) = 8 * n + r := IntWalk.i64_in _ (by omega)
    have x3 : IntKind.u64.wrap (8 * n + r) = 8 * n + r := IntWalk.u64_in _ (by omega)
    have HPut := Lib.hid (fun w => rput_any (8 * n + r) w (by omega) (by omega))
    rw [show n * 8 + r = 8 * n + r by omega] at HP
    unfold st at HC ⊢
    clear hm hmay
    go_enter Try.func18, Try.ntmps18
    go_wp2_with fail
    refine (HC.out _).mono ?_
    rintro e w1 ⟨rfl, hb1⟩
    have s0 := S0.out.below hb1 S0.out.lt
    have bw := HB.out.trans (hb1.mono HB.out.size)
    have a0 := s0.c0
    have a1 := s0.c1
    clear s0 hb1
    go_wp2_with fail
    refine (HPut.out _).mono ?_
    rintro e w2 ⟨A, k, c, rfl, hk, hkc, hc, hown, hb2⟩
    have HG := Lib.hid (HP.out _ _ (givesT_own (own_wide hown bw.size) (bw.trans (hb2.mono bw.size))))
    clear hown hb2 hk hkc hc
    go_wp2
    go_ret2
    exact HG.out
set_option maxHeartbeats 1000000 in
theorem rstGet_any {B : Nat} (A : Option Addr) (len cap : Nat) (zs : List Int) (w : World) (h : Byt w B A zs) (hB : B ≤ w.heap.size) (hl : zs.length = len) (hb : AllBytes zs) (hlc : len ≤ cap) (hm : cap ≤ maxLen) :
    Calls Try.prog 20 #[.slice A len cap] w fun e w' => e = .returned (stGetV (stGet zs)) ∧ Below w.heap.size w w' := by
  have HG := Lib.hid (rget_any A len cap zs (w.alloc (.cells #[.int .i64 0, .int .i64 0] 33)) ((h.wide hB).below ((Below.refl _ _).alloc (Nat.le_refl _) _)) hl hb hlc hm (by rw [World.size_alloc]; omega))
  have HD := Lib.hid (fun x k => dec_some (n := x) (k := k) hb)
  have S0 := Lib.hid (StAt.new w 0 0)
  have HB := Lib.hid ((((Below.refl w.heap.size w).alloc (Nat.le_refl _) (.cells #[.int .i64 0, .int .i64 0] 33))))
  have hgv : stGet zs = stGet zs := rfl
  conv at hgv => rhs; unfold stGet
  clear h hB hl hb hm hlc
  cases hd : dec zs with
  | none =>
    rw [hd] at HG hgv
    have HV := Lib.hid hgv
    unfold getV at HG
    clear hd hgv
    go_enter Try.func20, Try.ntmps20
    go_wp2_with fail
    refine HG.out.mono ?_
    rintro e w1 ⟨rfl, hb1⟩
    have s0 := S0.out.below hb1 S0.out.lt
    have bw := HB.out.trans (hb1.mono HB.out.size)
    have a0 := s0.c0
    have a1 := s0.c1
    have f0 := s0.fz 0
    have f1 := s0.fz 1
    have S9 := Lib.hid (s0.put 0 0)
    have B9 := Lib.hid (below_put bw (Nat.le_refl w.heap.size) (.int .i64 0) (.int .i64 0))
    clear s0 hb1 bw
    go_wp2
    refine bodyPost_ret (v := stGetV none) ?_ rfl ⟨by rw [HV.out], ?_⟩
    · exact res_st3 Try.results20 rfl S9.out
    · exact B9.out
  | some p =>
    obtain ⟨x, k⟩ := p
    rw [hd] at HG hgv
    obtain ⟨d1, d2, d3, d4, d5⟩ := HD.out x k hd
    unfold getV at HG
    simp only at HG hgv
    by_cases hbig : 8796093022216 ≤ x
    · have HV := Lib.hid (show stGet zs = none by rw [hgv, if_neg]; rw [may_iff]; omega)
      clear hd d3 HD hgv
      go_enter Try.func20, Try.ntmps20
      go_wp2_with fail
      refine HG.out.mono ?_
      rintro e w1 ⟨rfl, hb1⟩
      have s0 := S0.out.below hb1 S0.out.lt
      have bw := HB.out.trans (hb1.mono HB.out.size)
      have a0 := s0.c0
      have a1 := s0.c1
      have f0 := s0.fz 0
      have f1 := s0.fz 1
      have S9 := Lib.hid (s0.put 0 0)
      have B9 := Lib.hid (below_put bw (Nat.le_refl w.heap.size) (.int .i64 0) (.int .i64 0))
      clear s0 hb1 bw
      go_wp2
      refine bodyPost_ret (v := stGetV none) ?_ rfl ⟨by rw [HV.out], ?_⟩
      · exact res_st3 Try.results20 rfl S9.out
      · exact B9.out
    have x1 : IntKind.i64.wrap (x / 8) = x / 8 := IntWalk.i64_in _ (by omega)
    have x3 : IntKind.i64.wrap (x % 8) = x % 8 := IntWalk.i64_in _ (by omega)
    have HM := Lib.hid (rmay_any (x / 8) (x % 8))
    clear hd d3 HD
    go_enter Try.func20, Try.ntmps20
    go_wp2_with fail
    refine HG.out.mono ?_
    rintro e w1 ⟨rfl, hb1⟩
    have S0 := Lib.hid (S0.out.below hb1 S0.out.lt)
    have HB := Lib.hid (HB.out.trans (hb1.mono HB.out.size))
    clear hb1
    have T0 := Lib.hid (S0.out.old (.cells #[.int .i64 (x / 8), .int .i64 (x % 8)] 33))
    have T1 := Lib.hid (StAt.new w1 (x / 8) (x % 8))
    have HB1 := Lib.hid (HB.out.alloc HB.out.size (.cells #[.int .i64 (x / 8), .int .i64 (x % 8)] 33))
    cases hm : may (x / 8) (x % 8)
    · rw [hm] at hgv HM
      have HV := Lib.hid (show stGet zs = none by rw [hgv]; rfl)
      unfold st at HM
      clear hgv hm
      go_wp2_with fail
      refine (HM.out _).mono ?_
      rintro e w2 ⟨rfl, hb2⟩
      have s0 := T0.out.below hb2 T0.out.lt
      have s1 := T1.out.below hb2 T1.out.lt
      have bw := HB1.out.trans (hb2.mono HB1.out.size)
      have a0 := s0.c0
      have a1 := s0.c1
      have b0 := s1.c0
      have b1 := s1.c1
      have f0 := s0.fz 0
      have f1 := s0.fz 1
      have S9 := Lib.hid (s0.put 0 0)
      have B9 := Lib.hid (below_put bw (Nat.le_refl w.heap.size) (.int .i64 0) (.int .i64 0))
      clear s0 s1 hb2 bw
      go_wp2
      refine bodyPost_ret (v := stGetV none) ?_ rfl ⟨by rw [HV.out], ?_⟩
      · exact res_st3 Try.results20 rfl S9.out
      · exact B9.out
    · rw [hm] at hgv HM
      have HV := Lib.hid (show stGet zs = some (x / 8, x % 8, k) by rw [hgv]; rfl)
      unfold st at HM
      clear hgv hm
      go_wp2_with fail
      refine (HM.out _).mono ?_
      rintro e w2 ⟨rfl, hb2⟩
      have s0 := T0.out.below hb2 T0.out.lt
      have s1 := T1.out.below hb2 T1.out.lt
      have bw := HB1.out.trans (hb2.mono HB1.out.size)
      have a0 := s0.c0
      have a1 := s0.c1
      have b0 := s1.c0
      have b1 := s1.c1
      have f0 := s0.fz 0
      have f1 := s0.fz 1
      have S9 := Lib.hid (s0.put (x / 8) (x % 8))
      have B9 := Lib.hid (below_put bw (Nat.le_refl w.heap.size) (.int .i64 (x / 8)) (.int .i64 (x % 8)))
      clear s0 s1 hb2 bw
      go_wp2
      refine bodyPost_ret (v := stGetV (some (x / 8, x % 8, k))) ?_ rfl ⟨by rw [HV.out], ?_⟩
      · exact res_st3 Try.results20 rfl S9.out
      · exact B9.out
end Go.Proofs.Ytomlckefkamdgaa
