/-
  The law CellTells: for every two cells and all bytes it answers true, and nothing that was there is written.
-/
import Derived.Test.YtonbhcbkelmhgaaDoorClAwake
import Derived.Test.YtonbhcbkelmhgaaDoorClArgs
import Derived.Test.YtonbhcbkelmhgaaDoorClBytes
import Derived.Test.YtonbhcbkelmhgaaDoorClRef2
import Derived.Test.YtonbhcbkelmhgaaDoorUniG
namespace Go.Proofs.YtonbhcbkelmhgaaDoor
open Go.RowKit WM
set_option linter.unusedVariables false
set_option maxRecDepth 20000
/-- Bytes, and whether there are any. -/
def CPutG (E : List Int) (f : Bool) (w : World) (e : Ending) (w' : World) : Prop :=
  ∃ A k c, e = .returned (.tuple #[.slice A k c, .bool f]) ∧ E.length = k ∧ Byt w' w'.heap.size A E ∧ k ≤ c ∧ c ≤ maxLen ∧ Below w.heap.size w w'
theorem cputG_of (a : Cel) : ∃ E f, ∀ w e w', CPutPost w a e w' → CPutG E f w e w' := by
  cases hm : cmay a
  · refine ⟨[], false, fun w e w' h => ?_⟩
    unfold CPutPost at h
    rw [hm] at h
    simp only [Bool.false_eq_true, if_false] at h
    obtain ⟨rfl, hb⟩ := h
    exact ⟨none, 0, 0, rfl, rfl, Byt.nil, Nat.le_refl _, by decide, hb⟩
  · refine ⟨cenc a, true, fun w e w' h => ?_⟩
    unfold CPutPost at h
    rw [hm] at h
    obtain ⟨A, k, c, rfl, hk, hkc, hc, own, hb⟩ := h
    exact ⟨A, k, c, rfl, hk, Byt.own own, hkc, hc, hb⟩
theorem cgetV_is (o : Option (Cel × Nat)) : ∃ (g : Cel) (k : Int) (d : Bool), cgetV o = .tuple #[g.v, .int .i64 k, .bool d] := by
  cases o with
  | none => exact ⟨cel0, 0, false, rfl⟩
  | some x => obtain ⟨c, k⟩ := x; exact ⟨c, k, true, rfl⟩
set_option maxHeartbeats 8000000 in
theorem walk_cellTells (a b : Cel) (a2 : Option Addr) (len2 cap2 : Nat) (z2 : List Int) (w : World) (hlaid : Laid w) (ha : IsCel a) (hb : IsCel b) (w2 : IsRow .u8 w a2 len2 cap2 z2) :
    Calls Tryd.prog 3 #[a.v, b.v, .slice a2 len2 cap2] w fun e w' => e = .returned (.bool true) ∧ Below w.heap.size w w' := by
  obtain ⟨hby, hlen, hbs, hlc, hcm⟩ := w2.byt
  have LD := Lib.hid (fun (X : World) (hX : Below w.heap.size w X) => hlaid.below hX (Nat.le_refl _))
  have HG := Lib.hid (fun (w' : World) (hw : Below w.heap.size w w') => cget_any a2 len2 cap2 _ w' (hby.below hw) hw.size hlen hbs hlc hcm)
  have RG := Lib.hid (fun (w' : World) (hw : Below w.heap.size w w') => rcget_any a2 len2 cap2 _ w' (hby.below hw) hw.size hlen hbs hlc hcm)
  obtain ⟨g, gk, gd, hgv⟩ := cgetV_is (cget (z2.take len2))
  rw [hgv] at HG RG
  simp only [maxLen] at hcm
  clear w2 ha hb hlaid hby hlen hbs hgv
  have FA := Lib.hid (few_any a)
  have FB := Lib.hid (few_any b)
  cases ga : cfew a
  · rw [ga] at FA
    clear ga
    generalize cfew b = gb at *
    dsimp only [Cel.v] at FA FB ⊢
    have B0 := Lib.hid (Below.refl w.heap.size w)
    have T3n := ClAt.new w a
    have T3 := Lib.hid (T3n)
    clear T3n
    have B1 := Lib.hid (B0.out.alloc B0.out.size (.cells #[.int .i64 a.n, .int .i64 a.r, .string a.s] 25))
    have T3' := Lib.hid (T3.out.old (.cells #[.int .i64 b.n, .int .i64 b.r, .string b.s] 25))
    have T4n := ClAt.new (w.alloc (.cells #[.int .i64 a.n, .int .i64 a.r, .string a.s] 25)) b
    simp only [World.size_alloc] at T4n
    have T4 := Lib.hid (T4n)
    clear T4n
    have B2 := Lib.hid (B1.out.alloc B1.out.size (.cells #[.int .i64 b.n, .int .i64 b.r, .string b.s] 25))
    go_enter Tryd.func3, Tryd.ntmps3
    go_wp2_with fail
    refine (clAwake _ (LD.out _ B2.out)).mono ?_
    rintro e w1 ⟨rfl, hb⟩
    have T3_1 := Lib.hid (T3'.out.below hb T3'.out.lt)
    have T4_1 := Lib.hid (T4.out.below hb T4.out.lt)
    have B3 := Lib.hid (B2.out.trans (hb.mono B2.out.size))
    clear hb
    have c30 := T3_1.out.c0
    have c31 := T3_1.out.c1
    have c32 := T3_1.out.c2
    have c40 := T4_1.out.c0
    have c41 := T4_1.out.c1
    have c42 := T4_1.out.c2
    go_wp2_with fail
    refine (FA.out _).mono ?_
    rintro e w2 ⟨rfl, hb⟩
    clear c30 c31 c32 c40 c41 c42
    have T3_2 := Lib.hid (T3_1.out.below hb T3_1.out.lt)
    have T4_2 := Lib.hid (T4_1.out.below hb T4_1.out.lt)
    have B4 := Lib.hid (B3.out.trans (hb.mono B3.out.size))
    clear hb
    have c30 := T3_2.out.c0
    have c31 := T3_2.out.c1
    have c32 := T3_2.out.c2
    have c40 := T4_2.out.c0
    have c41 := T4_2.out.c1
    have c42 := T4_2.out.c2
    go_wp2_with fail
    refine (FB.out _).mono ?_
    rintro e w3 ⟨rfl, hb⟩
    clear c30 c31 c32 c40 c41 c42
    have T3_3 := Lib.hid (T3_2.out.below hb T3_2.out.lt)
    have T4_3 := Lib.hid (T4_2.out.below hb T4_2.out.lt)
    have B5 := Lib.hid (B4.out.trans (hb.mono B4.out.size))
    clear hb
    have c30 := T3_3.out.c0
    have c31 := T3_3.out.c1
    have c32 := T3_3.out.c2
    have c40 := T4_3.out.c0
    have c41 := T4_3.out.c1
    have c42 := T4_3.out.c2
    go_wp2
    go_ret
    exact ⟨rfl, B5.out⟩
  have sa : a.s.size ≤ 300 := by simpa [cfew] using ga
  rw [ga] at FA
  clear ga
  cases gb : cfew b
  · rw [gb] at FB
    clear gb
    dsimp only [Cel.v] at FA FB ⊢
    have B0 := Lib.hid (Below.refl w.heap.size w)
    have T3n := ClAt.new w a
    have T3 := Lib.hid (T3n)
    clear T3n
    have B1 := Lib.hid (B0.out.alloc B0.out.size (.cells #[.int .i64 a.n, .int .i64 a.r, .string a.s] 25))
    have T3' := Lib.hid (T3.out.old (.cells #[.int .i64 b.n, .int .i64 b.r, .string b.s] 25))
    have T4n := ClAt.new (w.alloc (.cells #[.int .i64 a.n, .int .i64 a.r, .string a.s] 25)) b
    simp only [World.size_alloc] at T4n
    have T4 := Lib.hid (T4n)
    clear T4n
    have B2 := Lib.hid (B1.out.alloc B1.out.size (.cells #[.int .i64 b.n, .int .i64 b.r, .string b.s] 25))
    go_enter Tryd.func3, Tryd.ntmps3
    go_wp2_with fail
    refine (clAwake _ (LD.out _ B2.out)).mono ?_
    rintro e w1 ⟨rfl, hb⟩
    have T3_1 := Lib.hid (T3'.out.below hb T3'.out.lt)
    have T4_1 := Lib.hid (T4.out.below hb T4.out.lt)
    have B3 := Lib.hid (B2.out.trans (hb.mono B2.out.size))
    clear hb
    have c30 := T3_1.out.c0
    have c31 := T3_1.out.c1
    have c32 := T3_1.out.c2
    have c40 := T4_1.out.c0
    have c41 := T4_1.out.c1
    have c42 := T4_1.out.c2
    go_wp2_with fail
    refine (FA.out _).mono ?_
    rintro e w2 ⟨rfl, hb⟩
    clear c30 c31 c32 c40 c41 c42
    have T3_2 := Lib.hid (T3_1.out.below hb T3_1.out.lt)
    have T4_2 := Lib.hid (T4_1.out.below hb T4_1.out.lt)
    have B4 := Lib.hid (B3.out.trans (hb.mono B3.out.size))
    clear hb
    have c30 := T3_2.out.c0
    have c31 := T3_2.out.c1
    have c32 := T3_2.out.c2
    have c40 := T4_2.out.c0
    have c41 := T4_2.out.c1
    have c42 := T4_2.out.c2
    go_wp2_with fail
    refine (FB.out _).mono ?_
    rintro e w3 ⟨rfl, hb⟩
    clear c30 c31 c32 c40 c41 c42
    have T3_3 := Lib.hid (T3_2.out.below hb T3_2.out.lt)
    have T4_3 := Lib.hid (T4_2.out.below hb T4_2.out.lt)
    have B5 := Lib.hid (B4.out.trans (hb.mono B4.out.size))
    clear hb
    have c30 := T3_3.out.c0
    have c31 := T3_3.out.c1
    have c32 := T3_3.out.c2
    have c40 := T4_3.out.c0
    have c41 := T4_3.out.c1
    have c42 := T4_3.out.c2
    go_wp2
    go_ret
    exact ⟨rfl, B5.out⟩
  have sb : b.s.size ≤ 300 := by simpa [cfew] using gb
  rw [gb] at FB
  clear gb
  by_cases h100 : 300 < len2
  · dsimp only [Cel.v] at FA FB ⊢
    have B0 := Lib.hid (Below.refl w.heap.size w)
    have T3n := ClAt.new w a
    have T3 := Lib.hid (T3n)
    clear T3n
    have B1 := Lib.hid (B0.out.alloc B0.out.size (.cells #[.int .i64 a.n, .int .i64 a.r, .string a.s] 25))
    have T3' := Lib.hid (T3.out.old (.cells #[.int .i64 b.n, .int .i64 b.r, .string b.s] 25))
    have T4n := ClAt.new (w.alloc (.cells #[.int .i64 a.n, .int .i64 a.r, .string a.s] 25)) b
    simp only [World.size_alloc] at T4n
    have T4 := Lib.hid (T4n)
    clear T4n
    have B2 := Lib.hid (B1.out.alloc B1.out.size (.cells #[.int .i64 b.n, .int .i64 b.r, .string b.s] 25))
    go_enter Tryd.func3, Tryd.ntmps3
    go_wp2_with fail
    refine (clAwake _ (LD.out _ B2.out)).mono ?_
    rintro e w1 ⟨rfl, hb⟩
    have T3_1 := Lib.hid (T3'.out.below hb T3'.out.lt)
    have T4_1 := Lib.hid (T4.out.below hb T4.out.lt)
    have B3 := Lib.hid (B2.out.trans (hb.mono B2.out.size))
    clear hb
    have c30 := T3_1.out.c0
    have c31 := T3_1.out.c1
    have c32 := T3_1.out.c2
    have c40 := T4_1.out.c0
    have c41 := T4_1.out.c1
    have c42 := T4_1.out.c2
    go_wp2_with fail
    refine (FA.out _).mono ?_
    rintro e w2 ⟨rfl, hb⟩
    clear c30 c31 c32 c40 c41 c42
    have T3_2 := Lib.hid (T3_1.out.below hb T3_1.out.lt)
    have T4_2 := Lib.hid (T4_1.out.below hb T4_1.out.lt)
    have B4 := Lib.hid (B3.out.trans (hb.mono B3.out.size))
    clear hb
    have c30 := T3_2.out.c0
    have c31 := T3_2.out.c1
    have c32 := T3_2.out.c2
    have c40 := T4_2.out.c0
    have c41 := T4_2.out.c1
    have c42 := T4_2.out.c2
    go_wp2_with fail
    refine (FB.out _).mono ?_
    rintro e w3 ⟨rfl, hb⟩
    clear c30 c31 c32 c40 c41 c42
    have T3_3 := Lib.hid (T3_2.out.below hb T3_2.out.lt)
    have T4_3 := Lib.hid (T4_2.out.below hb T4_2.out.lt)
    have B5 := Lib.hid (B4.out.trans (hb.mono B4.out.size))
    clear hb
    have c30 := T3_3.out.c0
    have c31 := T3_3.out.c1
    have c32 := T3_3.out.c2
    have c40 := T4_3.out.c0
    have c41 := T4_3.out.c1
    have c42 := T4_3.out.c2
    go_wp2
    go_ret
    exact ⟨rfl, B5.out⟩
  obtain ⟨E, f, hE⟩ := cputG_of a
  have HP := Lib.hid (fun w => (cput_any a w).mono (hE w))
  have RP := Lib.hid (fun w => (rcput_any a w).mono (hE w))
  have C1 := Lib.hid (cmay_any a)
  have C2 := Lib.hid (rcmay_any a)
  have C3 := Lib.hid (fun (w : World) (hl : Laid w) => cless_any a b w hl sa sb)
  have C4 := Lib.hid (fun w => rcless_any a b w sa sb)
  have C5 := Lib.hid (fun (w : World) (hl : Laid w) => cjoin_any a b w hl sa sb)
  have C6 := Lib.hid (fun w => rcjoin_any a b w sa sb)
  clear sa sb
  generalize cless a b = l at *
  generalize cmay a = y at *
  generalize cjoin a b = j at *
  have EJ := Lib.hid (cl_same j)
  have EG := Lib.hid (cl_same g)
  dsimp only [Cel.v] at FA FB HP RP C1 C2 C3 C4 C5 C6 HG RG ⊢
  clear hE
  have B0 := Lib.hid (Below.refl w.heap.size w)
  have T3n := ClAt.new w a
  have T3 := Lib.hid (T3n)
  clear T3n
  have B1 := Lib.hid (B0.out.alloc B0.out.size (.cells #[.int .i64 a.n, .int .i64 a.r, .string a.s] 25))
  have T3' := Lib.hid (T3.out.old (.cells #[.int .i64 b.n, .int .i64 b.r, .string b.s] 25))
  have T4n := ClAt.new (w.alloc (.cells #[.int .i64 a.n, .int .i64 a.r, .string a.s] 25)) b
  simp only [World.size_alloc] at T4n
  have T4 := Lib.hid (T4n)
  clear T4n
  have B2 := Lib.hid (B1.out.alloc B1.out.size (.cells #[.int .i64 b.n, .int .i64 b.r, .string b.s] 25))
  go_enter Tryd.func3, Tryd.ntmps3
  go_wp2_with fail
  refine (clAwake _ (LD.out _ B2.out)).mono ?_
  rintro e w1 ⟨rfl, hb⟩
  have T3_1 := Lib.hid (T3'.out.below hb T3'.out.lt)
  have T4_1 := Lib.hid (T4.out.below hb T4.out.lt)
  have B3 := Lib.hid (B2.out.trans (hb.mono B2.out.size))
  clear hb
  have c30 := T3_1.out.c0
  have c31 := T3_1.out.c1
  have c32 := T3_1.out.c2
  have c40 := T4_1.out.c0
  have c41 := T4_1.out.c1
  have c42 := T4_1.out.c2
  go_wp2_with fail
  refine (FA.out _).mono ?_
  rintro e w2 ⟨rfl, hb⟩
  clear c30 c31 c32 c40 c41 c42
  have T3_2 := Lib.hid (T3_1.out.below hb T3_1.out.lt)
  have T4_2 := Lib.hid (T4_1.out.below hb T4_1.out.lt)
  have B4 := Lib.hid (B3.out.trans (hb.mono B3.out.size))
  clear hb
  have c30 := T3_2.out.c0
  have c31 := T3_2.out.c1
  have c32 := T3_2.out.c2
  have c40 := T4_2.out.c0
  have c41 := T4_2.out.c1
  have c42 := T4_2.out.c2
  go_wp2_with fail
  refine (FB.out _).mono ?_
  rintro e w3 ⟨rfl, hb⟩
  clear c30 c31 c32 c40 c41 c42
  have T3_3 := Lib.hid (T3_2.out.below hb T3_2.out.lt)
  have T4_3 := Lib.hid (T4_2.out.below hb T4_2.out.lt)
  have B5 := Lib.hid (B4.out.trans (hb.mono B4.out.size))
  clear hb
  have c30 := T3_3.out.c0
  have c31 := T3_3.out.c1
  have c32 := T3_3.out.c2
  have c40 := T4_3.out.c0
  have c41 := T4_3.out.c1
  have c42 := T4_3.out.c2
  go_wp2_with fail
  refine (HP.out _).mono ?_
  rintro e w4 ⟨A1, k1, c1, rfl, hk1, hy1, hkc1, hc1, hb⟩
  have HY1 := Lib.hid hy1
  have HK1 := Lib.hid hk1
  clear hy1 hk1
  simp only [maxLen] at hc1
  clear c30 c31 c32 c40 c41 c42
  have T3_4 := Lib.hid (T3_3.out.below hb T3_3.out.lt)
  have T4_4 := Lib.hid (T4_3.out.below hb T4_3.out.lt)
  have B6 := Lib.hid (B5.out.trans (hb.mono B5.out.size))
  clear hb
  have c30 := T3_4.out.c0
  have c31 := T3_4.out.c1
  have c32 := T3_4.out.c2
  go_wp2_with fail
  refine (RP.out _).mono ?_
  rintro e w5 ⟨A2, k2, c2, rfl, hk2, hy2, hkc2, hc2, hb⟩
  have HY1 := Lib.hid ((HY1.out.below hb).wide hb.size)
  have HY2 := Lib.hid hy2
  have HK2 := Lib.hid hk2
  clear hy2 hk2
  simp only [maxLen] at hc2
  clear c30 c31 c32
  have T3_5 := Lib.hid (T3_4.out.below hb T3_4.out.lt)
  have T4_5 := Lib.hid (T4_4.out.below hb T4_4.out.lt)
  have B7 := Lib.hid (B6.out.trans (hb.mono B6.out.size))
  clear hb
  go_wp2_with fail
  refine (HG.out _ B7.out).mono ?_
  rintro e w6 ⟨rfl, hb⟩
  have HY1 := Lib.hid ((HY1.out.below hb).wide hb.size)
  have HY2 := Lib.hid ((HY2.out.below hb).wide hb.size)
  have T3_6 := Lib.hid (T3_5.out.below hb T3_5.out.lt)
  have T4_6 := Lib.hid (T4_5.out.below hb T4_5.out.lt)
  have B8 := Lib.hid (B7.out.trans (hb.mono B7.out.size))
  clear hb
  have HY1 := Lib.hid ((HY1.out.below ((Below.refl w6.heap.size w6).alloc (Nat.le_refl _) (.cells #[.int .i64 g.n, .int .i64 g.r, .string g.s] 25))).wide (by rw [World.size_alloc]; omega : w6.heap.size ≤ (w6.alloc (.cells #[.int .i64 g.n, .int .i64 g.r, .string g.s] 25)).heap.size))
  have HY2 := Lib.hid ((HY2.out.below ((Below.refl w6.heap.size w6).alloc (Nat.le_refl _) (.cells #[.int .i64 g.n, .int .i64 g.r, .string g.s] 25))).wide (by rw [World.size_alloc]; omega : w6.heap.size ≤ (w6.alloc (.cells #[.int .i64 g.n, .int .i64 g.r, .string g.s] 25)).heap.size))
  have T3_6' := Lib.hid (T3_6.out.old (.cells #[.int .i64 g.n, .int .i64 g.r, .string g.s] 25))
  have T4_6' := Lib.hid (T4_6.out.old (.cells #[.int .i64 g.n, .int .i64 g.r, .string g.s] 25))
  have T14n := ClAt.new w6 g
  have T14 := Lib.hid (T14n)
  clear T14n
  have B9 := Lib.hid (B8.out.alloc B8.out.size (.cells #[.int .i64 g.n, .int .i64 g.r, .string g.s] 25))
  go_wp2_with fail
  refine (RG.out _ B9.out).mono ?_
  rintro e w7 ⟨rfl, hb⟩
  have HY1 := Lib.hid ((HY1.out.below hb).wide hb.size)
  have HY2 := Lib.hid ((HY2.out.below hb).wide hb.size)
  have T3_7 := Lib.hid (T3_6'.out.below hb T3_6'.out.lt)
  have T4_7 := Lib.hid (T4_6'.out.below hb T4_6'.out.lt)
  have T14_7 := Lib.hid (T14.out.below hb T14.out.lt)
  have B10 := Lib.hid (B9.out.trans (hb.mono B9.out.size))
  clear hb
  have HY1 := Lib.hid ((HY1.out.below ((Below.refl w7.heap.size w7).alloc (Nat.le_refl _) (.cells #[.int .i64 g.n, .int .i64 g.r, .string g.s] 25))).wide (by rw [World.size_alloc]; omega : w7.heap.size ≤ (w7.alloc (.cells #[.int .i64 g.n, .int .i64 g.r, .string g.s] 25)).heap.size))
  have HY2 := Lib.hid ((HY2.out.below ((Below.refl w7.heap.size w7).alloc (Nat.le_refl _) (.cells #[.int .i64 g.n, .int .i64 g.r, .string g.s] 25))).wide (by rw [World.size_alloc]; omega : w7.heap.size ≤ (w7.alloc (.cells #[.int .i64 g.n, .int .i64 g.r, .string g.s] 25)).heap.size))
  have T3_7' := Lib.hid (T3_7.out.old (.cells #[.int .i64 g.n, .int .i64 g.r, .string g.s] 25))
  have T4_7' := Lib.hid (T4_7.out.old (.cells #[.int .i64 g.n, .int .i64 g.r, .string g.s] 25))
  have T14_7' := Lib.hid (T14_7.out.old (.cells #[.int .i64 g.n, .int .i64 g.r, .string g.s] 25))
  have T17n := ClAt.new w7 g
  have T17 := Lib.hid (T17n)
  clear T17n
  have B11 := Lib.hid (B10.out.alloc B10.out.size (.cells #[.int .i64 g.n, .int .i64 g.r, .string g.s] 25))
  go_wp2_with fail
  have LE := Lib.hid (fun (w9 : World) (hS : Below (w7.alloc (.cells #[.int .i64 g.n, .int .i64 g.r, .string g.s] 25)).heap.size (w7.alloc (.cells #[.int .i64 g.n, .int .i64 g.r, .string g.s] 25)) w9) => LD.out w9 (B11.out.trans (hS.mono B11.out.size)))
  refine wp_region_G (w7.alloc (.cells #[.int .i64 g.n, .int .i64 g.r, .string g.s] 25)) (by kernel_rfl) ?_
  refine wpG_take (i := 0) (oi := ⟨some 64, _, _, _, _, _⟩) (v := ?_) rfl (by kernel_rfl) (by kernel_rfl) (by kernel_rfl) (Or.inl ⟨by rfl, unib_val ?_⟩) ?_; rotate_left; (focus (intro w9 hSw; have q9 := T3_7'.out.below hSw T3_7'.out.lt; have q0 := q9.c0; have q1 := q9.c1; have q2 := q9.c2; go_simp; try with_reducible rfl)); simp only [Act.put, List.setIfInBounds_toArray, List.set_cons_zero, List.set_cons_succ]
  refine wpG_take (i := 1) (oi := ⟨some 65, _, _, _, _, _⟩) rfl (by kernel_rfl) (by kernel_rfl) (by kernel_rfl) (Or.inl ⟨by rfl, unib_call ?_ C1.out⟩) ?_; (focus (intro w9 hSw; go_simp; try with_reducible rfl)); simp only [Act.put, List.setIfInBounds_toArray, List.set_cons_zero, List.set_cons_succ]
  refine wpG_take (i := 2) (oi := ⟨some 66, _, _, _, _, _⟩) (v := ?_) rfl (by kernel_rfl) (by kernel_rfl) (by kernel_rfl) (Or.inl ⟨by rfl, unib_val ?_⟩) ?_; rotate_left; (focus (intro w9 hSw; have q9 := T3_7'.out.below hSw T3_7'.out.lt; have q0 := q9.c0; have q1 := q9.c1; have q2 := q9.c2; go_simp; try with_reducible rfl)); simp only [Act.put, List.setIfInBounds_toArray, List.set_cons_zero, List.set_cons_succ]
  refine wpG_take (i := 3) (oi := ⟨some 67, _, _, _, _, _⟩) rfl (by kernel_rfl) (by kernel_rfl) (by kernel_rfl) (Or.inl ⟨by rfl, unib_call ?_ C2.out⟩) ?_; (focus (intro w9 hSw; go_simp; try with_reducible rfl)); simp only [Act.put, List.setIfInBounds_toArray, List.set_cons_zero, List.set_cons_succ]
  refine wpG_take (i := 4) (oi := ⟨some 68, _, _, _, _, _⟩) (v := ?_) rfl (by kernel_rfl) (by kernel_rfl) (by kernel_rfl) (Or.inl ⟨by rfl, unib_val ?_⟩) ?_; rotate_left; (focus (intro w9 hSw; go_simp; try with_reducible rfl)); simp only [Act.put, List.setIfInBounds_toArray, List.set_cons_zero, List.set_cons_succ]
  refine wpG_take (i := 5) (oi := ⟨some 69, _, _, _, _, _⟩) (v := ?_) rfl (by kernel_rfl) (by kernel_rfl) (by kernel_rfl) (Or.inl ⟨by rfl, unib_val ?_⟩) ?_; rotate_left; (focus (intro w9 hSw; go_simp; try with_reducible rfl)); simp only [Act.put, List.setIfInBounds_toArray, List.set_cons_zero, List.set_cons_succ]
  refine wpG_take (i := 6) (oi := ⟨some 70, _, _, _, _, _⟩) (v := ?_) rfl (by kernel_rfl) (by kernel_rfl) (by kernel_rfl) (Or.inl ⟨by rfl, unib_val ?_⟩) ?_; rotate_left; (focus (intro w9 hSw; have q9 := T3_7'.out.below hSw T3_7'.out.lt; have q0 := q9.c0; have q1 := q9.c1; have q2 := q9.c2; go_simp; try with_reducible rfl)); simp only [Act.put, List.setIfInBounds_toArray, List.set_cons_zero, List.set_cons_succ]
  refine wpG_take (i := 7) (oi := ⟨some 71, _, _, _, _, _⟩) (v := ?_) rfl (by kernel_rfl) (by kernel_rfl) (by kernel_rfl) (Or.inl ⟨by rfl, unib_val ?_⟩) ?_; rotate_left; (focus (intro w9 hSw; have q9 := T4_7'.out.below hSw T4_7'.out.lt; have q0 := q9.c0; have q1 := q9.c1; have q2 := q9.c2; go_simp; try with_reducible rfl)); simp only [Act.put, List.setIfInBounds_toArray, List.set_cons_zero, List.set_cons_succ]
  refine wpG_take (i := 8) (oi := ⟨some 72, _, _, _, _, _⟩) rfl (by kernel_rfl) (by kernel_rfl) (by kernel_rfl) (Or.inl ⟨by rfl, unib_call_if ?_ (fun w9 hSw => C3.out w9 (LE.out w9 hSw))⟩) ?_; (focus (intro w9 hSw; go_simp; try with_reducible rfl)); simp only [Act.put, List.setIfInBounds_toArray, List.set_cons_zero, List.set_cons_succ]
  refine wpG_take (i := 9) (oi := ⟨some 73, _, _, _, _, _⟩) (v := ?_) rfl (by kernel_rfl) (by kernel_rfl) (by kernel_rfl) (Or.inl ⟨by rfl, unib_val ?_⟩) ?_; rotate_left; (focus (intro w9 hSw; have q9 := T3_7'.out.below hSw T3_7'.out.lt; have q0 := q9.c0; have q1 := q9.c1; have q2 := q9.c2; go_simp; try with_reducible rfl)); simp only [Act.put, List.setIfInBounds_toArray, List.set_cons_zero, List.set_cons_succ]
  refine wpG_take (i := 10) (oi := ⟨some 74, _, _, _, _, _⟩) (v := ?_) rfl (by kernel_rfl) (by kernel_rfl) (by kernel_rfl) (Or.inl ⟨by rfl, unib_val ?_⟩) ?_; rotate_left; (focus (intro w9 hSw; have q9 := T4_7'.out.below hSw T4_7'.out.lt; have q0 := q9.c0; have q1 := q9.c1; have q2 := q9.c2; go_simp; try with_reducible rfl)); simp only [Act.put, List.setIfInBounds_toArray, List.set_cons_zero, List.set_cons_succ]
  refine wpG_take (i := 11) (oi := ⟨some 75, _, _, _, _, _⟩) rfl (by kernel_rfl) (by kernel_rfl) (by kernel_rfl) (Or.inl ⟨by rfl, unib_call ?_ C4.out⟩) ?_; (focus (intro w9 hSw; go_simp; try with_reducible rfl)); simp only [Act.put, List.setIfInBounds_toArray, List.set_cons_zero, List.set_cons_succ]
  refine wpG_take (i := 12) (oi := ⟨some 76, _, _, _, _, _⟩) (v := ?_) rfl (by kernel_rfl) (by kernel_rfl) (by kernel_rfl) (Or.inl ⟨by rfl, unib_val ?_⟩) ?_; rotate_left; (focus (intro w9 hSw; go_simp; try with_reducible rfl)); simp only [Act.put, List.setIfInBounds_toArray, List.set_cons_zero, List.set_cons_succ]
  refine wpG_take (i := 13) (oi := ⟨some 77, _, _, _, _, _⟩) (v := ?_) rfl (by kernel_rfl) (by kernel_rfl) (by kernel_rfl) (Or.inl ⟨by rfl, unib_val ?_⟩) ?_; rotate_left; (focus (intro w9 hSw; go_simp; try with_reducible rfl)); simp only [Act.put, List.setIfInBounds_toArray, List.set_cons_zero, List.set_cons_succ]
  refine wpG_take (i := 14) (oi := ⟨some 78, _, _, _, _, _⟩) (v := ?_) rfl (by kernel_rfl) (by kernel_rfl) (by kernel_rfl) (Or.inl ⟨by rfl, unib_val ?_⟩) ?_; rotate_left; (focus (intro w9 hSw; go_simp; try with_reducible rfl)); simp only [Act.put, List.setIfInBounds_toArray, List.set_cons_zero, List.set_cons_succ]
  refine wpG_take (i := 15) (oi := ⟨some 79, _, _, _, _, _⟩) (v := ?_) rfl (by kernel_rfl) (by kernel_rfl) (by kernel_rfl) (Or.inl ⟨by rfl, unib_val ?_⟩) ?_; rotate_left; (focus (intro w9 hSw; have q9 := T3_7'.out.below hSw T3_7'.out.lt; have q0 := q9.c0; have q1 := q9.c1; have q2 := q9.c2; go_simp; try with_reducible rfl)); simp only [Act.put, List.setIfInBounds_toArray, List.set_cons_zero, List.set_cons_succ]
  refine wpG_take (i := 16) (oi := ⟨some 80, _, _, _, _, _⟩) (v := ?_) rfl (by kernel_rfl) (by kernel_rfl) (by kernel_rfl) (Or.inl ⟨by rfl, unib_val ?_⟩) ?_; rotate_left; (focus (intro w9 hSw; have q9 := T4_7'.out.below hSw T4_7'.out.lt; have q0 := q9.c0; have q1 := q9.c1; have q2 := q9.c2; go_simp; try with_reducible rfl)); simp only [Act.put, List.setIfInBounds_toArray, List.set_cons_zero, List.set_cons_succ]
  refine wpG_take (i := 17) (oi := ⟨some 81, _, _, _, _, _⟩) rfl (by kernel_rfl) (by kernel_rfl) (by kernel_rfl) (Or.inl ⟨by rfl, unib_call_if ?_ (fun w9 hSw => C5.out w9 (LE.out w9 hSw))⟩) ?_; (focus (intro w9 hSw; go_simp; try with_reducible rfl)); simp only [Act.put, List.setIfInBounds_toArray, List.set_cons_zero, List.set_cons_succ]
  refine wpG_take (i := 18) (oi := ⟨some 82, _, _, _, _, _⟩) (v := ?_) rfl (by kernel_rfl) (by kernel_rfl) (by kernel_rfl) (Or.inl ⟨by rfl, unib_val ?_⟩) ?_; rotate_left; (focus (intro w9 hSw; have q9 := T3_7'.out.below hSw T3_7'.out.lt; have q0 := q9.c0; have q1 := q9.c1; have q2 := q9.c2; go_simp; try with_reducible rfl)); simp only [Act.put, List.setIfInBounds_toArray, List.set_cons_zero, List.set_cons_succ]
  refine wpG_take (i := 19) (oi := ⟨some 83, _, _, _, _, _⟩) (v := ?_) rfl (by kernel_rfl) (by kernel_rfl) (by kernel_rfl) (Or.inl ⟨by rfl, unib_val ?_⟩) ?_; rotate_left; (focus (intro w9 hSw; have q9 := T4_7'.out.below hSw T4_7'.out.lt; have q0 := q9.c0; have q1 := q9.c1; have q2 := q9.c2; go_simp; try with_reducible rfl)); simp only [Act.put, List.setIfInBounds_toArray, List.set_cons_zero, List.set_cons_succ]
  refine wpG_take (i := 20) (oi := ⟨some 84, _, _, _, _, _⟩) rfl (by kernel_rfl) (by kernel_rfl) (by kernel_rfl) (Or.inl ⟨by rfl, unib_call ?_ C6.out⟩) ?_; (focus (intro w9 hSw; go_simp; try with_reducible rfl)); simp only [Act.put, List.setIfInBounds_toArray, List.set_cons_zero, List.set_cons_succ]
  refine wpG_take (i := 21) (oi := ⟨some 85, _, _, _, _, _⟩) (v := ?_) rfl (by kernel_rfl) (by kernel_rfl) (by kernel_rfl) (Or.inl ⟨by rfl, unib_val ?_⟩) ?_; rotate_left; (focus (intro w9 hSw; have q0 := EJ.out w9; go_simp; try with_reducible rfl)); simp only [Act.put, List.setIfInBounds_toArray, List.set_cons_zero, List.set_cons_succ]
  refine wpG_take (i := 22) (oi := ⟨some 86, _, _, _, _, _⟩) (v := ?_) rfl (by kernel_rfl) (by kernel_rfl) (by kernel_rfl) (Or.inl ⟨by rfl, unib_val ?_⟩) ?_; rotate_left; (focus (intro w9 hSw; go_simp; try with_reducible rfl)); simp only [Act.put, List.setIfInBounds_toArray, List.set_cons_zero, List.set_cons_succ]
  refine wpG_take (i := 23) (oi := ⟨some 20, _, _, _, _, _⟩) (v := ?_) rfl (by kernel_rfl) (by kernel_rfl) (by kernel_rfl) (Or.inl ⟨by rfl, unib_val ?_⟩) ?_; rotate_left; (focus (intro w9 hSw; go_simp; try with_reducible rfl)); simp only [Act.put, List.setIfInBounds_toArray, List.set_cons_zero, List.set_cons_succ]
  refine wpG_done (by kernel_rfl) ?_ _
  intro w9 hb hO
  have HB9 := Lib.hid hb
  have x1 := (HY1.out.below HB9.out).text (P := Tryd.prog) (cap := c1) HK1.out 26 5 9 Tryd.underlying26 Tryd.underlying5 Tryd.underlying9
  have x2 := (HY2.out.below HB9.out).text (P := Tryd.prog) (cap := c2) HK2.out 26 5 9 Tryd.underlying26 Tryd.underlying5 Tryd.underlying9
  have hcmp := str_same E
  have eg := EG.out w9
  generalize strOfNums E = Sx at *
  have T3_8 := Lib.hid (T3_7'.out.below hb T3_7'.out.lt)
  have T4_8 := Lib.hid (T4_7'.out.below hb T4_7'.out.lt)
  have T14_8 := Lib.hid (T14_7'.out.below hb T14_7'.out.lt)
  have T17_8 := Lib.hid (T17.out.below hb T17.out.lt)
  have B12 := Lib.hid (B11.out.trans (hb.mono B11.out.size))
  clear hb
  have c140 := T14_8.out.c0
  have c141 := T14_8.out.c1
  have c142 := T14_8.out.c2
  have c170 := T17_8.out.c0
  have c171 := T17_8.out.c1
  have c172 := T17_8.out.c2
  go_wp2
  go_ret
  exact ⟨rfl, B12.out⟩
end Go.Proofs.YtonbhcbkelmhgaaDoor
