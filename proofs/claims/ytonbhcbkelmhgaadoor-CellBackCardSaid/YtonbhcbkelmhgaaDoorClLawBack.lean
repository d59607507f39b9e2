/-
  The law CellBack: for every cell and all bytes it answers true, and nothing that was there is written.
-/
import Derived.Test.YtonbhcbkelmhgaaDoorClAwake
import Derived.Test.YtonbhcbkelmhgaaDoorClArgs
import Derived.Test.YtonbhcbkelmhgaaDoorClBytes
import Derived.Test.YtonbhcbkelmhgaaDoorUniG
namespace Go.Proofs.YtonbhcbkelmhgaaDoor
open Go.RowKit WM
set_option linter.unusedVariables false
set_option maxRecDepth 20000
set_option maxHeartbeats 8000000 in
theorem walk_cellBack (a : Cel) (a1 : Option Addr) (len1 cap1 : Nat) (z1 : List Int) (w : World) (hlaid : Laid w) (ha : IsCel a) (w1 : IsRow .u8 w a1 len1 cap1 z1) :
    Calls Tryd.prog 4 #[a.v, .slice a1 len1 cap1] w fun e w' => e = .returned (.bool true) ∧ Below w.heap.size w w' := by
  obtain ⟨hby, hlen, hbs, hlc, hcm⟩ := w1.byt
  have hnil := row_nil w1
  have HCM := Lib.hid hcm
  simp only [maxLen] at hcm
  have LD := Lib.hid (fun (X : World) (hX : Below w.heap.size w X) => hlaid.below hX (Nat.le_refl _))
  clear w1 ha hlaid
  generalize z1.take len1 = zs at hby hlen hbs
  have HY := Lib.hid hby
  have HL := Lib.hid hlen
  have HS := Lib.hid hbs
  have HN := Lib.hid hnil
  have HG := Lib.hid (fun (w' : World) (hw : Below w.heap.size w w') => cget_any a1 len1 cap1 zs w' (HY.out.below hw) hw.size HL.out HS.out hlc HCM.out)
  obtain ⟨F, cv, hF⟩ := cvt_ex
  have HF := Lib.hid hF
  have CV := Lib.hid cv
  obtain ⟨i0, hi, hz0, hz1, hz2⟩ := info_parts infoByte
  clear hby hlen hbs hnil cv hF
  have FA := Lib.hid (few_any a)
  cases ga : cfew a
  · rw [ga] at FA
    clear ga
    dsimp only [Cel.v] at FA ⊢
    have B0 := Lib.hid (Below.refl w.heap.size w)
    have T2n := ClAt.new w a
    have T2 := Lib.hid (T2n)
    clear T2n
    have B1 := Lib.hid (B0.out.alloc B0.out.size (.cells #[.int .i64 a.n, .int .i64 a.r, .string a.s] 25))
    go_enter Tryd.func4, Tryd.ntmps4
    go_wp2_with fail
    refine (clAwake _ (LD.out _ B1.out)).mono ?_
    rintro e w1 ⟨rfl, hb⟩
    have T2_1 := Lib.hid (T2.out.below hb T2.out.lt)
    have B2 := Lib.hid (B1.out.trans (hb.mono B1.out.size))
    clear hb
    have c20 := T2_1.out.c0
    have c21 := T2_1.out.c1
    have c22 := T2_1.out.c2
    go_wp2_with fail
    refine (FA.out _).mono ?_
    rintro e w2 ⟨rfl, hb⟩
    clear c20 c21 c22
    have T2_2 := Lib.hid (T2_1.out.below hb T2_1.out.lt)
    have B3 := Lib.hid (B2.out.trans (hb.mono B2.out.size))
    clear hb
    go_wp2
    go_ret
    exact ⟨rfl, B3.out⟩
  rw [ga] at FA
  clear ga
  by_cases h100 : 300 < len1
  · dsimp only [Cel.v] at FA ⊢
    have B0 := Lib.hid (Below.refl w.heap.size w)
    have T2n := ClAt.new w a
    have T2 := Lib.hid (T2n)
    clear T2n
    have B1 := Lib.hid (B0.out.alloc B0.out.size (.cells #[.int .i64 a.n, .int .i64 a.r, .string a.s] 25))
    go_enter Tryd.func4, Tryd.ntmps4
    go_wp2_with fail
    refine (clAwake _ (LD.out _ B1.out)).mono ?_
    rintro e w1 ⟨rfl, hb⟩
    have T2_1 := Lib.hid (T2.out.below hb T2.out.lt)
    have B2 := Lib.hid (B1.out.trans (hb.mono B1.out.size))
    clear hb
    have c20 := T2_1.out.c0
    have c21 := T2_1.out.c1
    have c22 := T2_1.out.c2
    go_wp2_with fail
    refine (FA.out _).mono ?_
    rintro e w2 ⟨rfl, hb⟩
    clear c20 c21 c22
    have T2_2 := Lib.hid (T2_1.out.below hb T2_1.out.lt)
    have B3 := Lib.hid (B2.out.trans (hb.mono B2.out.size))
    clear hb
    go_wp2
    go_ret
    exact ⟨rfl, B3.out⟩
  have HM := Lib.hid (cmay_any a)
  have HP := Lib.hid (cput_any a)
  unfold CPutPost at HP
  cases hm : cmay a
  · rw [hm] at HM HP
    simp only [Bool.false_eq_true, if_false] at HP
    dsimp only [Cel.v] at FA HM HP ⊢
    clear hm
    have B0 := Lib.hid (Below.refl w.heap.size w)
    have T2n := ClAt.new w a
    have T2 := Lib.hid (T2n)
    clear T2n
    have B1 := Lib.hid (B0.out.alloc B0.out.size (.cells #[.int .i64 a.n, .int .i64 a.r, .string a.s] 25))
    go_enter Tryd.func4, Tryd.ntmps4
    go_wp2_with fail
    refine (clAwake _ (LD.out _ B1.out)).mono ?_
    rintro e w1 ⟨rfl, hb⟩
    have T2_1 := Lib.hid (T2.out.below hb T2.out.lt)
    have B2 := Lib.hid (B1.out.trans (hb.mono B1.out.size))
    clear hb
    have c20 := T2_1.out.c0
    have c21 := T2_1.out.c1
    have c22 := T2_1.out.c2
    go_wp2_with fail
    refine (FA.out _).mono ?_
    rintro e w2 ⟨rfl, hb⟩
    clear c20 c21 c22
    have T2_2 := Lib.hid (T2_1.out.below hb T2_1.out.lt)
    have B3 := Lib.hid (B2.out.trans (hb.mono B2.out.size))
    clear hb
    have c20 := T2_2.out.c0
    have c21 := T2_2.out.c1
    have c22 := T2_2.out.c2
    go_wp2_with fail
    refine (HP.out _).mono ?_
    rintro e w3 ⟨rfl, hb⟩
    clear c20 c21 c22
    have T2_3 := Lib.hid (T2_2.out.below hb T2_2.out.lt)
    have B4 := Lib.hid (B3.out.trans (hb.mono B3.out.size))
    clear hb
    have c20 := T2_3.out.c0
    have c21 := T2_3.out.c1
    have c22 := T2_3.out.c2
    go_wp2_with fail
    refine (HM.out _).mono ?_
    rintro e w4 ⟨rfl, hb⟩
    clear c20 c21 c22
    have T2_4 := Lib.hid (T2_3.out.below hb T2_3.out.lt)
    have B5 := Lib.hid (B4.out.trans (hb.mono B4.out.size))
    clear hb
    go_wp2_with fail
    refine (HG.out _ B5.out).mono ?_
    cases hO : cget zs with
    | none =>
      rintro e w5 ⟨rfl, hb⟩
      have B6 := Lib.hid (B5.out.trans (hb.mono B5.out.size))
      clear hb
      dsimp only [cgetV, Cel.v, cel0]
      have EZ := cl_same cel0
      dsimp only [cel0] at EZ
      have T12n := ClAt.new w5 cel0
      try dsimp only at T12n
      have T12 := Lib.hid (T12n)
      clear T12n
      have B7 := Lib.hid (B6.out.alloc B6.out.size (.cells #[.int .i64 0, .int .i64 0, .string ⟨#[]⟩] 25))
      go_wp2
      go_ret
      exact ⟨rfl, B7.out⟩
    | some o =>
      obtain ⟨c9, k9⟩ := o
      obtain ⟨q1, q2, q3⟩ := cget_some HS.out hO
      rintro e w5 ⟨rfl, hb⟩
      have B6 := Lib.hid (B5.out.trans (hb.mono B5.out.size))
      clear hb
      dsimp only [cgetV, Cel.v]
      rw [HL.out] at q2
      have HPX := Lib.hid (cput_any c9)
      unfold CPutPost at HPX
      rw [q1, q3] at HPX
      simp only [if_true] at HPX
      dsimp only [Cel.v] at HPX
      clear q1 q3 hO
      have T12n := ClAt.new w5 c9
      have T12 := Lib.hid (T12n)
      clear T12n
      have B7 := Lib.hid (B6.out.alloc B6.out.size (.cells #[.int .i64 c9.n, .int .i64 c9.r, .string c9.s] 25))
      have c120 := T12.out.c0
      have c121 := T12.out.c1
      have c122 := T12.out.c2
      go_wp2_with fail
      refine (HPX.out _).mono ?_
      rintro e w6 ⟨A8, n8, c8, rfl, hn8, hnc8, hcm8, own8, hb⟩
      clear c120 c121 c122
      have T12_6 := Lib.hid (T12.out.below hb T12.out.lt)
      have B8 := Lib.hid (B7.out.trans (hb.mono B7.out.size))
      clear hb
      have HY6 := Lib.hid (Byt.own (zs := zs.take k9) own8)
      have HN6 := Lib.hid hn8
      have HY7 := Lib.hid ((HY.out.below B8.out).take k9)
      have HN7 := Lib.hid (show (zs.take k9).length = k9 by rw [List.length_take, HL.out]; omega)
      have HLE := Lib.hid (show decide ((k9 : Int) ≤ len1) = true by simp; omega)
      have HSL := Lib.hid (sl_h a1 len1 cap1 k9 (by omega) (k9 : Int) rfl)
      clear own8 hn8
      simp only [maxLen] at hcm8
      go_wp2_with fail
      have cv := CV.out
      refine wp_region_G w6 (by kernel_rfl) ?_
      refine wpG_take (i := 0) (oi := ⟨some 84, _, _, _, _, _⟩) (v := ?_) rfl (by kernel_rfl) (by kernel_rfl) (by kernel_rfl) (Or.inl ⟨by rfl, unib_val ?_⟩) ?_; rotate_left; (focus (intro w9 hSw; go_simp; try with_reducible rfl)); simp only [Act.put, List.setIfInBounds_toArray, List.set_cons_zero, List.set_cons_succ]
      refine wpG_take (i := 1) (oi := ⟨some 85, _, _, _, _, _⟩) (v := ?_) rfl (by kernel_rfl) (by kernel_rfl) (by kernel_rfl) (Or.inl ⟨by rfl, unib_val ?_⟩) ?_; rotate_left; (focus (intro w9 hSw; go_simp; try with_reducible rfl)); simp only [Act.put, List.setIfInBounds_toArray, List.set_cons_zero, List.set_cons_succ]
      refine wpG_take (i := 2) (oi := ⟨some 86, _, _, _, _, _⟩) (v := ?_) rfl (by kernel_rfl) (by kernel_rfl) (by kernel_rfl) (Or.inl ⟨by rfl, unib_val ?_⟩) ?_; rotate_left; (focus (intro w9 hSw; go_simp; try with_reducible rfl)); simp only [Act.put, List.setIfInBounds_toArray, List.set_cons_zero, List.set_cons_succ]
      refine wpG_take (i := 3) (oi := ⟨some 87, _, _, _, _, _⟩) (v := ?_) rfl (by kernel_rfl) (by kernel_rfl) (by kernel_rfl) (Or.inl ⟨by rfl, unib_val ?_⟩) ?_; rotate_left; (focus (intro w9 hSw; go_simp; try with_reducible rfl)); simp only [Act.put, List.setIfInBounds_toArray, List.set_cons_zero, List.set_cons_succ]
      refine wpG_take (i := 4) (oi := ⟨some 88, _, _, _, _, _⟩) (v := ?_) rfl (by kernel_rfl) (by kernel_rfl) (by kernel_rfl) (Or.inl ⟨by rfl, unib_val ?_⟩) ?_; rotate_left; (focus (intro w9 hSw; go_simp; try with_reducible rfl)); simp only [Act.put, List.setIfInBounds_toArray, List.set_cons_zero, List.set_cons_succ]
      refine wpG_take (i := 5) (oi := ⟨some 89, _, _, _, _, _⟩) (v := ?_) rfl (by kernel_rfl) (by kernel_rfl) (by kernel_rfl) (Or.inl ⟨by rfl, unib_val ?_⟩) ?_; rotate_left; (focus (intro w9 hSw; have s9 := HLE.out; go_simp; try with_reducible rfl)); simp only [Act.put, List.setIfInBounds_toArray, List.set_cons_zero, List.set_cons_succ]
      refine wpG_take (i := 6) (oi := ⟨some 90, _, _, _, _, _⟩) (v := ?_) rfl (by kernel_rfl) (by kernel_rfl) (by kernel_rfl) (Or.inl ⟨by rfl, unib_val ?_⟩) ?_; rotate_left; (focus (intro w9 hSw; go_simp; try with_reducible rfl)); simp only [Act.put, List.setIfInBounds_toArray, List.set_cons_zero, List.set_cons_succ]
      refine wpG_take (i := 7) (oi := ⟨some 91, _, _, _, _, _⟩) (v := ?_) rfl (by kernel_rfl) (by kernel_rfl) (by kernel_rfl) (Or.inl ⟨by rfl, unib_val ?_⟩) ?_; rotate_left; (focus (intro w9 hSw; go_simp; try with_reducible rfl)); simp only [Act.put, List.setIfInBounds_toArray, List.set_cons_zero, List.set_cons_succ]
      refine wpG_take (i := 8) (oi := ⟨some 92, _, _, _, _, _⟩) (v := ?_) rfl (by kernel_rfl) (by kernel_rfl) (by kernel_rfl) (Or.inl ⟨by rfl, unib_val ?_⟩) ?_; rotate_left; (focus (intro w9 hSw; go_simp; try with_reducible rfl)); simp only [Act.put, List.setIfInBounds_toArray, List.set_cons_zero, List.set_cons_succ]
      refine wpG_take (i := 9) (oi := ⟨some 93, _, _, _, _, _⟩) (v := ?_) rfl (by kernel_rfl) (by kernel_rfl) (by kernel_rfl) (Or.inl ⟨by rfl, unib_val ?_⟩) ?_; rotate_left; (focus (intro w9 hSw; have t9 := HF.out w9 _ _ _ (HY6.out.below hSw) n8 c8 HN6.out; go_simp; try with_reducible rfl)); simp only [Act.put, List.setIfInBounds_toArray, List.set_cons_zero, List.set_cons_succ]
      refine wpG_take (i := 10) (oi := ⟨some 94, _, _, _, _, _⟩) (v := ?_) rfl (by kernel_rfl) (by kernel_rfl) (by kernel_rfl) (Or.inl ⟨by rfl, unib_val ?_⟩) ?_; rotate_left; (focus (intro w9 hSw; go_simp; try with_reducible rfl)); simp only [Act.put, List.setIfInBounds_toArray, List.set_cons_zero, List.set_cons_succ]
      refine wpG_take (i := 11) (oi := ⟨some 95, _, _, _, _, _⟩) (v := ?_) rfl (by kernel_rfl) (by kernel_rfl) (by kernel_rfl) (Or.inl ⟨by rfl, unib_val ?_⟩) ?_; rotate_left; (focus (intro w9 hSw; go_simp; try with_reducible rfl)); simp only [Act.put, List.setIfInBounds_toArray, List.set_cons_zero, List.set_cons_succ]
      refine wpG_take (i := 12) (oi := ⟨some 96, _, _, _, _, _⟩) (v := ?_) rfl (by kernel_rfl) (by kernel_rfl) (by kernel_rfl) (Or.inl ⟨by rfl, unib_val ?_⟩) ?_; rotate_left; (focus (intro w9 hSw; have s9 := HSL.out w9; go_simp; try with_reducible rfl)); simp only [Act.put, List.setIfInBounds_toArray, List.set_cons_zero, List.set_cons_succ]
      refine wpG_take (i := 13) (oi := ⟨some 97, _, _, _, _, _⟩) (v := ?_) rfl (by kernel_rfl) (by kernel_rfl) (by kernel_rfl) (Or.inl ⟨by rfl, unib_val ?_⟩) ?_; rotate_left; (focus (intro w9 hSw; have t9 := HF.out w9 _ _ _ (HY7.out.below (hSw.mono B8.out.size)) k9 cap1 HN7.out; go_simp; try with_reducible rfl)); simp only [Act.put, List.setIfInBounds_toArray, List.set_cons_zero, List.set_cons_succ]
      refine wpG_take (i := 14) (oi := ⟨some 98, _, _, _, _, _⟩) (v := ?_) rfl (by kernel_rfl) (by kernel_rfl) (by kernel_rfl) (Or.inl ⟨by rfl, unib_val ?_⟩) ?_; rotate_left; (focus (intro w9 hSw; go_simp; try with_reducible rfl)); simp only [Act.put, List.setIfInBounds_toArray, List.set_cons_zero, List.set_cons_succ]
      refine wpG_take (i := 15) (oi := ⟨some 99, _, _, _, _, _⟩) (v := ?_) rfl (by kernel_rfl) (by kernel_rfl) (by kernel_rfl) (Or.inl ⟨by rfl, unib_val ?_⟩) ?_; rotate_left; (focus (intro w9 hSw; go_simp; try with_reducible rfl)); simp only [Act.put, List.setIfInBounds_toArray, List.set_cons_zero, List.set_cons_succ]
      refine wpG_take (i := 16) (oi := ⟨some 4, _, _, _, _, _⟩) (v := ?_) rfl (by kernel_rfl) (by kernel_rfl) (by kernel_rfl) (Or.inl ⟨by rfl, unib_val ?_⟩) ?_; rotate_left; (focus (intro w9 hSw; go_simp; try with_reducible rfl)); simp only [Act.put, List.setIfInBounds_toArray, List.set_cons_zero, List.set_cons_succ]
      refine wpG_done (by kernel_rfl) ?_ _
      intro w9 hSw hO
      clear cv
      go_wp2
      go_ret
      exact ⟨rfl, B8.out.trans (hSw.mono B8.out.size)⟩
  · have HOK := Lib.hid (cget_put a zs hm)
    rw [hm] at HM HP
    simp only [if_true] at HP
    have HEB := Lib.hid (cenc_bytes a)
    have HE := Lib.hid (cenc_len a (cmay_iff.1 hm).2.2).1
    dsimp only [Cel.v] at FA HM HP ⊢
    clear hm
    generalize cenc a = E at *
    have B0 := Lib.hid (Below.refl w.heap.size w)
    have T2n := ClAt.new w a
    have T2 := Lib.hid (T2n)
    clear T2n
    have B1 := Lib.hid (B0.out.alloc B0.out.size (.cells #[.int .i64 a.n, .int .i64 a.r, .string a.s] 25))
    go_enter Tryd.func4, Tryd.ntmps4
    go_wp2_with fail
    refine (clAwake _ (LD.out _ B1.out)).mono ?_
    rintro e w1 ⟨rfl, hb⟩
    have T2_1 := Lib.hid (T2.out.below hb T2.out.lt)
    have B2 := Lib.hid (B1.out.trans (hb.mono B1.out.size))
    clear hb
    have c20 := T2_1.out.c0
    have c21 := T2_1.out.c1
    have c22 := T2_1.out.c2
    go_wp2_with fail
    refine (FA.out _).mono ?_
    rintro e w2 ⟨rfl, hb⟩
    clear c20 c21 c22
    have T2_2 := Lib.hid (T2_1.out.below hb T2_1.out.lt)
    have B3 := Lib.hid (B2.out.trans (hb.mono B2.out.size))
    clear hb
    have c20 := T2_2.out.c0
    have c21 := T2_2.out.c1
    have c22 := T2_2.out.c2
    go_wp2_with fail
    refine (HP.out _).mono ?_
    rintro e w3 ⟨A, n1, c1, rfl, hn1, hnc1, hcm1, own1, hb⟩
    clear c20 c21 c22
    have T2_3 := Lib.hid (T2_2.out.below hb T2_2.out.lt)
    have B4 := Lib.hid (B3.out.trans (hb.mono B3.out.size))
    clear hb
    have HN1 := Lib.hid hn1
    have HY1 := Lib.hid (Byt.own (zs := E) own1)
    have hnil1 := own_nil own1
    clear own1 hn1
    simp only [maxLen] at hcm1
    have c20 := T2_3.out.c0
    have c21 := T2_3.out.c1
    have c22 := T2_3.out.c2
    go_wp2_with fail
    refine (HM.out _).mono ?_
    rintro e w4 ⟨rfl, hb⟩
    have HY3 := Lib.hid (HY1.out.below hb)
    have hle3 : w3.heap.size ≤ w4.heap.size := hb.size
    clear c20 c21 c22
    have T2_4 := Lib.hid (T2_3.out.below hb T2_3.out.lt)
    have B5 := Lib.hid (B4.out.trans (hb.mono B4.out.size))
    clear hb
    have hn9 : n1 ≤ 220 := by rw [← HN1.out]; exact HE.out
    go_wp2_with (first
      | (at_builtin; refine wpList_append_byt (o := ⟨some 44, _, _, _, _, _⟩) _ rfl _ _ 26 rfl w4.heap.size 5 i0 Tryd.underlying26 hi hz0 hz1 hz2 _ 0 [] rfl (World.ownsRow_nil _ _ _ _) w4.heap.size A n1 c1 E rfl (HY3.out.wide hle3) HN1.out hnil1 (by omega) (Nat.le_refl _) ?_; intro v4 wa ho4 hg4; rw [Nat.zero_add, List.nil_append] at ho4; have b4 := B5.out.grown hg4 B5.out.size (fun g hg => by cases hg); have b34 := (Below.refl w4.heap.size w4).grown hg4 (Nat.le_refl _) (fun g hg => by cases hg); clear hg4)
      | (at_builtin; refine wpList_append_byt (o := ⟨some 46, _, _, _, _, _⟩) _ rfl _ _ 26 rfl w4.heap.size 5 i0 Tryd.underlying26 hi hz0 hz1 hz2 _ n1 E rfl ho4 w.heap.size a1 len1 cap1 zs rfl (HY.out.below b4) HL.out HN.out (by omega) b34.size ?_; intro v5 wb ho5 hg5; have b5 := Lib.hid (b4.grown hg5 b4.size (fun g hg => Nat.le_trans B5.out.size (own_base ho4 hg))); have b35 := b34.grown hg5 b34.size (fun g hg => own_base ho4 hg); have T5 := Lib.hid (T2_4.out.below b35 T2_4.out.lt); obtain ⟨A5, n5, c5, hv5, hn5, hnc5, hcm5, ho5', _⟩ := gives_own (w := w4) ho5 b35; injection hv5 with hv5; subst hv5; have ho := cget_any A5 n5 c5 (E ++ zs) wb (Byt.own ho5') (Nat.le_refl _) hn5 (all_append HEB.out HS.out) hnc5 hcm5; rw [HOK.out] at ho; rw [HN1.out] at ho; have HO5 := Lib.hid ho; clear ho ho5 ho5' hg5 ho4 hn5 b34 b35 b4; simp only [maxLen] at hcm5))
    dsimp only [cgetV, Cel.v] at HO5
    refine (HO5.out).mono ?_
    rintro e w7 ⟨rfl, hb⟩
    have T2_7 := Lib.hid (T5.out.below hb T5.out.lt)
    have B6 := Lib.hid (b5.out.trans (hb.mono b5.out.size))
    clear hb
    have T2_7' := Lib.hid (T2_7.out.old (.cells #[.int .i64 a.n, .int .i64 a.r, .string a.s] 25))
    have T9n := ClAt.new w7 a
    have T9 := Lib.hid (T9n)
    clear T9n
    have B7 := Lib.hid (B6.out.alloc B6.out.size (.cells #[.int .i64 a.n, .int .i64 a.r, .string a.s] 25))
    have c20 := T2_7'.out.c0
    have c21 := T2_7'.out.c1
    have c22 := T2_7'.out.c2
    have c90 := T9.out.c0
    have c91 := T9.out.c1
    have c92 := T9.out.c2
    have hnn := cl_same a
    go_wp2_with fail
    refine (HG.out _ B7.out).mono ?_
    cases hO : cget zs with
    | none =>
      rintro e w8 ⟨rfl, hb⟩
      have B8 := Lib.hid (B7.out.trans (hb.mono B7.out.size))
      clear hb
      dsimp only [cgetV, Cel.v, cel0]
      have EZ := cl_same cel0
      dsimp only [cel0] at EZ
      have T12n := ClAt.new w8 cel0
      try dsimp only at T12n
      have T12 := Lib.hid (T12n)
      clear T12n
      have B9 := Lib.hid (B8.out.alloc B8.out.size (.cells #[.int .i64 0, .int .i64 0, .string ⟨#[]⟩] 25))
      go_wp2
      go_ret
      exact ⟨rfl, B9.out⟩
    | some o =>
      obtain ⟨c9, k9⟩ := o
      obtain ⟨q1, q2, q3⟩ := cget_some HS.out hO
      rintro e w8 ⟨rfl, hb⟩
      have B8 := Lib.hid (B7.out.trans (hb.mono B7.out.size))
      clear hb
      dsimp only [cgetV, Cel.v]
      rw [HL.out] at q2
      have HPX := Lib.hid (cput_any c9)
      unfold CPutPost at HPX
      rw [q1, q3] at HPX
      simp only [if_true] at HPX
      dsimp only [Cel.v] at HPX
      clear q1 q3 hO
      have T12n := ClAt.new w8 c9
      have T12 := Lib.hid (T12n)
      clear T12n
      have B9 := Lib.hid (B8.out.alloc B8.out.size (.cells #[.int .i64 c9.n, .int .i64 c9.r, .string c9.s] 25))
      have c120 := T12.out.c0
      have c121 := T12.out.c1
      have c122 := T12.out.c2
      go_wp2_with fail
      refine (HPX.out _).mono ?_
      rintro e w9 ⟨A8, n8, c8, rfl, hn8, hnc8, hcm8, own8, hb⟩
      clear c120 c121 c122
      have T12_9 := Lib.hid (T12.out.below hb T12.out.lt)
      have B10 := Lib.hid (B9.out.trans (hb.mono B9.out.size))
      clear hb
      have HY6 := Lib.hid (Byt.own (zs := zs.take k9) own8)
      have HN6 := Lib.hid hn8
      have HY7 := Lib.hid ((HY.out.below B10.out).take k9)
      have HN7 := Lib.hid (show (zs.take k9).length = k9 by rw [List.length_take, HL.out]; omega)
      have HLE := Lib.hid (show decide ((k9 : Int) ≤ len1) = true by simp; omega)
      have HSL := Lib.hid (sl_h a1 len1 cap1 k9 (by omega) (k9 : Int) rfl)
      clear own8 hn8
      simp only [maxLen] at hcm8
      go_wp2_with fail
      have cv := CV.out
      refine wp_region_G w9 (by kernel_rfl) ?_
      refine wpG_take (i := 0) (oi := ⟨some 84, _, _, _, _, _⟩) (v := ?_) rfl (by kernel_rfl) (by kernel_rfl) (by kernel_rfl) (Or.inl ⟨by rfl, unib_val ?_⟩) ?_; rotate_left; (focus (intro w9 hSw; go_simp; try with_reducible rfl)); simp only [Act.put, List.setIfInBounds_toArray, List.set_cons_zero, List.set_cons_succ]
      refine wpG_take (i := 1) (oi := ⟨some 85, _, _, _, _, _⟩) (v := ?_) rfl (by kernel_rfl) (by kernel_rfl) (by kernel_rfl) (Or.inl ⟨by rfl, unib_val ?_⟩) ?_; rotate_left; (focus (intro w9 hSw; go_simp; try with_reducible rfl)); simp only [Act.put, List.setIfInBounds_toArray, List.set_cons_zero, List.set_cons_succ]
      refine wpG_take (i := 2) (oi := ⟨some 86, _, _, _, _, _⟩) (v := ?_) rfl (by kernel_rfl) (by kernel_rfl) (by kernel_rfl) (Or.inl ⟨by rfl, unib_val ?_⟩) ?_; rotate_left; (focus (intro w9 hSw; go_simp; try with_reducible rfl)); simp only [Act.put, List.setIfInBounds_toArray, List.set_cons_zero, List.set_cons_succ]
      refine wpG_take (i := 3) (oi := ⟨some 87, _, _, _, _, _⟩) (v := ?_) rfl (by kernel_rfl) (by kernel_rfl) (by kernel_rfl) (Or.inl ⟨by rfl, unib_val ?_⟩) ?_; rotate_left; (focus (intro w9 hSw; go_simp; try with_reducible rfl)); simp only [Act.put, List.setIfInBounds_toArray, List.set_cons_zero, List.set_cons_succ]
      refine wpG_take (i := 4) (oi := ⟨some 88, _, _, _, _, _⟩) (v := ?_) rfl (by kernel_rfl) (by kernel_rfl) (by kernel_rfl) (Or.inl ⟨by rfl, unib_val ?_⟩) ?_; rotate_left; (focus (intro w9 hSw; go_simp; try with_reducible rfl)); simp only [Act.put, List.setIfInBounds_toArray, List.set_cons_zero, List.set_cons_succ]
      refine wpG_take (i := 5) (oi := ⟨some 89, _, _, _, _, _⟩) (v := ?_) rfl (by kernel_rfl) (by kernel_rfl) (by kernel_rfl) (Or.inl ⟨by rfl, unib_val ?_⟩) ?_; rotate_left; (focus (intro w9 hSw; have s9 := HLE.out; go_simp; try with_reducible rfl)); simp only [Act.put, List.setIfInBounds_toArray, List.set_cons_zero, List.set_cons_succ]
      refine wpG_take (i := 6) (oi := ⟨some 90, _, _, _, _, _⟩) (v := ?_) rfl (by kernel_rfl) (by kernel_rfl) (by kernel_rfl) (Or.inl ⟨by rfl, unib_val ?_⟩) ?_; rotate_left; (focus (intro w9 hSw; go_simp; try with_reducible rfl)); simp only [Act.put, List.setIfInBounds_toArray, List.set_cons_zero, List.set_cons_succ]
      refine wpG_take (i := 7) (oi := ⟨some 91, _, _, _, _, _⟩) (v := ?_) rfl (by kernel_rfl) (by kernel_rfl) (by kernel_rfl) (Or.inl ⟨by rfl, unib_val ?_⟩) ?_; rotate_left; (focus (intro w9 hSw; go_simp; try with_reducible rfl)); simp only [Act.put, List.setIfInBounds_toArray, List.set_cons_zero, List.set_cons_succ]
      refine wpG_take (i := 8) (oi := ⟨some 92, _, _, _, _, _⟩) (v := ?_) rfl (by kernel_rfl) (by kernel_rfl) (by kernel_rfl) (Or.inl ⟨by rfl, unib_val ?_⟩) ?_; rotate_left; (focus (intro w9 hSw; go_simp; try with_reducible rfl)); simp only [Act.put, List.setIfInBounds_toArray, List.set_cons_zero, List.set_cons_succ]
      refine wpG_take (i := 9) (oi := ⟨some 93, _, _, _, _, _⟩) (v := ?_) rfl (by kernel_rfl) (by kernel_rfl) (by kernel_rfl) (Or.inl ⟨by rfl, unib_val ?_⟩) ?_; rotate_left; (focus (intro w9 hSw; have t9 := HF.out w9 _ _ _ (HY6.out.below hSw) n8 c8 HN6.out; go_simp; try with_reducible rfl)); simp only [Act.put, List.setIfInBounds_toArray, List.set_cons_zero, List.set_cons_succ]
      refine wpG_take (i := 10) (oi := ⟨some 94, _, _, _, _, _⟩) (v := ?_) rfl (by kernel_rfl) (by kernel_rfl) (by kernel_rfl) (Or.inl ⟨by rfl, unib_val ?_⟩) ?_; rotate_left; (focus (intro w9 hSw; go_simp; try with_reducible rfl)); simp only [Act.put, List.setIfInBounds_toArray, List.set_cons_zero, List.set_cons_succ]
      refine wpG_take (i := 11) (oi := ⟨some 95, _, _, _, _, _⟩) (v := ?_) rfl (by kernel_rfl) (by kernel_rfl) (by kernel_rfl) (Or.inl ⟨by rfl, unib_val ?_⟩) ?_; rotate_left; (focus (intro w9 hSw; go_simp; try with_reducible rfl)); simp only [Act.put, List.setIfInBounds_toArray, List.set_cons_zero, List.set_cons_succ]
      refine wpG_take (i := 12) (oi := ⟨some 96, _, _, _, _, _⟩) (v := ?_) rfl (by kernel_rfl) (by kernel_rfl) (by kernel_rfl) (Or.inl ⟨by rfl, unib_val ?_⟩) ?_; rotate_left; (focus (intro w9 hSw; have s9 := HSL.out w9; go_simp; try with_reducible rfl)); simp only [Act.put, List.setIfInBounds_toArray, List.set_cons_zero, List.set_cons_succ]
      refine wpG_take (i := 13) (oi := ⟨some 97, _, _, _, _, _⟩) (v := ?_) rfl (by kernel_rfl) (by kernel_rfl) (by kernel_rfl) (Or.inl ⟨by rfl, unib_val ?_⟩) ?_; rotate_left; (focus (intro w9 hSw; have t9 := HF.out w9 _ _ _ (HY7.out.below (hSw.mono B10.out.size)) k9 cap1 HN7.out; go_simp; try with_reducible rfl)); simp only [Act.put, List.setIfInBounds_toArray, List.set_cons_zero, List.set_cons_succ]
      refine wpG_take (i := 14) (oi := ⟨some 98, _, _, _, _, _⟩) (v := ?_) rfl (by kernel_rfl) (by kernel_rfl) (by kernel_rfl) (Or.inl ⟨by rfl, unib_val ?_⟩) ?_; rotate_left; (focus (intro w9 hSw; go_simp; try with_reducible rfl)); simp only [Act.put, List.setIfInBounds_toArray, List.set_cons_zero, List.set_cons_succ]
      refine wpG_take (i := 15) (oi := ⟨some 99, _, _, _, _, _⟩) (v := ?_) rfl (by kernel_rfl) (by kernel_rfl) (by kernel_rfl) (Or.inl ⟨by rfl, unib_val ?_⟩) ?_; rotate_left; (focus (intro w9 hSw; go_simp; try with_reducible rfl)); simp only [Act.put, List.setIfInBounds_toArray, List.set_cons_zero, List.set_cons_succ]
      refine wpG_take (i := 16) (oi := ⟨some 4, _, _, _, _, _⟩) (v := ?_) rfl (by kernel_rfl) (by kernel_rfl) (by kernel_rfl) (Or.inl ⟨by rfl, unib_val ?_⟩) ?_; rotate_left; (focus (intro w9 hSw; go_simp; try with_reducible rfl)); simp only [Act.put, List.setIfInBounds_toArray, List.set_cons_zero, List.set_cons_succ]
      refine wpG_done (by kernel_rfl) ?_ _
      intro w9 hSw hO
      clear cv
      go_wp2
      go_ret
      exact ⟨rfl, B10.out.trans (hSw.mono B10.out.size)⟩
end Go.Proofs.YtonbhcbkelmhgaaDoor
