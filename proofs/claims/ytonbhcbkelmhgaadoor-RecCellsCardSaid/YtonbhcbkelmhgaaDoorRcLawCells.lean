/-
  The law RecCells: for every two records and every number it answers true, and nothing that was there is written.
-/
import Derived.Test.YtonbhcbkelmhgaaDoorRcAwake
import Derived.Test.YtonbhcbkelmhgaaDoorRcArgs
import Derived.Test.YtonbhcbkelmhgaaDoorRcMath
namespace Go.Proofs.YtonbhcbkelmhgaaDoor
open Go.RowKit WM
set_option linter.unusedVariables false
set_option maxRecDepth 100000
theorem rfind_jn {a b : Rc} (h1 : a.may = true) (h2 : b.may = true) (no : Int) : rfind (jn a b).fs no = ofilt (mx a.d b.d) (omerge (rfind a.fs no) (rfind b.fs no)) := by
  by_cases h : 0 ≤ no ∧ no < 8
  · have := at_jn a b (k := no.toNat) (by omega)
    unfold Rc.at at this
    rwa [Int.toNat_of_nonneg h.1] at this
  · have hj := jn_may h1 h2
    rcases (show no < 0 ∨ 8 ≤ no by omega) with h | h
    · rw [rfind_low (rmay_okFrom h1) h, rfind_low (rmay_okFrom h2) h, rfind_low (rmay_okFrom hj) h]; rfl
    · rw [rfind_high (rmay_okFrom h1) h, rfind_high (rmay_okFrom h2) h, rfind_high (rmay_okFrom hj) h]; rfl
theorem cjoin_not1 (x y : Cel) : cless (cjoin x y) x = false := by
  cases h : cless x y
  · rw [cjoin_no h]; exact cless_self x
  · rw [cjoin_yes h]; exact cless_not h
theorem cjoin_not2 (x y : Cel) : cless (cjoin x y) y = false := by rw [← cjoin_comm]; exact cjoin_not1 y x
theorem cjoin_one (x y : Cel) : cjoin x y = x ∨ cjoin x y = y := by
  cases h : cless x y
  · exact .inl (cjoin_no h)
  · exact .inr (cjoin_yes h)
theorem sl_cjoin (m : Int × Int) (x y : Cel) : sl m (cjoin x y) = (sl m x || sl m y) := by
  have h1 : ∀ p q : Cel, cless p q = true → sl m p = true → sl m q = true := fun p q hl hp => by
    have h2 : stLess q.n q.r p.n p.r = false := by
      cases h : stLess q.n q.r p.n p.r
      · rfl
      · have := st_cless h
        rw [cless_not hl] at this
        cases this
    unfold sl at hp ⊢
    rw [st_no] at h2
    rw [stLess_iff] at hp ⊢
    omega
  cases h : cless x y
  · rw [cjoin_no h]
    cases hx : sl m x
    · cases hy : sl m y
      · rfl
      · exfalso
        have h2 : stLess x.n x.r y.n y.r = false := by
          cases h3 : stLess x.n x.r y.n y.r
          · rfl
          · rw [st_cless h3] at h; cases h
        unfold sl at hx hy
        rw [st_no] at hx h2
        rw [stLess_iff] at hy
        omega
    · rfl
  · rw [cjoin_yes h]
    cases hx : sl m x
    · rfl
    · rw [h1 x y h hx]; rfl
theorem size_may {a : Rc} (h : a.may = true) {no : Int} {c : Cel} (hc : rfind a.fs no = some c) : c.s.size ≤ 300 := by
  obtain ⟨f, hf, _, rfl⟩ := rfind_mem hc
  exact Nat.le_trans (cmay_iff.1 (rmay_all h f hf).2.2.1).2.2 (by omega)
set_option maxHeartbeats 16000000 in
theorem cells_few (a : Rc) (A : Option Addr) (ca : Nat) (b : Rc) (B : Option Addr) (cb : Nat) (no : Int) (w : World) (hlaid : Laid w) (wa : IsRec w a A ca) (wb : IsRec w b B cb) (h : (fewR a.fs && fewR b.fs && (a.join b).isSome) = false) :
    Calls Tryd.prog 9 #[a.v A ca, b.v B cb, .int .i64 no] w fun e w' => e = .returned (.bool true) ∧ Below w.heap.size w w' := by
  have HLA := Lib.hid (fun (X : World) (hX : Below w.heap.size w X) => hlaid.below hX (Nat.le_refl _))
  have OKa := Lib.hid wa.1
  have OKb := Lib.hid wb.1
  have Fa := Lib.hid wa.2.1
  have Fb := Lib.hid wb.2.1
  have hz := zeroRec
  unfold rv at hz
  conv => congr; rfl; rfl; (unfold Rc.v rv)
  have OKj := Lib.hid (Rc.getD_ok (b := b) wa.1)
  obtain ⟨o, ho⟩ : ∃ o, a.join b = o := ⟨_, rfl⟩
  rw [ho] at h OKj
  have JV := Lib.hid ho
  clear hlaid wa wb ho
  cases o with
  | none =>
    change Hid rc0.Ok at OKj
    cases pa : fewR a.fs
    · have PA := Lib.hid pa
      clear pa h
      have B1 := Lib.hid (Below.refl w.heap.size w)
      have T2n := RcAt.new w OKa.out.len a.n a.r (.slice A a.fs.length ca)
      have T2 := Lib.hid (T2n)
      clear T2n
      have B3 := Lib.hid (B1.out.alloc B1.out.size (.cells (rcells a.z a.n a.r (.slice A a.fs.length ca)) 43))
      have T4 := Lib.hid (T2.out.old (.cells (rcells b.z b.n b.r (.slice B b.fs.length cb)) 43))
      have T5n := RcAt.new (w.alloc (.cells (rcells a.z a.n a.r (.slice A a.fs.length ca)) 43)) OKb.out.len b.n b.r (.slice B b.fs.length cb)
      simp only [World.size_alloc] at T5n
      have T5 := Lib.hid (T5n)
      clear T5n
      have B6 := Lib.hid (B3.out.alloc B3.out.size (.cells (rcells b.z b.n b.r (.slice B b.fs.length cb)) 43))
      have F7 := Lib.hid (Fa.out.below B6.out (Nat.le_refl _))
      have F8 := Lib.hid (Fb.out.below B6.out (Nat.le_refl _))
      go_enter Tryd.func9, Tryd.ntmps9
      have C9 := Lib.hid (rcAwake ((w.alloc (.cells (rcells a.z a.n a.r (.slice A a.fs.length ca)) 43)).alloc (.cells (rcells b.z b.n b.r (.slice B b.fs.length cb)) 43)) (HLA.out _ B6.out))
      go_wp2_with fail
      refine C9.out.mono ?_
      rintro e w10 ⟨rfl, hb11⟩
      have T12 := Lib.hid (T4.out.below hb11 T4.out.lt)
      have T13 := Lib.hid (T5.out.below hb11 T5.out.lt)
      have F14 := Lib.hid (F7.out.below hb11 (Nat.le_refl _))
      have F15 := Lib.hid (F8.out.below hb11 (Nat.le_refl _))
      have B16 := Lib.hid (B6.out.trans (hb11.mono B6.out.size))
      clear hb11
      have M17 := Lib.hid (load_rec T12.out)
      unfold rv at M17
      have C18 := Lib.hid (fewR_any a A ca w10 OKa.out F14.out)
      unfold Rc.v at C18
      unfold rv at C18
      rw [PA.out] at C18
      go_wp2_with (first | ((with_reducible refine wpList_load_by (o := ⟨some 20, .load 43 (.tmp 3), _, _, _, _⟩) ?e1 43 (.tmp 3) ?e2 ⟨w.heap.size, 0, none⟩ ?e3 _ M17.out ?_); (case e1 => rfl); (case e2 => rfl); (case e3 => rfl)))
      refine C18.out.mono ?_
      rintro e w19 ⟨rfl, hb20⟩
      have T21 := Lib.hid (T12.out.below hb20 T12.out.lt)
      have T22 := Lib.hid (T13.out.below hb20 T13.out.lt)
      have F23 := Lib.hid (F14.out.below hb20 (Nat.le_refl _))
      have F24 := Lib.hid (F15.out.below hb20 (Nat.le_refl _))
      have B25 := Lib.hid (B16.out.trans (hb20.mono B16.out.size))
      clear hb20
      have M26 := Lib.hid (load_rec T22.out)
      unfold rv at M26
      have C27 := Lib.hid (fewR_any b B cb w19 OKb.out F24.out)
      unfold Rc.v at C27
      unfold rv at C27
      go_wp2_with (first | ((with_reducible refine wpList_load_by (o := ⟨some 22, .load 43 (.tmp 4), _, _, _, _⟩) ?e1 43 (.tmp 4) ?e2 ⟨(w.heap.size + 1), 0, none⟩ ?e3 _ M26.out ?_); (case e1 => rfl); (case e2 => rfl); (case e3 => rfl)))
      refine C27.out.mono ?_
      rintro e w28 ⟨rfl, hb29⟩
      have T30 := Lib.hid (T21.out.below hb29 T21.out.lt)
      have T31 := Lib.hid (T22.out.below hb29 T22.out.lt)
      have F32 := Lib.hid (F23.out.below hb29 (Nat.le_refl _))
      have F33 := Lib.hid (F24.out.below hb29 (Nat.le_refl _))
      have B34 := Lib.hid (B25.out.trans (hb29.mono B25.out.size))
      clear hb29
      have M38 := Lib.hid (load_rec T30.out)
      unfold rv at M38
      have M39 := Lib.hid (load_rec T31.out)
      unfold rv at M39
      have C40 := Lib.hid (join_any a b A B ca cb w28 (HLA.out _ B34.out) OKa.out OKb.out F32.out F33.out)
      unfold JoinPost Rc.v at C40
      unfold rv at C40
      rw [JV.out] at C40
      dsimp only [Option.getD, Option.isSome] at C40
      go_wp2_with (first | ((with_reducible refine wpList_load_by (o := ⟨some 25, .load 43 (.tmp 3), _, _, _, _⟩) ?e1 43 (.tmp 3) ?e2 ⟨w.heap.size, 0, none⟩ ?e3 _ M38.out ?_); (case e1 => rfl); (case e2 => rfl); (case e3 => rfl)) | ((with_reducible refine wpList_load_by (o := ⟨some 26, .load 43 (.tmp 4), _, _, _, _⟩) ?e1 43 (.tmp 4) ?e2 ⟨(w.heap.size + 1), 0, none⟩ ?e3 _ M39.out ?_); (case e1 => rfl); (case e2 => rfl); (case e3 => rfl)))
      refine C40.out.mono ?_
      rintro e w41 ⟨A35, c36, rfl, hf37, hb42⟩
      have T43 := Lib.hid (T30.out.below hb42 T30.out.lt)
      have T44 := Lib.hid (T31.out.below hb42 T31.out.lt)
      have F45 := Lib.hid (F32.out.below hb42 (Nat.le_refl _))
      have F46 := Lib.hid (F33.out.below hb42 (Nat.le_refl _))
      have B47 := Lib.hid (B34.out.trans (hb42.mono B34.out.size))
      clear hb42
      have F48 := Lib.hid (hf37)
      clear hf37
      go_wp2_with (first | ((with_reducible refine wpList_store_new (o := ⟨none, .store 43 (.tmp 10) (.tmp 28), _, _, _, _⟩) (w := w41) ?e1 (.tmp 10) (.tmp 28) ?e2 w41.heap.size rfl ?e3 rc0.z rc0.n rc0.r (.slice A35 rc0.fs.length c36) ?e4 OKj.out.len ?e5 ?_); (case e1 => rfl); (case e2 => rfl); (case e3 => rfl); (case e4 => rfl); (case e5 => rfl); intro w49 hb50 hRs; have T51 := Lib.hid hRs; clear hRs; have T52 := Lib.hid (T43.out.below hb50 T43.out.lt); have T53 := Lib.hid (T44.out.below hb50 T44.out.lt); have F54 := Lib.hid (F45.out.below hb50 (Nat.le_refl _)); have F55 := Lib.hid (F46.out.below hb50 (Nat.le_refl _)); have F56 := Lib.hid (F48.out.below hb50 (Nat.le_refl _)); have B57 := Lib.hid (B47.out.trans (hb50.mono B47.out.size)); clear hb50))
      go_ret
      exact ⟨rfl, B57.out⟩
    · cases pb : fewR b.fs
      · have PA := Lib.hid pa
        have PB := Lib.hid pb
        clear pa pb h
        have B1 := Lib.hid (Below.refl w.heap.size w)
        have T2n := RcAt.new w OKa.out.len a.n a.r (.slice A a.fs.length ca)
        have T2 := Lib.hid (T2n)
        clear T2n
        have B3 := Lib.hid (B1.out.alloc B1.out.size (.cells (rcells a.z a.n a.r (.slice A a.fs.length ca)) 43))
        have T4 := Lib.hid (T2.out.old (.cells (rcells b.z b.n b.r (.slice B b.fs.length cb)) 43))
        have T5n := RcAt.new (w.alloc (.cells (rcells a.z a.n a.r (.slice A a.fs.length ca)) 43)) OKb.out.len b.n b.r (.slice B b.fs.length cb)
        simp only [World.size_alloc] at T5n
        have T5 := Lib.hid (T5n)
        clear T5n
        have B6 := Lib.hid (B3.out.alloc B3.out.size (.cells (rcells b.z b.n b.r (.slice B b.fs.length cb)) 43))
        have F7 := Lib.hid (Fa.out.below B6.out (Nat.le_refl _))
        have F8 := Lib.hid (Fb.out.below B6.out (Nat.le_refl _))
        go_enter Tryd.func9, Tryd.ntmps9
        have C9 := Lib.hid (rcAwake ((w.alloc (.cells (rcells a.z a.n a.r (.slice A a.fs.length ca)) 43)).alloc (.cells (rcells b.z b.n b.r (.slice B b.fs.length cb)) 43)) (HLA.out _ B6.out))
        go_wp2_with fail
        refine C9.out.mono ?_
        rintro e w10 ⟨rfl, hb11⟩
        have T12 := Lib.hid (T4.out.below hb11 T4.out.lt)
        have T13 := Lib.hid (T5.out.below hb11 T5.out.lt)
        have F14 := Lib.hid (F7.out.below hb11 (Nat.le_refl _))
        have F15 := Lib.hid (F8.out.below hb11 (Nat.le_refl _))
        have B16 := Lib.hid (B6.out.trans (hb11.mono B6.out.size))
        clear hb11
        have M17 := Lib.hid (load_rec T12.out)
        unfold rv at M17
        have C18 := Lib.hid (fewR_any a A ca w10 OKa.out F14.out)
        unfold Rc.v at C18
        unfold rv at C18
        rw [PA.out] at C18
        go_wp2_with (first | ((with_reducible refine wpList_load_by (o := ⟨some 20, .load 43 (.tmp 3), _, _, _, _⟩) ?e1 43 (.tmp 3) ?e2 ⟨w.heap.size, 0, none⟩ ?e3 _ M17.out ?_); (case e1 => rfl); (case e2 => rfl); (case e3 => rfl)))
        refine C18.out.mono ?_
        rintro e w19 ⟨rfl, hb20⟩
        have T21 := Lib.hid (T12.out.below hb20 T12.out.lt)
        have T22 := Lib.hid (T13.out.below hb20 T13.out.lt)
        have F23 := Lib.hid (F14.out.below hb20 (Nat.le_refl _))
        have F24 := Lib.hid (F15.out.below hb20 (Nat.le_refl _))
        have B25 := Lib.hid (B16.out.trans (hb20.mono B16.out.size))
        clear hb20
        have M26 := Lib.hid (load_rec T22.out)
        unfold rv at M26
        have C27 := Lib.hid (fewR_any b B cb w19 OKb.out F24.out)
        unfold Rc.v at C27
        unfold rv at C27
        rw [PB.out] at C27
        go_wp2_with (first | ((with_reducible refine wpList_load_by (o := ⟨some 22, .load 43 (.tmp 4), _, _, _, _⟩) ?e1 43 (.tmp 4) ?e2 ⟨(w.heap.size + 1), 0, none⟩ ?e3 _ M26.out ?_); (case e1 => rfl); (case e2 => rfl); (case e3 => rfl)))
        refine C27.out.mono ?_
        rintro e w28 ⟨rfl, hb29⟩
        have T30 := Lib.hid (T21.out.below hb29 T21.out.lt)
        have T31 := Lib.hid (T22.out.below hb29 T22.out.lt)
        have F32 := Lib.hid (F23.out.below hb29 (Nat.le_refl _))
        have F33 := Lib.hid (F24.out.below hb29 (Nat.le_refl _))
        have B34 := Lib.hid (B25.out.trans (hb29.mono B25.out.size))
        clear hb29
        have M38 := Lib.hid (load_rec T30.out)
        unfold rv at M38
        have M39 := Lib.hid (load_rec T31.out)
        unfold rv at M39
        have C40 := Lib.hid (join_any a b A B ca cb w28 (HLA.out _ B34.out) OKa.out OKb.out F32.out F33.out)
        unfold JoinPost Rc.v at C40
        unfold rv at C40
        rw [JV.out] at C40
        dsimp only [Option.getD, Option.isSome] at C40
        go_wp2_with (first | ((with_reducible refine wpList_load_by (o := ⟨some 25, .load 43 (.tmp 3), _, _, _, _⟩) ?e1 43 (.tmp 3) ?e2 ⟨w.heap.size, 0, none⟩ ?e3 _ M38.out ?_); (case e1 => rfl); (case e2 => rfl); (case e3 => rfl)) | ((with_reducible refine wpList_load_by (o := ⟨some 26, .load 43 (.tmp 4), _, _, _, _⟩) ?e1 43 (.tmp 4) ?e2 ⟨(w.heap.size + 1), 0, none⟩ ?e3 _ M39.out ?_); (case e1 => rfl); (case e2 => rfl); (case e3 => rfl)))
        refine C40.out.mono ?_
        rintro e w41 ⟨A35, c36, rfl, hf37, hb42⟩
        have T43 := Lib.hid (T30.out.below hb42 T30.out.lt)
        have T44 := Lib.hid (T31.out.below hb42 T31.out.lt)
        have F45 := Lib.hid (F32.out.below hb42 (Nat.le_refl _))
        have F46 := Lib.hid (F33.out.below hb42 (Nat.le_refl _))
        have B47 := Lib.hid (B34.out.trans (hb42.mono B34.out.size))
        clear hb42
        have F48 := Lib.hid (hf37)
        clear hf37
        go_wp2_with (first | ((with_reducible refine wpList_store_new (o := ⟨none, .store 43 (.tmp 10) (.tmp 28), _, _, _, _⟩) (w := w41) ?e1 (.tmp 10) (.tmp 28) ?e2 w41.heap.size rfl ?e3 rc0.z rc0.n rc0.r (.slice A35 rc0.fs.length c36) ?e4 OKj.out.len ?e5 ?_); (case e1 => rfl); (case e2 => rfl); (case e3 => rfl); (case e4 => rfl); (case e5 => rfl); intro w49 hb50 hRs; have T51 := Lib.hid hRs; clear hRs; have T52 := Lib.hid (T43.out.below hb50 T43.out.lt); have T53 := Lib.hid (T44.out.below hb50 T44.out.lt); have F54 := Lib.hid (F45.out.below hb50 (Nat.le_refl _)); have F55 := Lib.hid (F46.out.below hb50 (Nat.le_refl _)); have F56 := Lib.hid (F48.out.below hb50 (Nat.le_refl _)); have B57 := Lib.hid (B47.out.trans (hb50.mono B47.out.size)); clear hb50))
        go_ret
        exact ⟨rfl, B57.out⟩
      · have PA := Lib.hid pa
        have PB := Lib.hid pb
        clear pa pb h
        have B1 := Lib.hid (Below.refl w.heap.size w)
        have T2n := RcAt.new w OKa.out.len a.n a.r (.slice A a.fs.length ca)
        have T2 := Lib.hid (T2n)
        clear T2n
        have B3 := Lib.hid (B1.out.alloc B1.out.size (.cells (rcells a.z a.n a.r (.slice A a.fs.length ca)) 43))
        have T4 := Lib.hid (T2.out.old (.cells (rcells b.z b.n b.r (.slice B b.fs.length cb)) 43))
        have T5n := RcAt.new (w.alloc (.cells (rcells a.z a.n a.r (.slice A a.fs.length ca)) 43)) OKb.out.len b.n b.r (.slice B b.fs.length cb)
        simp only [World.size_alloc] at T5n
        have T5 := Lib.hid (T5n)
        clear T5n
        have B6 := Lib.hid (B3.out.alloc B3.out.size (.cells (rcells b.z b.n b.r (.slice B b.fs.length cb)) 43))
        have F7 := Lib.hid (Fa.out.below B6.out (Nat.le_refl _))
        have F8 := Lib.hid (Fb.out.below B6.out (Nat.le_refl _))
        go_enter Tryd.func9, Tryd.ntmps9
        have C9 := Lib.hid (rcAwake ((w.alloc (.cells (rcells a.z a.n a.r (.slice A a.fs.length ca)) 43)).alloc (.cells (rcells b.z b.n b.r (.slice B b.fs.length cb)) 43)) (HLA.out _ B6.out))
        go_wp2_with fail
        refine C9.out.mono ?_
        rintro e w10 ⟨rfl, hb11⟩
        have T12 := Lib.hid (T4.out.below hb11 T4.out.lt)
        have T13 := Lib.hid (T5.out.below hb11 T5.out.lt)
        have F14 := Lib.hid (F7.out.below hb11 (Nat.le_refl _))
        have F15 := Lib.hid (F8.out.below hb11 (Nat.le_refl _))
        have B16 := Lib.hid (B6.out.trans (hb11.mono B6.out.size))
        clear hb11
        have M17 := Lib.hid (load_rec T12.out)
        unfold rv at M17
        have C18 := Lib.hid (fewR_any a A ca w10 OKa.out F14.out)
        unfold Rc.v at C18
        unfold rv at C18
        rw [PA.out] at C18
        go_wp2_with (first | ((with_reducible refine wpList_load_by (o := ⟨some 20, .load 43 (.tmp 3), _, _, _, _⟩) ?e1 43 (.tmp 3) ?e2 ⟨w.heap.size, 0, none⟩ ?e3 _ M17.out ?_); (case e1 => rfl); (case e2 => rfl); (case e3 => rfl)))
        refine C18.out.mono ?_
        rintro e w19 ⟨rfl, hb20⟩
        have T21 := Lib.hid (T12.out.below hb20 T12.out.lt)
        have T22 := Lib.hid (T13.out.below hb20 T13.out.lt)
        have F23 := Lib.hid (F14.out.below hb20 (Nat.le_refl _))
        have F24 := Lib.hid (F15.out.below hb20 (Nat.le_refl _))
        have B25 := Lib.hid (B16.out.trans (hb20.mono B16.out.size))
        clear hb20
        have M26 := Lib.hid (load_rec T22.out)
        unfold rv at M26
        have C27 := Lib.hid (fewR_any b B cb w19 OKb.out F24.out)
        unfold Rc.v at C27
        unfold rv at C27
        rw [PB.out] at C27
        go_wp2_with (first | ((with_reducible refine wpList_load_by (o := ⟨some 22, .load 43 (.tmp 4), _, _, _, _⟩) ?e1 43 (.tmp 4) ?e2 ⟨(w.heap.size + 1), 0, none⟩ ?e3 _ M26.out ?_); (case e1 => rfl); (case e2 => rfl); (case e3 => rfl)))
        refine C27.out.mono ?_
        rintro e w28 ⟨rfl, hb29⟩
        have T30 := Lib.hid (T21.out.below hb29 T21.out.lt)
        have T31 := Lib.hid (T22.out.below hb29 T22.out.lt)
        have F32 := Lib.hid (F23.out.below hb29 (Nat.le_refl _))
        have F33 := Lib.hid (F24.out.below hb29 (Nat.le_refl _))
        have B34 := Lib.hid (B25.out.trans (hb29.mono B25.out.size))
        clear hb29
        have M38 := Lib.hid (load_rec T30.out)
        unfold rv at M38
        have M39 := Lib.hid (load_rec T31.out)
        unfold rv at M39
        have C40 := Lib.hid (join_any a b A B ca cb w28 (HLA.out _ B34.out) OKa.out OKb.out F32.out F33.out)
        unfold JoinPost Rc.v at C40
        unfold rv at C40
        rw [JV.out] at C40
        dsimp only [Option.getD, Option.isSome] at C40
        go_wp2_with (first | ((with_reducible refine wpList_load_by (o := ⟨some 25, .load 43 (.tmp 3), _, _, _, _⟩) ?e1 43 (.tmp 3) ?e2 ⟨w.heap.size, 0, none⟩ ?e3 _ M38.out ?_); (case e1 => rfl); (case e2 => rfl); (case e3 => rfl)) | ((with_reducible refine wpList_load_by (o := ⟨some 26, .load 43 (.tmp 4), _, _, _, _⟩) ?e1 43 (.tmp 4) ?e2 ⟨(w.heap.size + 1), 0, none⟩ ?e3 _ M39.out ?_); (case e1 => rfl); (case e2 => rfl); (case e3 => rfl)))
        refine C40.out.mono ?_
        rintro e w41 ⟨A35, c36, rfl, hf37, hb42⟩
        have T43 := Lib.hid (T30.out.below hb42 T30.out.lt)
        have T44 := Lib.hid (T31.out.below hb42 T31.out.lt)
        have F45 := Lib.hid (F32.out.below hb42 (Nat.le_refl _))
        have F46 := Lib.hid (F33.out.below hb42 (Nat.le_refl _))
        have B47 := Lib.hid (B34.out.trans (hb42.mono B34.out.size))
        clear hb42
        have F48 := Lib.hid (hf37)
        clear hf37
        go_wp2_with (first | ((with_reducible refine wpList_store_new (o := ⟨none, .store 43 (.tmp 10) (.tmp 28), _, _, _, _⟩) (w := w41) ?e1 (.tmp 10) (.tmp 28) ?e2 w41.heap.size rfl ?e3 rc0.z rc0.n rc0.r (.slice A35 rc0.fs.length c36) ?e4 OKj.out.len ?e5 ?_); (case e1 => rfl); (case e2 => rfl); (case e3 => rfl); (case e4 => rfl); (case e5 => rfl); intro w49 hb50 hRs; have T51 := Lib.hid hRs; clear hRs; have T52 := Lib.hid (T43.out.below hb50 T43.out.lt); have T53 := Lib.hid (T44.out.below hb50 T44.out.lt); have F54 := Lib.hid (F45.out.below hb50 (Nat.le_refl _)); have F55 := Lib.hid (F46.out.below hb50 (Nat.le_refl _)); have F56 := Lib.hid (F48.out.below hb50 (Nat.le_refl _)); have B57 := Lib.hid (B47.out.trans (hb50.mono B47.out.size)); clear hb50))
        go_ret
        exact ⟨rfl, B57.out⟩
  | some j =>
    change Hid j.Ok at OKj
    cases pa : fewR a.fs
    · have PA := Lib.hid pa
      clear pa h
      have B1 := Lib.hid (Below.refl w.heap.size w)
      have T2n := RcAt.new w OKa.out.len a.n a.r (.slice A a.fs.length ca)
      have T2 := Lib.hid (T2n)
      clear T2n
      have B3 := Lib.hid (B1.out.alloc B1.out.size (.cells (rcells a.z a.n a.r (.slice A a.fs.length ca)) 43))
      have T4 := Lib.hid (T2.out.old (.cells (rcells b.z b.n b.r (.slice B b.fs.length cb)) 43))
      have T5n := RcAt.new (w.alloc (.cells (rcells a.z a.n a.r (.slice A a.fs.length ca)) 43)) OKb.out.len b.n b.r (.slice B b.fs.length cb)
      simp only [World.size_alloc] at T5n
      have T5 := Lib.hid (T5n)
      clear T5n
      have B6 := Lib.hid (B3.out.alloc B3.out.size (.cells (rcells b.z b.n b.r (.slice B b.fs.length cb)) 43))
      have F7 := Lib.hid (Fa.out.below B6.out (Nat.le_refl _))
      have F8 := Lib.hid (Fb.out.below B6.out (Nat.le_refl _))
      go_enter Tryd.func9, Tryd.ntmps9
      have C9 := Lib.hid (rcAwake ((w.alloc (.cells (rcells a.z a.n a.r (.slice A a.fs.length ca)) 43)).alloc (.cells (rcells b.z b.n b.r (.slice B b.fs.length cb)) 43)) (HLA.out _ B6.out))
      go_wp2_with fail
      refine C9.out.mono ?_
      rintro e w10 ⟨rfl, hb11⟩
      have T12 := Lib.hid (T4.out.below hb11 T4.out.lt)
      have T13 := Lib.hid (T5.out.below hb11 T5.out.lt)
      have F14 := Lib.hid (F7.out.below hb11 (Nat.le_refl _))
      have F15 := Lib.hid (F8.out.below hb11 (Nat.le_refl _))
      have B16 := Lib.hid (B6.out.trans (hb11.mono B6.out.size))
      clear hb11
      have M17 := Lib.hid (load_rec T12.out)
      unfold rv at M17
      have C18 := Lib.hid (fewR_any a A ca w10 OKa.out F14.out)
      unfold Rc.v at C18
      unfold rv at C18
      rw [PA.out] at C18
      go_wp2_with (first | ((with_reducible refine wpList_load_by (o := ⟨some 20, .load 43 (.tmp 3), _, _, _, _⟩) ?e1 43 (.tmp 3) ?e2 ⟨w.heap.size, 0, none⟩ ?e3 _ M17.out ?_); (case e1 => rfl); (case e2 => rfl); (case e3 => rfl)))
      refine C18.out.mono ?_
      rintro e w19 ⟨rfl, hb20⟩
      have T21 := Lib.hid (T12.out.below hb20 T12.out.lt)
      have T22 := Lib.hid (T13.out.below hb20 T13.out.lt)
      have F23 := Lib.hid (F14.out.below hb20 (Nat.le_refl _))
      have F24 := Lib.hid (F15.out.below hb20 (Nat.le_refl _))
      have B25 := Lib.hid (B16.out.trans (hb20.mono B16.out.size))
      clear hb20
      have M26 := Lib.hid (load_rec T22.out)
      unfold rv at M26
      have C27 := Lib.hid (fewR_any b B cb w19 OKb.out F24.out)
      unfold Rc.v at C27
      unfold rv at C27
      go_wp2_with (first | ((with_reducible refine wpList_load_by (o := ⟨some 22, .load 43 (.tmp 4), _, _, _, _⟩) ?e1 43 (.tmp 4) ?e2 ⟨(w.heap.size + 1), 0, none⟩ ?e3 _ M26.out ?_); (case e1 => rfl); (case e2 => rfl); (case e3 => rfl)))
      refine C27.out.mono ?_
      rintro e w28 ⟨rfl, hb29⟩
      have T30 := Lib.hid (T21.out.below hb29 T21.out.lt)
      have T31 := Lib.hid (T22.out.below hb29 T22.out.lt)
      have F32 := Lib.hid (F23.out.below hb29 (Nat.le_refl _))
      have F33 := Lib.hid (F24.out.below hb29 (Nat.le_refl _))
      have B34 := Lib.hid (B25.out.trans (hb29.mono B25.out.size))
      clear hb29
      have M38 := Lib.hid (load_rec T30.out)
      unfold rv at M38
      have M39 := Lib.hid (load_rec T31.out)
      unfold rv at M39
      have C40 := Lib.hid (join_any a b A B ca cb w28 (HLA.out _ B34.out) OKa.out OKb.out F32.out F33.out)
      unfold JoinPost Rc.v at C40
      unfold rv at C40
      rw [JV.out] at C40
      dsimp only [Option.getD, Option.isSome] at C40
      go_wp2_with (first | ((with_reducible refine wpList_load_by (o := ⟨some 25, .load 43 (.tmp 3), _, _, _, _⟩) ?e1 43 (.tmp 3) ?e2 ⟨w.heap.size, 0, none⟩ ?e3 _ M38.out ?_); (case e1 => rfl); (case e2 => rfl); (case e3 => rfl)) | ((with_reducible refine wpList_load_by (o := ⟨some 26, .load 43 (.tmp 4), _, _, _, _⟩) ?e1 43 (.tmp 4) ?e2 ⟨(w.heap.size + 1), 0, none⟩ ?e3 _ M39.out ?_); (case e1 => rfl); (case e2 => rfl); (case e3 => rfl)))
      refine C40.out.mono ?_
      rintro e w41 ⟨A35, c36, rfl, hf37, hb42⟩
      have T43 := Lib.hid (T30.out.below hb42 T30.out.lt)
      have T44 := Lib.hid (T31.out.below hb42 T31.out.lt)
      have F45 := Lib.hid (F32.out.below hb42 (Nat.le_refl _))
      have F46 := Lib.hid (F33.out.below hb42 (Nat.le_refl _))
      have B47 := Lib.hid (B34.out.trans (hb42.mono B34.out.size))
      clear hb42
      have F48 := Lib.hid (hf37)
      clear hf37
      go_wp2_with (first | ((with_reducible refine wpList_store_new (o := ⟨none, .store 43 (.tmp 10) (.tmp 28), _, _, _, _⟩) (w := w41) ?e1 (.tmp 10) (.tmp 28) ?e2 w41.heap.size rfl ?e3 j.z j.n j.r (.slice A35 j.fs.length c36) ?e4 OKj.out.len ?e5 ?_); (case e1 => rfl); (case e2 => rfl); (case e3 => rfl); (case e4 => rfl); (case e5 => rfl); intro w49 hb50 hRs; have T51 := Lib.hid hRs; clear hRs; have T52 := Lib.hid (T43.out.below hb50 T43.out.lt); have T53 := Lib.hid (T44.out.below hb50 T44.out.lt); have F54 := Lib.hid (F45.out.below hb50 (Nat.le_refl _)); have F55 := Lib.hid (F46.out.below hb50 (Nat.le_refl _)); have F56 := Lib.hid (F48.out.below hb50 (Nat.le_refl _)); have B57 := Lib.hid (B47.out.trans (hb50.mono B47.out.size)); clear hb50))
      go_ret
      exact ⟨rfl, B57.out⟩
    · have PA := Lib.hid pa
      have PB := Lib.hid (show fewR b.fs = false by rw [pa] at h; simpa using h)
      clear pa h
      have B1 := Lib.hid (Below.refl w.heap.size w)
      have T2n := RcAt.new w OKa.out.len a.n a.r (.slice A a.fs.length ca)
      have T2 := Lib.hid (T2n)
      clear T2n
      have B3 := Lib.hid (B1.out.alloc B1.out.size (.cells (rcells a.z a.n a.r (.slice A a.fs.length ca)) 43))
      have T4 := Lib.hid (T2.out.old (.cells (rcells b.z b.n b.r (.slice B b.fs.length cb)) 43))
      have T5n := RcAt.new (w.alloc (.cells (rcells a.z a.n a.r (.slice A a.fs.length ca)) 43)) OKb.out.len b.n b.r (.slice B b.fs.length cb)
      simp only [World.size_alloc] at T5n
      have T5 := Lib.hid (T5n)
      clear T5n
      have B6 := Lib.hid (B3.out.alloc B3.out.size (.cells (rcells b.z b.n b.r (.slice B b.fs.length cb)) 43))
      have F7 := Lib.hid (Fa.out.below B6.out (Nat.le_refl _))
      have F8 := Lib.hid (Fb.out.below B6.out (Nat.le_refl _))
      go_enter Tryd.func9, Tryd.ntmps9
      have C9 := Lib.hid (rcAwake ((w.alloc (.cells (rcells a.z a.n a.r (.slice A a.fs.length ca)) 43)).alloc (.cells (rcells b.z b.n b.r (.slice B b.fs.length cb)) 43)) (HLA.out _ B6.out))
      go_wp2_with fail
      refine C9.out.mono ?_
      rintro e w10 ⟨rfl, hb11⟩
      have T12 := Lib.hid (T4.out.below hb11 T4.out.lt)
      have T13 := Lib.hid (T5.out.below hb11 T5.out.lt)
      have F14 := Lib.hid (F7.out.below hb11 (Nat.le_refl _))
      have F15 := Lib.hid (F8.out.below hb11 (Nat.le_refl _))
      have B16 := Lib.hid (B6.out.trans (hb11.mono B6.out.size))
      clear hb11
      have M17 := Lib.hid (load_rec T12.out)
      unfold rv at M17
      have C18 := Lib.hid (fewR_any a A ca w10 OKa.out F14.out)
      unfold Rc.v at C18
      unfold rv at C18
      rw [PA.out] at C18
      go_wp2_with (first | ((with_reducible refine wpList_load_by (o := ⟨some 20, .load 43 (.tmp 3), _, _, _, _⟩) ?e1 43 (.tmp 3) ?e2 ⟨w.heap.size, 0, none⟩ ?e3 _ M17.out ?_); (case e1 => rfl); (case e2 => rfl); (case e3 => rfl)))
      refine C18.out.mono ?_
      rintro e w19 ⟨rfl, hb20⟩
      have T21 := Lib.hid (T12.out.below hb20 T12.out.lt)
      have T22 := Lib.hid (T13.out.below hb20 T13.out.lt)
      have F23 := Lib.hid (F14.out.below hb20 (Nat.le_refl _))
      have F24 := Lib.hid (F15.out.below hb20 (Nat.le_refl _))
      have B25 := Lib.hid (B16.out.trans (hb20.mono B16.out.size))
      clear hb20
      have M26 := Lib.hid (load_rec T22.out)
      unfold rv at M26
      have C27 := Lib.hid (fewR_any b B cb w19 OKb.out F24.out)
      unfold Rc.v at C27
      unfold rv at C27
      rw [PB.out] at C27
      go_wp2_with (first | ((with_reducible refine wpList_load_by (o := ⟨some 22, .load 43 (.tmp 4), _, _, _, _⟩) ?e1 43 (.tmp 4) ?e2 ⟨(w.heap.size + 1), 0, none⟩ ?e3 _ M26.out ?_); (case e1 => rfl); (case e2 => rfl); (case e3 => rfl)))
      refine C27.out.mono ?_
      rintro e w28 ⟨rfl, hb29⟩
      have T30 := Lib.hid (T21.out.below hb29 T21.out.lt)
      have T31 := Lib.hid (T22.out.below hb29 T22.out.lt)
      have F32 := Lib.hid (F23.out.below hb29 (Nat.le_refl _))
      have F33 := Lib.hid (F24.out.below hb29 (Nat.le_refl _))
      have B34 := Lib.hid (B25.out.trans (hb29.mono B25.out.size))
      clear hb29
      have M38 := Lib.hid (load_rec T30.out)
      unfold rv at M38
      have M39 := Lib.hid (load_rec T31.out)
      unfold rv at M39
      have C40 := Lib.hid (join_any a b A B ca cb w28 (HLA.out _ B34.out) OKa.out OKb.out F32.out F33.out)
      unfold JoinPost Rc.v at C40
      unfold rv at C40
      rw [JV.out] at C40
      dsimp only [Option.getD, Option.isSome] at C40
      go_wp2_with (first | ((with_reducible refine wpList_load_by (o := ⟨some 25, .load 43 (.tmp 3), _, _, _, _⟩) ?e1 43 (.tmp 3) ?e2 ⟨w.heap.size, 0, none⟩ ?e3 _ M38.out ?_); (case e1 => rfl); (case e2 => rfl); (case e3 => rfl)) | ((with_reducible refine wpList_load_by (o := ⟨some 26, .load 43 (.tmp 4), _, _, _, _⟩) ?e1 43 (.tmp 4) ?e2 ⟨(w.heap.size + 1), 0, none⟩ ?e3 _ M39.out ?_); (case e1 => rfl); (case e2 => rfl); (case e3 => rfl)))
      refine C40.out.mono ?_
      rintro e w41 ⟨A35, c36, rfl, hf37, hb42⟩
      have T43 := Lib.hid (T30.out.below hb42 T30.out.lt)
      have T44 := Lib.hid (T31.out.below hb42 T31.out.lt)
      have F45 := Lib.hid (F32.out.below hb42 (Nat.le_refl _))
      have F46 := Lib.hid (F33.out.below hb42 (Nat.le_refl _))
      have B47 := Lib.hid (B34.out.trans (hb42.mono B34.out.size))
      clear hb42
      have F48 := Lib.hid (hf37)
      clear hf37
      go_wp2_with (first | ((with_reducible refine wpList_store_new (o := ⟨none, .store 43 (.tmp 10) (.tmp 28), _, _, _, _⟩) (w := w41) ?e1 (.tmp 10) (.tmp 28) ?e2 w41.heap.size rfl ?e3 j.z j.n j.r (.slice A35 j.fs.length c36) ?e4 OKj.out.len ?e5 ?_); (case e1 => rfl); (case e2 => rfl); (case e3 => rfl); (case e4 => rfl); (case e5 => rfl); intro w49 hb50 hRs; have T51 := Lib.hid hRs; clear hRs; have T52 := Lib.hid (T43.out.below hb50 T43.out.lt); have T53 := Lib.hid (T44.out.below hb50 T44.out.lt); have F54 := Lib.hid (F45.out.below hb50 (Nat.le_refl _)); have F55 := Lib.hid (F46.out.below hb50 (Nat.le_refl _)); have F56 := Lib.hid (F48.out.below hb50 (Nat.le_refl _)); have B57 := Lib.hid (B47.out.trans (hb50.mono B47.out.size)); clear hb50))
      go_ret
      exact ⟨rfl, B57.out⟩
set_option maxHeartbeats 16000000 in
theorem cells_n00 (a : Rc) (A : Option Addr) (ca : Nat) (b : Rc) (B : Option Addr) (cb : Nat) (no : Int) (w : World) (hlaid : Laid w) (wa : IsRec w a A ca) (wb : IsRec w b B cb) (pa : fewR a.fs = true) (pb : fewR b.fs = true) (j : Rc) (jv : a.join b = some j) (mxj : mx (a.n, a.r) (b.n, b.r) = (j.n, j.r)) (jz : j.z = a.z) (fx : rfind a.fs no = none) (fy : rfind b.fs no = none) (fz : rfind j.fs no = none) :
    Calls Tryd.prog 9 #[a.v A ca, b.v B cb, .int .i64 no] w fun e w' => e = .returned (.bool true) ∧ Below w.heap.size w w' := by
  have HLA := Lib.hid (fun (X : World) (hX : Below w.heap.size w X) => hlaid.below hX (Nat.le_refl _))
  have OKa := Lib.hid wa.1
  have OKb := Lib.hid wb.1
  have Fa := Lib.hid wa.2.1
  have Fb := Lib.hid wb.2.1
  have hz := zeroRec
  unfold rv at hz
  conv => congr; rfl; rfl; (unfold Rc.v rv)
  have PA := Lib.hid pa
  have PB := Lib.hid pb
  have JV := Lib.hid jv
  have MXJ := Lib.hid mxj
  have OKj := Lib.hid (Rc.join_ok wa.1 jv)
  have HE := Lib.hid (show ∀ w9 : World, (Op.equalIn 10000 40 (.agg (bvals j.z)) (.agg (bvals a.z))).run Tryd.prog w9 = .ok true w9 from fun w9 => by
    have := eq_id (Rc.join_ok wa.1 jv).2 wa.1.2 (Rc.join_ok wa.1 jv).1 wa.1.1 w9
    rwa [show (j.z == a.z) = true by rw [beq_iff_eq]; exact jz] at this)
  clear hlaid wa wb pa pb jv mxj jz
  have FX := Lib.hid fx
  have FY := Lib.hid fy
  have FZ := Lib.hid fz
  clear fx fy fz
  have B1 := Lib.hid (Below.refl w.heap.size w)
  have T2n := RcAt.new w OKa.out.len a.n a.r (.slice A a.fs.length ca)
  have T2 := Lib.hid (T2n)
  clear T2n
  have B3 := Lib.hid (B1.out.alloc B1.out.size (.cells (rcells a.z a.n a.r (.slice A a.fs.length ca)) 43))
  have T4 := Lib.hid (T2.out.old (.cells (rcells b.z b.n b.r (.slice B b.fs.length cb)) 43))
  have T5n := RcAt.new (w.alloc (.cells (rcells a.z a.n a.r (.slice A a.fs.length ca)) 43)) OKb.out.len b.n b.r (.slice B b.fs.length cb)
  simp only [World.size_alloc] at T5n
  have T5 := Lib.hid (T5n)
  clear T5n
  have B6 := Lib.hid (B3.out.alloc B3.out.size (.cells (rcells b.z b.n b.r (.slice B b.fs.length cb)) 43))
  have F7 := Lib.hid (Fa.out.below B6.out (Nat.le_refl _))
  have F8 := Lib.hid (Fb.out.below B6.out (Nat.le_refl _))
  go_enter Tryd.func9, Tryd.ntmps9
  have C9 := Lib.hid (rcAwake ((w.alloc (.cells (rcells a.z a.n a.r (.slice A a.fs.length ca)) 43)).alloc (.cells (rcells b.z b.n b.r (.slice B b.fs.length cb)) 43)) (HLA.out _ B6.out))
  go_wp2_with fail
  refine C9.out.mono ?_
  rintro e w10 ⟨rfl, hb11⟩
  have T12 := Lib.hid (T4.out.below hb11 T4.out.lt)
  have T13 := Lib.hid (T5.out.below hb11 T5.out.lt)
  have F14 := Lib.hid (F7.out.below hb11 (Nat.le_refl _))
  have F15 := Lib.hid (F8.out.below hb11 (Nat.le_refl _))
  have B16 := Lib.hid (B6.out.trans (hb11.mono B6.out.size))
  clear hb11
  have M17 := Lib.hid (load_rec T12.out)
  unfold rv at M17
  have C18 := Lib.hid (fewR_any a A ca w10 OKa.out F14.out)
  unfold Rc.v at C18
  unfold rv at C18
  rw [PA.out] at C18
  go_wp2_with (first | ((with_reducible refine wpList_load_by (o := ⟨some 20, .load 43 (.tmp 3), _, _, _, _⟩) ?e1 43 (.tmp 3) ?e2 ⟨w.heap.size, 0, none⟩ ?e3 _ M17.out ?_); (case e1 => rfl); (case e2 => rfl); (case e3 => rfl)))
  refine C18.out.mono ?_
  rintro e w19 ⟨rfl, hb20⟩
  have T21 := Lib.hid (T12.out.below hb20 T12.out.lt)
  have T22 := Lib.hid (T13.out.below hb20 T13.out.lt)
  have F23 := Lib.hid (F14.out.below hb20 (Nat.le_refl _))
  have F24 := Lib.hid (F15.out.below hb20 (Nat.le_refl _))
  have B25 := Lib.hid (B16.out.trans (hb20.mono B16.out.size))
  clear hb20
  have M26 := Lib.hid (load_rec T22.out)
  unfold rv at M26
  have C27 := Lib.hid (fewR_any b B cb w19 OKb.out F24.out)
  unfold Rc.v at C27
  unfold rv at C27
  rw [PB.out] at C27
  go_wp2_with (first | ((with_reducible refine wpList_load_by (o := ⟨some 22, .load 43 (.tmp 4), _, _, _, _⟩) ?e1 43 (.tmp 4) ?e2 ⟨(w.heap.size + 1), 0, none⟩ ?e3 _ M26.out ?_); (case e1 => rfl); (case e2 => rfl); (case e3 => rfl)))
  refine C27.out.mono ?_
  rintro e w28 ⟨rfl, hb29⟩
  have T30 := Lib.hid (T21.out.below hb29 T21.out.lt)
  have T31 := Lib.hid (T22.out.below hb29 T22.out.lt)
  have F32 := Lib.hid (F23.out.below hb29 (Nat.le_refl _))
  have F33 := Lib.hid (F24.out.below hb29 (Nat.le_refl _))
  have B34 := Lib.hid (B25.out.trans (hb29.mono B25.out.size))
  clear hb29
  have M38 := Lib.hid (load_rec T30.out)
  unfold rv at M38
  have M39 := Lib.hid (load_rec T31.out)
  unfold rv at M39
  have C40 := Lib.hid (join_any a b A B ca cb w28 (HLA.out _ B34.out) OKa.out OKb.out F32.out F33.out)
  unfold JoinPost Rc.v at C40
  unfold rv at C40
  rw [JV.out] at C40
  dsimp only [Option.getD, Option.isSome] at C40
  go_wp2_with (first | ((with_reducible refine wpList_load_by (o := ⟨some 25, .load 43 (.tmp 3), _, _, _, _⟩) ?e1 43 (.tmp 3) ?e2 ⟨w.heap.size, 0, none⟩ ?e3 _ M38.out ?_); (case e1 => rfl); (case e2 => rfl); (case e3 => rfl)) | ((with_reducible refine wpList_load_by (o := ⟨some 26, .load 43 (.tmp 4), _, _, _, _⟩) ?e1 43 (.tmp 4) ?e2 ⟨(w.heap.size + 1), 0, none⟩ ?e3 _ M39.out ?_); (case e1 => rfl); (case e2 => rfl); (case e3 => rfl)))
  refine C40.out.mono ?_
  rintro e w41 ⟨A35, c36, rfl, hf37, hb42⟩
  have T43 := Lib.hid (T30.out.below hb42 T30.out.lt)
  have T44 := Lib.hid (T31.out.below hb42 T31.out.lt)
  have F45 := Lib.hid (F32.out.below hb42 (Nat.le_refl _))
  have F46 := Lib.hid (F33.out.below hb42 (Nat.le_refl _))
  have B47 := Lib.hid (B34.out.trans (hb42.mono B34.out.size))
  clear hb42
  have F48 := Lib.hid (hf37)
  clear hf37
  go_wp2_with (first | ((with_reducible refine wpList_store_new (o := ⟨none, .store 43 (.tmp 10) (.tmp 28), _, _, _, _⟩) (w := w41) ?e1 (.tmp 10) (.tmp 28) ?e2 w41.heap.size rfl ?e3 j.z j.n j.r (.slice A35 j.fs.length c36) ?e4 OKj.out.len ?e5 ?_); (case e1 => rfl); (case e2 => rfl); (case e3 => rfl); (case e4 => rfl); (case e5 => rfl); intro w49 hb50 hRs; have T51 := Lib.hid hRs; clear hRs; have T52 := Lib.hid (T43.out.below hb50 T43.out.lt); have T53 := Lib.hid (T44.out.below hb50 T44.out.lt); have F54 := Lib.hid (F45.out.below hb50 (Nat.le_refl _)); have F55 := Lib.hid (F46.out.below hb50 (Nat.le_refl _)); have F56 := Lib.hid (F48.out.below hb50 (Nat.le_refl _)); have B57 := Lib.hid (B47.out.trans (hb50.mono B47.out.size)); clear hb50; have M58 := Lib.hid (load_rec T52.out); unfold rv at M58; have C59 := Lib.hid (find_any' a A ca no w49 OKa.out F54.out); unfold FindPost Rc.v at C59; unfold rv at C59; rw [FX.out] at C59; dsimp only [Option.getD, Option.isSome, Cel.v, cel00] at C59) | ((with_reducible refine wpList_load_by (o := ⟨some 46, .load 43 (.tmp 3), _, _, _, _⟩) ?e1 43 (.tmp 3) ?e2 ⟨w.heap.size, 0, none⟩ ?e3 _ M58.out ?_); (case e1 => rfl); (case e2 => rfl); (case e3 => rfl)))
  refine C59.out.mono ?_
  rintro e w60 ⟨rfl, hb61⟩
  have T62 := Lib.hid (T52.out.below hb61 T52.out.lt)
  have T63 := Lib.hid (T53.out.below hb61 T53.out.lt)
  have T64 := Lib.hid (T51.out.below hb61 T51.out.lt)
  have F65 := Lib.hid (F54.out.below hb61 (Nat.le_refl _))
  have F66 := Lib.hid (F55.out.below hb61 (Nat.le_refl _))
  have F67 := Lib.hid (F56.out.below hb61 (Nat.le_refl _))
  have B68 := Lib.hid (B57.out.trans (hb61.mono B57.out.size))
  clear hb61
  have hb69 := (Below.refl w60.heap.size w60).alloc (Nat.le_refl _) (.cells #[.int .i64 0, .int .i64 0, .string ⟨#[]⟩] 25)
  have T70 := Lib.hid (ClAt.new w60 (⟨0, 0, ⟨#[]⟩⟩ : Cel))
  try dsimp only at T70
  have T71 := Lib.hid (T62.out.below hb69 T62.out.lt)
  have T72 := Lib.hid (T63.out.below hb69 T63.out.lt)
  have T73 := Lib.hid (T64.out.below hb69 T64.out.lt)
  have F74 := Lib.hid (F65.out.below hb69 (Nat.le_refl _))
  have F75 := Lib.hid (F66.out.below hb69 (Nat.le_refl _))
  have F76 := Lib.hid (F67.out.below hb69 (Nat.le_refl _))
  have B77 := Lib.hid (B68.out.trans (hb69.mono B68.out.size))
  clear hb69
  have M78 := Lib.hid (load_rec T72.out)
  unfold rv at M78
  have C79 := Lib.hid (find_any' b B cb no (w60.alloc (.cells #[.int .i64 0, .int .i64 0, .string ⟨#[]⟩] 25)) OKb.out F75.out)
  unfold FindPost Rc.v at C79
  unfold rv at C79
  rw [FY.out] at C79
  dsimp only [Option.getD, Option.isSome, Cel.v, cel00] at C79
  go_wp2_with (first | ((with_reducible refine wpList_load_by (o := ⟨some 52, .load 43 (.tmp 4), _, _, _, _⟩) ?e1 43 (.tmp 4) ?e2 ⟨(w.heap.size + 1), 0, none⟩ ?e3 _ M78.out ?_); (case e1 => rfl); (case e2 => rfl); (case e3 => rfl)))
  refine C79.out.mono ?_
  rintro e w80 ⟨rfl, hb81⟩
  have T82 := Lib.hid (T71.out.below hb81 T71.out.lt)
  have T83 := Lib.hid (T72.out.below hb81 T72.out.lt)
  have T84 := Lib.hid (T73.out.below hb81 T73.out.lt)
  have T85 := Lib.hid (T70.out.below hb81 T70.out.lt)
  have F86 := Lib.hid (F74.out.below hb81 (Nat.le_refl _))
  have F87 := Lib.hid (F75.out.below hb81 (Nat.le_refl _))
  have F88 := Lib.hid (F76.out.below hb81 (Nat.le_refl _))
  have B89 := Lib.hid (B77.out.trans (hb81.mono B77.out.size))
  clear hb81
  have hb90 := (Below.refl w80.heap.size w80).alloc (Nat.le_refl _) (.cells #[.int .i64 0, .int .i64 0, .string ⟨#[]⟩] 25)
  have T91 := Lib.hid (ClAt.new w80 (⟨0, 0, ⟨#[]⟩⟩ : Cel))
  try dsimp only at T91
  have T92 := Lib.hid (T82.out.below hb90 T82.out.lt)
  have T93 := Lib.hid (T83.out.below hb90 T83.out.lt)
  have T94 := Lib.hid (T84.out.below hb90 T84.out.lt)
  have T95 := Lib.hid (T85.out.below hb90 T85.out.lt)
  have F96 := Lib.hid (F86.out.below hb90 (Nat.le_refl _))
  have F97 := Lib.hid (F87.out.below hb90 (Nat.le_refl _))
  have F98 := Lib.hid (F88.out.below hb90 (Nat.le_refl _))
  have B99 := Lib.hid (B89.out.trans (hb90.mono B89.out.size))
  clear hb90
  have M100 := Lib.hid (load_rec T94.out)
  unfold rv at M100
  have C101 := Lib.hid (find_any' j A35 c36 no (w80.alloc (.cells #[.int .i64 0, .int .i64 0, .string ⟨#[]⟩] 25)) OKj.out F98.out)
  unfold FindPost Rc.v at C101
  unfold rv at C101
  rw [FZ.out] at C101
  dsimp only [Option.getD, Option.isSome, Cel.v, cel00] at C101
  go_wp2_with (first | ((with_reducible refine wpList_load_by (o := ⟨some 58, .load 43 (.tmp 10), _, _, _, _⟩) ?e1 43 (.tmp 10) ?e2 ⟨w41.heap.size, 0, none⟩ ?e3 _ M100.out ?_); (case e1 => rfl); (case e2 => rfl); (case e3 => rfl)))
  refine C101.out.mono ?_
  rintro e w102 ⟨rfl, hb103⟩
  have T104 := Lib.hid (T92.out.below hb103 T92.out.lt)
  have T105 := Lib.hid (T93.out.below hb103 T93.out.lt)
  have T106 := Lib.hid (T94.out.below hb103 T94.out.lt)
  have T107 := Lib.hid (T95.out.below hb103 T95.out.lt)
  have T108 := Lib.hid (T91.out.below hb103 T91.out.lt)
  have F109 := Lib.hid (F96.out.below hb103 (Nat.le_refl _))
  have F110 := Lib.hid (F97.out.below hb103 (Nat.le_refl _))
  have F111 := Lib.hid (F98.out.below hb103 (Nat.le_refl _))
  have B112 := Lib.hid (B99.out.trans (hb103.mono B99.out.size))
  clear hb103
  have hb113 := (Below.refl w102.heap.size w102).alloc (Nat.le_refl _) (.cells #[.int .i64 0, .int .i64 0, .string ⟨#[]⟩] 25)
  have T114 := Lib.hid (ClAt.new w102 (⟨0, 0, ⟨#[]⟩⟩ : Cel))
  try dsimp only at T114
  have T115 := Lib.hid (T104.out.below hb113 T104.out.lt)
  have T116 := Lib.hid (T105.out.below hb113 T105.out.lt)
  have T117 := Lib.hid (T106.out.below hb113 T106.out.lt)
  have T118 := Lib.hid (T107.out.below hb113 T107.out.lt)
  have T119 := Lib.hid (T108.out.below hb113 T108.out.lt)
  have F120 := Lib.hid (F109.out.below hb113 (Nat.le_refl _))
  have F121 := Lib.hid (F110.out.below hb113 (Nat.le_refl _))
  have F122 := Lib.hid (F111.out.below hb113 (Nat.le_refl _))
  have B123 := Lib.hid (B112.out.trans (hb113.mono B112.out.size))
  clear hb113
  have U124 := Lib.hid (fun (w9 : World) => max_any (a.n, a.r) (b.n, b.r) w9)
  rw [MXJ.out] at U124
  unfold st at U124
  dsimp only at U124
  go_wp2_with fail
  refine wp_region_G (w102.alloc (.cells #[.int .i64 0, .int .i64 0, .string ⟨#[]⟩] 25)) (by kernel_rfl) ?_
  refine wpG_take (i := 0) (oi := ⟨some 118, _, _, _, _, _⟩) (v := ?_) rfl (by kernel_rfl) (by kernel_rfl) (by kernel_rfl) (Or.inl ⟨by rfl, unib_val ?_⟩) ?_; rotate_left; (focus (intro w9 hSw; go_simp; try with_reducible rfl)); simp only [Act.put, List.setIfInBounds_toArray, List.set_cons_zero, List.set_cons_succ]
  refine wpG_take (i := 1) (oi := ⟨some 119, _, _, _, _, _⟩) (v := ?_) rfl (by kernel_rfl) (by kernel_rfl) (by kernel_rfl) (Or.inl ⟨by rfl, unib_val ?_⟩) ?_; rotate_left; (focus (intro w9 hSw; go_simp; try with_reducible rfl)); simp only [Act.put, List.setIfInBounds_toArray, List.set_cons_zero, List.set_cons_succ]
  refine wpG_take (i := 2) (oi := ⟨some 120, _, _, _, _, _⟩) (v := ?_) rfl (by kernel_rfl) (by kernel_rfl) (by kernel_rfl) (Or.inl ⟨by rfl, unib_val ?_⟩) ?_; rotate_left; (focus (intro w9 hSw; go_simp; try with_reducible rfl)); simp only [Act.put, List.setIfInBounds_toArray, List.set_cons_zero, List.set_cons_succ]
  refine wpG_take (i := 3) (oi := ⟨some 121, _, _, _, _, _⟩) (v := ?_) rfl (by kernel_rfl) (by kernel_rfl) (by kernel_rfl) (Or.inl ⟨by rfl, unib_val ?_⟩) ?_; rotate_left; (focus (intro w9 hSw; go_simp; try with_reducible rfl)); simp only [Act.put, List.setIfInBounds_toArray, List.set_cons_zero, List.set_cons_succ]
  refine wpG_take (i := 4) (oi := ⟨some 122, _, _, _, _, _⟩) (v := ?_) rfl (by kernel_rfl) (by kernel_rfl) (by kernel_rfl) (Or.inl ⟨by rfl, unib_val ?_⟩) ?_; rotate_left; (focus (intro w9 hSw; go_simp; try with_reducible rfl)); simp only [Act.put, List.setIfInBounds_toArray, List.set_cons_zero, List.set_cons_succ]
  refine wpG_take (i := 5) (oi := ⟨some 123, _, _, _, _, _⟩) (v := ?_) rfl (by kernel_rfl) (by kernel_rfl) (by kernel_rfl) (Or.inl ⟨by rfl, unib_val ?_⟩) ?_; rotate_left; (focus (intro w9 hSw; have q9 := T117.out.below hSw T117.out.lt; have q0 := q9.c16; have q1 := q9.c17; go_simp; try with_reducible rfl)); simp only [Act.put, List.setIfInBounds_toArray, List.set_cons_zero, List.set_cons_succ]
  refine wpG_take (i := 6) (oi := ⟨some 124, _, _, _, _, _⟩) (v := ?_) rfl (by kernel_rfl) (by kernel_rfl) (by kernel_rfl) (Or.inl ⟨by rfl, unib_val ?_⟩) ?_; rotate_left; (focus (intro w9 hSw; go_simp; try with_reducible rfl)); simp only [Act.put, List.setIfInBounds_toArray, List.set_cons_zero, List.set_cons_succ]
  refine wpG_take (i := 7) (oi := ⟨some 125, _, _, _, _, _⟩) (v := ?_) rfl (by kernel_rfl) (by kernel_rfl) (by kernel_rfl) (Or.inl ⟨by rfl, unib_val ?_⟩) ?_; rotate_left; (focus (intro w9 hSw; have q9 := T115.out.below hSw T115.out.lt; have q0 := q9.c16; have q1 := q9.c17; go_simp; try with_reducible rfl)); simp only [Act.put, List.setIfInBounds_toArray, List.set_cons_zero, List.set_cons_succ]
  refine wpG_take (i := 8) (oi := ⟨some 126, _, _, _, _, _⟩) (v := ?_) rfl (by kernel_rfl) (by kernel_rfl) (by kernel_rfl) (Or.inl ⟨by rfl, unib_val ?_⟩) ?_; rotate_left; (focus (intro w9 hSw; go_simp; try with_reducible rfl)); simp only [Act.put, List.setIfInBounds_toArray, List.set_cons_zero, List.set_cons_succ]
  refine wpG_take (i := 9) (oi := ⟨some 127, _, _, _, _, _⟩) (v := ?_) rfl (by kernel_rfl) (by kernel_rfl) (by kernel_rfl) (Or.inl ⟨by rfl, unib_val ?_⟩) ?_; rotate_left; (focus (intro w9 hSw; have q9 := T116.out.below hSw T116.out.lt; have q0 := q9.c16; have q1 := q9.c17; go_simp; try with_reducible rfl)); simp only [Act.put, List.setIfInBounds_toArray, List.set_cons_zero, List.set_cons_succ]
  refine wpG_take (i := 10) (oi := ⟨some 128, _, _, _, _, _⟩) rfl (by kernel_rfl) (by kernel_rfl) (by kernel_rfl) (Or.inl ⟨by rfl, unib_call ?_ U124.out⟩) ?_; (focus (intro w9 hSw; go_simp; try with_reducible rfl)); simp only [Act.put, List.setIfInBounds_toArray, List.set_cons_zero, List.set_cons_succ]
  refine wpG_take (i := 11) (oi := ⟨some 129, _, _, _, _, _⟩) (v := ?_) rfl (by kernel_rfl) (by kernel_rfl) (by kernel_rfl) (Or.inl ⟨by rfl, unib_val ?_⟩) ?_; rotate_left; (focus (intro w9 hSw; go_simp; try with_reducible rfl)); simp only [Act.put, List.setIfInBounds_toArray, List.set_cons_zero, List.set_cons_succ]
  refine wpG_take (i := 12) (oi := ⟨some 130, _, _, _, _, _⟩) (v := ?_) rfl (by kernel_rfl) (by kernel_rfl) (by kernel_rfl) (Or.inl ⟨by rfl, unib_val ?_⟩) ?_; rotate_left; (focus (intro w9 hSw; go_simp; try with_reducible rfl)); simp only [Act.put, List.setIfInBounds_toArray, List.set_cons_zero, List.set_cons_succ]
  refine wpG_take (i := 13) (oi := ⟨some 131, _, _, _, _, _⟩) (v := ?_) rfl (by kernel_rfl) (by kernel_rfl) (by kernel_rfl) (Or.inl ⟨by rfl, unib_val ?_⟩) ?_; rotate_left; (focus (intro w9 hSw; go_simp; try with_reducible rfl)); simp only [Act.put, List.setIfInBounds_toArray, List.set_cons_zero, List.set_cons_succ]
  refine wpG_take (i := 14) (oi := ⟨some 132, _, _, _, _, _⟩) (v := ?_) rfl (by kernel_rfl) (by kernel_rfl) (by kernel_rfl) (Or.inl ⟨by rfl, unib_val ?_⟩) ?_; rotate_left; (focus (intro w9 hSw; go_simp; try with_reducible rfl)); simp only [Act.put, List.setIfInBounds_toArray, List.set_cons_zero, List.set_cons_succ]
  refine wpG_take (i := 15) (oi := ⟨some 133, _, _, _, _, _⟩) (v := (.agg (bvals j.z))) rfl (by kernel_rfl) (by kernel_rfl) (by kernel_rfl) (Or.inl ⟨by rfl, unib_val ?_⟩) ?_; (focus (intro w9 hSw; exact exec_load_by 40 _ rfl ⟨w41.heap.size, 0, none⟩ rfl (load_id (T117.out.below hSw T117.out.lt)))); simp only [Act.put, List.setIfInBounds_toArray, List.set_cons_zero, List.set_cons_succ]
  refine wpG_take (i := 16) (oi := ⟨some 134, _, _, _, _, _⟩) (v := ?_) rfl (by kernel_rfl) (by kernel_rfl) (by kernel_rfl) (Or.inl ⟨by rfl, unib_val ?_⟩) ?_; rotate_left; (focus (intro w9 hSw; go_simp; try with_reducible rfl)); simp only [Act.put, List.setIfInBounds_toArray, List.set_cons_zero, List.set_cons_succ]
  refine wpG_take (i := 17) (oi := ⟨some 135, _, _, _, _, _⟩) (v := (.agg (bvals a.z))) rfl (by kernel_rfl) (by kernel_rfl) (by kernel_rfl) (Or.inl ⟨by rfl, unib_val ?_⟩) ?_; (focus (intro w9 hSw; exact exec_load_by 40 _ rfl ⟨w.heap.size, 0, none⟩ rfl (load_id (T115.out.below hSw T115.out.lt)))); simp only [Act.put, List.setIfInBounds_toArray, List.set_cons_zero, List.set_cons_succ]
  refine wpG_take (i := 18) (oi := ⟨some 136, _, _, _, _, _⟩) (v := ?_) rfl (by kernel_rfl) (by kernel_rfl) (by kernel_rfl) (Or.inl ⟨by rfl, unib_val ?_⟩) ?_; rotate_left; (focus (intro w9 hSw; have q0 := HE.out w9; go_simp; try with_reducible rfl)); simp only [Act.put, List.setIfInBounds_toArray, List.set_cons_zero, List.set_cons_succ]
  refine wpG_take (i := 19) (oi := ⟨some 137, _, _, _, _, _⟩) (v := ?_) rfl (by kernel_rfl) (by kernel_rfl) (by kernel_rfl) (Or.inl ⟨by rfl, unib_val ?_⟩) ?_; rotate_left; (focus (intro w9 hSw; go_simp; try with_reducible rfl)); simp only [Act.put, List.setIfInBounds_toArray, List.set_cons_zero, List.set_cons_succ]
  refine wpG_take (i := 20) (oi := ⟨some 6, _, _, _, _, _⟩) (v := ?_) rfl (by kernel_rfl) (by kernel_rfl) (by kernel_rfl) (Or.inl ⟨by rfl, unib_val ?_⟩) ?_; rotate_left; (focus (intro w9 hSw; go_simp; try with_reducible rfl)); simp only [Act.put, List.setIfInBounds_toArray, List.set_cons_zero, List.set_cons_succ]
  refine wpG_done (by kernel_rfl) ?_ _
  intro w9 hSw _
  go_wp2
  go_ret
  exact ⟨rfl, B123.out.trans (hSw.mono B123.out.size)⟩
set_option maxHeartbeats 16000000 in
theorem cells_n01 (a : Rc) (A : Option Addr) (ca : Nat) (b : Rc) (B : Option Addr) (cb : Nat) (no : Int) (w : World) (hlaid : Laid w) (wa : IsRec w a A ca) (wb : IsRec w b B cb) (pa : fewR a.fs = true) (pb : fewR b.fs = true) (j : Rc) (jv : a.join b = some j) (mxj : mx (a.n, a.r) (b.n, b.r) = (j.n, j.r)) (jz : j.z = a.z) (y : Cel) (fx : rfind a.fs no = none) (fy : rfind b.fs no = some y) (fz : rfind j.fs no = none) (zy : y.s.size ≤ 300) (sy : stLess j.n j.r y.n y.r = false) :
    Calls Tryd.prog 9 #[a.v A ca, b.v B cb, .int .i64 no] w fun e w' => e = .returned (.bool true) ∧ Below w.heap.size w w' := by
  have HLA := Lib.hid (fun (X : World) (hX : Below w.heap.size w X) => hlaid.below hX (Nat.le_refl _))
  have OKa := Lib.hid wa.1
  have OKb := Lib.hid wb.1
  have Fa := Lib.hid wa.2.1
  have Fb := Lib.hid wb.2.1
  have hz := zeroRec
  unfold rv at hz
  conv => congr; rfl; rfl; (unfold Rc.v rv)
  have PA := Lib.hid pa
  have PB := Lib.hid pb
  have JV := Lib.hid jv
  have MXJ := Lib.hid mxj
  have OKj := Lib.hid (Rc.join_ok wa.1 jv)
  have HE := Lib.hid (show ∀ w9 : World, (Op.equalIn 10000 40 (.agg (bvals j.z)) (.agg (bvals a.z))).run Tryd.prog w9 = .ok true w9 from fun w9 => by
    have := eq_id (Rc.join_ok wa.1 jv).2 wa.1.2 (Rc.join_ok wa.1 jv).1 wa.1.1 w9
    rwa [show (j.z == a.z) = true by rw [beq_iff_eq]; exact jz] at this)
  clear hlaid wa wb pa pb jv mxj jz
  have FX := Lib.hid fx
  have FY := Lib.hid fy
  have FZ := Lib.hid fz
  have SZy := Lib.hid zy
  have Sy := Lib.hid sy
  clear fx fy fz zy sy
  have B1 := Lib.hid (Below.refl w.heap.size w)
  have T2n := RcAt.new w OKa.out.len a.n a.r (.slice A a.fs.length ca)
  have T2 := Lib.hid (T2n)
  clear T2n
  have B3 := Lib.hid (B1.out.alloc B1.out.size (.cells (rcells a.z a.n a.r (.slice A a.fs.length ca)) 43))
  have T4 := Lib.hid (T2.out.old (.cells (rcells b.z b.n b.r (.slice B b.fs.length cb)) 43))
  have T5n := RcAt.new (w.alloc (.cells (rcells a.z a.n a.r (.slice A a.fs.length ca)) 43)) OKb.out.len b.n b.r (.slice B b.fs.length cb)
  simp only [World.size_alloc] at T5n
  have T5 := Lib.hid (T5n)
  clear T5n
  have B6 := Lib.hid (B3.out.alloc B3.out.size (.cells (rcells b.z b.n b.r (.slice B b.fs.length cb)) 43))
  have F7 := Lib.hid (Fa.out.below B6.out (Nat.le_refl _))
  have F8 := Lib.hid (Fb.out.below B6.out (Nat.le_refl _))
  go_enter Tryd.func9, Tryd.ntmps9
  have C9 := Lib.hid (rcAwake ((w.alloc (.cells (rcells a.z a.n a.r (.slice A a.fs.length ca)) 43)).alloc (.cells (rcells b.z b.n b.r (.slice B b.fs.length cb)) 43)) (HLA.out _ B6.out))
  go_wp2_with fail
  refine C9.out.mono ?_
  rintro e w10 ⟨rfl, hb11⟩
  have T12 := Lib.hid (T4.out.below hb11 T4.out.lt)
  have T13 := Lib.hid (T5.out.below hb11 T5.out.lt)
  have F14 := Lib.hid (F7.out.below hb11 (Nat.le_refl _))
  have F15 := Lib.hid (F8.out.below hb11 (Nat.le_refl _))
  have B16 := Lib.hid (B6.out.trans (hb11.mono B6.out.size))
  clear hb11
  have M17 := Lib.hid (load_rec T12.out)
  unfold rv at M17
  have C18 := Lib.hid (fewR_any a A ca w10 OKa.out F14.out)
  unfold Rc.v at C18
  unfold rv at C18
  rw [PA.out] at C18
  go_wp2_with (first | ((with_reducible refine wpList_load_by (o := ⟨some 20, .load 43 (.tmp 3), _, _, _, _⟩) ?e1 43 (.tmp 3) ?e2 ⟨w.heap.size, 0, none⟩ ?e3 _ M17.out ?_); (case e1 => rfl); (case e2 => rfl); (case e3 => rfl)))
  refine C18.out.mono ?_
  rintro e w19 ⟨rfl, hb20⟩
  have T21 := Lib.hid (T12.out.below hb20 T12.out.lt)
  have T22 := Lib.hid (T13.out.below hb20 T13.out.lt)
  have F23 := Lib.hid (F14.out.below hb20 (Nat.le_refl _))
  have F24 := Lib.hid (F15.out.below hb20 (Nat.le_refl _))
  have B25 := Lib.hid (B16.out.trans (hb20.mono B16.out.size))
  clear hb20
  have M26 := Lib.hid (load_rec T22.out)
  unfold rv at M26
  have C27 := Lib.hid (fewR_any b B cb w19 OKb.out F24.out)
  unfold Rc.v at C27
  unfold rv at C27
  rw [PB.out] at C27
  go_wp2_with (first | ((with_reducible refine wpList_load_by (o := ⟨some 22, .load 43 (.tmp 4), _, _, _, _⟩) ?e1 43 (.tmp 4) ?e2 ⟨(w.heap.size + 1), 0, none⟩ ?e3 _ M26.out ?_); (case e1 => rfl); (case e2 => rfl); (case e3 => rfl)))
  refine C27.out.mono ?_
  rintro e w28 ⟨rfl, hb29⟩
  have T30 := Lib.hid (T21.out.below hb29 T21.out.lt)
  have T31 := Lib.hid (T22.out.below hb29 T22.out.lt)
  have F32 := Lib.hid (F23.out.below hb29 (Nat.le_refl _))
  have F33 := Lib.hid (F24.out.below hb29 (Nat.le_refl _))
  have B34 := Lib.hid (B25.out.trans (hb29.mono B25.out.size))
  clear hb29
  have M38 := Lib.hid (load_rec T30.out)
  unfold rv at M38
  have M39 := Lib.hid (load_rec T31.out)
  unfold rv at M39
  have C40 := Lib.hid (join_any a b A B ca cb w28 (HLA.out _ B34.out) OKa.out OKb.out F32.out F33.out)
  unfold JoinPost Rc.v at C40
  unfold rv at C40
  rw [JV.out] at C40
  dsimp only [Option.getD, Option.isSome] at C40
  go_wp2_with (first | ((with_reducible refine wpList_load_by (o := ⟨some 25, .load 43 (.tmp 3), _, _, _, _⟩) ?e1 43 (.tmp 3) ?e2 ⟨w.heap.size, 0, none⟩ ?e3 _ M38.out ?_); (case e1 => rfl); (case e2 => rfl); (case e3 => rfl)) | ((with_reducible refine wpList_load_by (o := ⟨some 26, .load 43 (.tmp 4), _, _, _, _⟩) ?e1 43 (.tmp 4) ?e2 ⟨(w.heap.size + 1), 0, none⟩ ?e3 _ M39.out ?_); (case e1 => rfl); (case e2 => rfl); (case e3 => rfl)))
  refine C40.out.mono ?_
  rintro e w41 ⟨A35, c36, rfl, hf37, hb42⟩
  have T43 := Lib.hid (T30.out.below hb42 T30.out.lt)
  have T44 := Lib.hid (T31.out.below hb42 T31.out.lt)
  have F45 := Lib.hid (F32.out.below hb42 (Nat.le_refl _))
  have F46 := Lib.hid (F33.out.below hb42 (Nat.le_refl _))
  have B47 := Lib.hid (B34.out.trans (hb42.mono B34.out.size))
  clear hb42
  have F48 := Lib.hid (hf37)
  clear hf37
  go_wp2_with (first | ((with_reducible refine wpList_store_new (o := ⟨none, .store 43 (.tmp 10) (.tmp 28), _, _, _, _⟩) (w := w41) ?e1 (.tmp 10) (.tmp 28) ?e2 w41.heap.size rfl ?e3 j.z j.n j.r (.slice A35 j.fs.length c36) ?e4 OKj.out.len ?e5 ?_); (case e1 => rfl); (case e2 => rfl); (case e3 => rfl); (case e4 => rfl); (case e5 => rfl); intro w49 hb50 hRs; have T51 := Lib.hid hRs; clear hRs; have T52 := Lib.hid (T43.out.below hb50 T43.out.lt); have T53 := Lib.hid (T44.out.below hb50 T44.out.lt); have F54 := Lib.hid (F45.out.below hb50 (Nat.le_refl _)); have F55 := Lib.hid (F46.out.below hb50 (Nat.le_refl _)); have F56 := Lib.hid (F48.out.below hb50 (Nat.le_refl _)); have B57 := Lib.hid (B47.out.trans (hb50.mono B47.out.size)); clear hb50; have M58 := Lib.hid (load_rec T52.out); unfold rv at M58; have C59 := Lib.hid (find_any' a A ca no w49 OKa.out F54.out); unfold FindPost Rc.v at C59; unfold rv at C59; rw [FX.out] at C59; dsimp only [Option.getD, Option.isSome, Cel.v, cel00] at C59) | ((with_reducible refine wpList_load_by (o := ⟨some 46, .load 43 (.tmp 3), _, _, _, _⟩) ?e1 43 (.tmp 3) ?e2 ⟨w.heap.size, 0, none⟩ ?e3 _ M58.out ?_); (case e1 => rfl); (case e2 => rfl); (case e3 => rfl)))
  refine C59.out.mono ?_
  rintro e w60 ⟨rfl, hb61⟩
  have T62 := Lib.hid (T52.out.below hb61 T52.out.lt)
  have T63 := Lib.hid (T53.out.below hb61 T53.out.lt)
  have T64 := Lib.hid (T51.out.below hb61 T51.out.lt)
  have F65 := Lib.hid (F54.out.below hb61 (Nat.le_refl _))
  have F66 := Lib.hid (F55.out.below hb61 (Nat.le_refl _))
  have F67 := Lib.hid (F56.out.below hb61 (Nat.le_refl _))
  have B68 := Lib.hid (B57.out.trans (hb61.mono B57.out.size))
  clear hb61
  have hb69 := (Below.refl w60.heap.size w60).alloc (Nat.le_refl _) (.cells #[.int .i64 0, .int .i64 0, .string ⟨#[]⟩] 25)
  have T70 := Lib.hid (ClAt.new w60 (⟨0, 0, ⟨#[]⟩⟩ : Cel))
  try dsimp only at T70
  have T71 := Lib.hid (T62.out.below hb69 T62.out.lt)
  have T72 := Lib.hid (T63.out.below hb69 T63.out.lt)
  have T73 := Lib.hid (T64.out.below hb69 T64.out.lt)
  have F74 := Lib.hid (F65.out.below hb69 (Nat.le_refl _))
  have F75 := Lib.hid (F66.out.below hb69 (Nat.le_refl _))
  have F76 := Lib.hid (F67.out.below hb69 (Nat.le_refl _))
  have B77 := Lib.hid (B68.out.trans (hb69.mono B68.out.size))
  clear hb69
  have M78 := Lib.hid (load_rec T72.out)
  unfold rv at M78
  have C79 := Lib.hid (find_any' b B cb no (w60.alloc (.cells #[.int .i64 0, .int .i64 0, .string ⟨#[]⟩] 25)) OKb.out F75.out)
  unfold FindPost Rc.v at C79
  unfold rv at C79
  rw [FY.out] at C79
  dsimp only [Option.getD, Option.isSome, Cel.v, cel00] at C79
  go_wp2_with (first | ((with_reducible refine wpList_load_by (o := ⟨some 52, .load 43 (.tmp 4), _, _, _, _⟩) ?e1 43 (.tmp 4) ?e2 ⟨(w.heap.size + 1), 0, none⟩ ?e3 _ M78.out ?_); (case e1 => rfl); (case e2 => rfl); (case e3 => rfl)))
  refine C79.out.mono ?_
  rintro e w80 ⟨rfl, hb81⟩
  have T82 := Lib.hid (T71.out.below hb81 T71.out.lt)
  have T83 := Lib.hid (T72.out.below hb81 T72.out.lt)
  have T84 := Lib.hid (T73.out.below hb81 T73.out.lt)
  have T85 := Lib.hid (T70.out.below hb81 T70.out.lt)
  have F86 := Lib.hid (F74.out.below hb81 (Nat.le_refl _))
  have F87 := Lib.hid (F75.out.below hb81 (Nat.le_refl _))
  have F88 := Lib.hid (F76.out.below hb81 (Nat.le_refl _))
  have B89 := Lib.hid (B77.out.trans (hb81.mono B77.out.size))
  clear hb81
  have hb90 := (Below.refl w80.heap.size w80).alloc (Nat.le_refl _) (.cells #[.int .i64 y.n, .int .i64 y.r, .string y.s] 25)
  have T91 := Lib.hid (ClAt.new w80 y)
  try dsimp only at T91
  have T92 := Lib.hid (T82.out.below hb90 T82.out.lt)
  have T93 := Lib.hid (T83.out.below hb90 T83.out.lt)
  have T94 := Lib.hid (T84.out.below hb90 T84.out.lt)
  have T95 := Lib.hid (T85.out.below hb90 T85.out.lt)
  have F96 := Lib.hid (F86.out.below hb90 (Nat.le_refl _))
  have F97 := Lib.hid (F87.out.below hb90 (Nat.le_refl _))
  have F98 := Lib.hid (F88.out.below hb90 (Nat.le_refl _))
  have B99 := Lib.hid (B89.out.trans (hb90.mono B89.out.size))
  clear hb90
  have M100 := Lib.hid (load_rec T94.out)
  unfold rv at M100
  have C101 := Lib.hid (find_any' j A35 c36 no (w80.alloc (.cells #[.int .i64 y.n, .int .i64 y.r, .string y.s] 25)) OKj.out F98.out)
  unfold FindPost Rc.v at C101
  unfold rv at C101
  rw [FZ.out] at C101
  dsimp only [Option.getD, Option.isSome, Cel.v, cel00] at C101
  go_wp2_with (first | ((with_reducible refine wpList_load_by (o := ⟨some 58, .load 43 (.tmp 10), _, _, _, _⟩) ?e1 43 (.tmp 10) ?e2 ⟨w41.heap.size, 0, none⟩ ?e3 _ M100.out ?_); (case e1 => rfl); (case e2 => rfl); (case e3 => rfl)))
  refine C101.out.mono ?_
  rintro e w102 ⟨rfl, hb103⟩
  have T104 := Lib.hid (T92.out.below hb103 T92.out.lt)
  have T105 := Lib.hid (T93.out.below hb103 T93.out.lt)
  have T106 := Lib.hid (T94.out.below hb103 T94.out.lt)
  have T107 := Lib.hid (T95.out.below hb103 T95.out.lt)
  have T108 := Lib.hid (T91.out.below hb103 T91.out.lt)
  have F109 := Lib.hid (F96.out.below hb103 (Nat.le_refl _))
  have F110 := Lib.hid (F97.out.below hb103 (Nat.le_refl _))
  have F111 := Lib.hid (F98.out.below hb103 (Nat.le_refl _))
  have B112 := Lib.hid (B99.out.trans (hb103.mono B99.out.size))
  clear hb103
  have hb113 := (Below.refl w102.heap.size w102).alloc (Nat.le_refl _) (.cells #[.int .i64 0, .int .i64 0, .string ⟨#[]⟩] 25)
  have T114 := Lib.hid (ClAt.new w102 (⟨0, 0, ⟨#[]⟩⟩ : Cel))
  try dsimp only at T114
  have T115 := Lib.hid (T104.out.below hb113 T104.out.lt)
  have T116 := Lib.hid (T105.out.below hb113 T105.out.lt)
  have T117 := Lib.hid (T106.out.below hb113 T106.out.lt)
  have T118 := Lib.hid (T107.out.below hb113 T107.out.lt)
  have T119 := Lib.hid (T108.out.below hb113 T108.out.lt)
  have F120 := Lib.hid (F109.out.below hb113 (Nat.le_refl _))
  have F121 := Lib.hid (F110.out.below hb113 (Nat.le_refl _))
  have F122 := Lib.hid (F111.out.below hb113 (Nat.le_refl _))
  have B123 := Lib.hid (B112.out.trans (hb113.mono B112.out.size))
  clear hb113
  have d6 := T117.out.c16
  have d7 := T117.out.c17
  have k120 := T118.out.c0
  have k121 := T118.out.c1
  have k122 := T118.out.c2
  have k140 := T119.out.c0
  have k141 := T119.out.c1
  have k142 := T119.out.c2
  have C124 := Lib.hid (stLess_any j.n j.r y.n y.r (w102.alloc (.cells #[.int .i64 0, .int .i64 0, .string ⟨#[]⟩] 25)))
  unfold st at C124
  rw [Sy.out] at C124
  go_wp2_with fail
  refine C124.out.mono ?_
  rintro e w125 ⟨rfl, hb126⟩
  have T127 := Lib.hid (T115.out.below hb126 T115.out.lt)
  have T128 := Lib.hid (T116.out.below hb126 T116.out.lt)
  have T129 := Lib.hid (T117.out.below hb126 T117.out.lt)
  have T130 := Lib.hid (T118.out.below hb126 T118.out.lt)
  have T131 := Lib.hid (T119.out.below hb126 T119.out.lt)
  have T132 := Lib.hid (T114.out.below hb126 T114.out.lt)
  have F133 := Lib.hid (F120.out.below hb126 (Nat.le_refl _))
  have F134 := Lib.hid (F121.out.below hb126 (Nat.le_refl _))
  have F135 := Lib.hid (F122.out.below hb126 (Nat.le_refl _))
  have B136 := Lib.hid (B123.out.trans (hb126.mono B123.out.size))
  clear hb126
  clear d6 d7 k120 k121 k122 k140 k141 k142
  have U137 := Lib.hid (fun (w9 : World) => max_any (a.n, a.r) (b.n, b.r) w9)
  rw [MXJ.out] at U137
  unfold st at U137
  dsimp only at U137
  go_wp2_with fail
  refine wp_region_G w125 (by kernel_rfl) ?_
  refine wpG_take (i := 0) (oi := ⟨some 118, _, _, _, _, _⟩) (v := ?_) rfl (by kernel_rfl) (by kernel_rfl) (by kernel_rfl) (Or.inl ⟨by rfl, unib_val ?_⟩) ?_; rotate_left; (focus (intro w9 hSw; go_simp; try with_reducible rfl)); simp only [Act.put, List.setIfInBounds_toArray, List.set_cons_zero, List.set_cons_succ]
  refine wpG_take (i := 1) (oi := ⟨some 119, _, _, _, _, _⟩) (v := ?_) rfl (by kernel_rfl) (by kernel_rfl) (by kernel_rfl) (Or.inl ⟨by rfl, unib_val ?_⟩) ?_; rotate_left; (focus (intro w9 hSw; go_simp; try with_reducible rfl)); simp only [Act.put, List.setIfInBounds_toArray, List.set_cons_zero, List.set_cons_succ]
  refine wpG_take (i := 2) (oi := ⟨some 120, _, _, _, _, _⟩) (v := ?_) rfl (by kernel_rfl) (by kernel_rfl) (by kernel_rfl) (Or.inl ⟨by rfl, unib_val ?_⟩) ?_; rotate_left; (focus (intro w9 hSw; go_simp; try with_reducible rfl)); simp only [Act.put, List.setIfInBounds_toArray, List.set_cons_zero, List.set_cons_succ]
  refine wpG_take (i := 3) (oi := ⟨some 121, _, _, _, _, _⟩) (v := ?_) rfl (by kernel_rfl) (by kernel_rfl) (by kernel_rfl) (Or.inl ⟨by rfl, unib_val ?_⟩) ?_; rotate_left; (focus (intro w9 hSw; go_simp; try with_reducible rfl)); simp only [Act.put, List.setIfInBounds_toArray, List.set_cons_zero, List.set_cons_succ]
  refine wpG_take (i := 4) (oi := ⟨some 122, _, _, _, _, _⟩) (v := ?_) rfl (by kernel_rfl) (by kernel_rfl) (by kernel_rfl) (Or.inl ⟨by rfl, unib_val ?_⟩) ?_; rotate_left; (focus (intro w9 hSw; go_simp; try with_reducible rfl)); simp only [Act.put, List.setIfInBounds_toArray, List.set_cons_zero, List.set_cons_succ]
  refine wpG_take (i := 5) (oi := ⟨some 123, _, _, _, _, _⟩) (v := ?_) rfl (by kernel_rfl) (by kernel_rfl) (by kernel_rfl) (Or.inl ⟨by rfl, unib_val ?_⟩) ?_; rotate_left; (focus (intro w9 hSw; have q9 := T129.out.below hSw T129.out.lt; have q0 := q9.c16; have q1 := q9.c17; go_simp; try with_reducible rfl)); simp only [Act.put, List.setIfInBounds_toArray, List.set_cons_zero, List.set_cons_succ]
  refine wpG_take (i := 6) (oi := ⟨some 124, _, _, _, _, _⟩) (v := ?_) rfl (by kernel_rfl) (by kernel_rfl) (by kernel_rfl) (Or.inl ⟨by rfl, unib_val ?_⟩) ?_; rotate_left; (focus (intro w9 hSw; go_simp; try with_reducible rfl)); simp only [Act.put, List.setIfInBounds_toArray, List.set_cons_zero, List.set_cons_succ]
  refine wpG_take (i := 7) (oi := ⟨some 125, _, _, _, _, _⟩) (v := ?_) rfl (by kernel_rfl) (by kernel_rfl) (by kernel_rfl) (Or.inl ⟨by rfl, unib_val ?_⟩) ?_; rotate_left; (focus (intro w9 hSw; have q9 := T127.out.below hSw T127.out.lt; have q0 := q9.c16; have q1 := q9.c17; go_simp; try with_reducible rfl)); simp only [Act.put, List.setIfInBounds_toArray, List.set_cons_zero, List.set_cons_succ]
  refine wpG_take (i := 8) (oi := ⟨some 126, _, _, _, _, _⟩) (v := ?_) rfl (by kernel_rfl) (by kernel_rfl) (by kernel_rfl) (Or.inl ⟨by rfl, unib_val ?_⟩) ?_; rotate_left; (focus (intro w9 hSw; go_simp; try with_reducible rfl)); simp only [Act.put, List.setIfInBounds_toArray, List.set_cons_zero, List.set_cons_succ]
  refine wpG_take (i := 9) (oi := ⟨some 127, _, _, _, _, _⟩) (v := ?_) rfl (by kernel_rfl) (by kernel_rfl) (by kernel_rfl) (Or.inl ⟨by rfl, unib_val ?_⟩) ?_; rotate_left; (focus (intro w9 hSw; have q9 := T128.out.below hSw T128.out.lt; have q0 := q9.c16; have q1 := q9.c17; go_simp; try with_reducible rfl)); simp only [Act.put, List.setIfInBounds_toArray, List.set_cons_zero, List.set_cons_succ]
  refine wpG_take (i := 10) (oi := ⟨some 128, _, _, _, _, _⟩) rfl (by kernel_rfl) (by kernel_rfl) (by kernel_rfl) (Or.inl ⟨by rfl, unib_call ?_ U137.out⟩) ?_; (focus (intro w9 hSw; go_simp; try with_reducible rfl)); simp only [Act.put, List.setIfInBounds_toArray, List.set_cons_zero, List.set_cons_succ]
  refine wpG_take (i := 11) (oi := ⟨some 129, _, _, _, _, _⟩) (v := ?_) rfl (by kernel_rfl) (by kernel_rfl) (by kernel_rfl) (Or.inl ⟨by rfl, unib_val ?_⟩) ?_; rotate_left; (focus (intro w9 hSw; go_simp; try with_reducible rfl)); simp only [Act.put, List.setIfInBounds_toArray, List.set_cons_zero, List.set_cons_succ]
  refine wpG_take (i := 12) (oi := ⟨some 130, _, _, _, _, _⟩) (v := ?_) rfl (by kernel_rfl) (by kernel_rfl) (by kernel_rfl) (Or.inl ⟨by rfl, unib_val ?_⟩) ?_; rotate_left; (focus (intro w9 hSw; go_simp; try with_reducible rfl)); simp only [Act.put, List.setIfInBounds_toArray, List.set_cons_zero, List.set_cons_succ]
  refine wpG_take (i := 13) (oi := ⟨some 131, _, _, _, _, _⟩) (v := ?_) rfl (by kernel_rfl) (by kernel_rfl) (by kernel_rfl) (Or.inl ⟨by rfl, unib_val ?_⟩) ?_; rotate_left; (focus (intro w9 hSw; go_simp; try with_reducible rfl)); simp only [Act.put, List.setIfInBounds_toArray, List.set_cons_zero, List.set_cons_succ]
  refine wpG_take (i := 14) (oi := ⟨some 132, _, _, _, _, _⟩) (v := ?_) rfl (by kernel_rfl) (by kernel_rfl) (by kernel_rfl) (Or.inl ⟨by rfl, unib_val ?_⟩) ?_; rotate_left; (focus (intro w9 hSw; go_simp; try with_reducible rfl)); simp only [Act.put, List.setIfInBounds_toArray, List.set_cons_zero, List.set_cons_succ]
  refine wpG_take (i := 15) (oi := ⟨some 133, _, _, _, _, _⟩) (v := (.agg (bvals j.z))) rfl (by kernel_rfl) (by kernel_rfl) (by kernel_rfl) (Or.inl ⟨by rfl, unib_val ?_⟩) ?_; (focus (intro w9 hSw; exact exec_load_by 40 _ rfl ⟨w41.heap.size, 0, none⟩ rfl (load_id (T129.out.below hSw T129.out.lt)))); simp only [Act.put, List.setIfInBounds_toArray, List.set_cons_zero, List.set_cons_succ]
  refine wpG_take (i := 16) (oi := ⟨some 134, _, _, _, _, _⟩) (v := ?_) rfl (by kernel_rfl) (by kernel_rfl) (by kernel_rfl) (Or.inl ⟨by rfl, unib_val ?_⟩) ?_; rotate_left; (focus (intro w9 hSw; go_simp; try with_reducible rfl)); simp only [Act.put, List.setIfInBounds_toArray, List.set_cons_zero, List.set_cons_succ]
  refine wpG_take (i := 17) (oi := ⟨some 135, _, _, _, _, _⟩) (v := (.agg (bvals a.z))) rfl (by kernel_rfl) (by kernel_rfl) (by kernel_rfl) (Or.inl ⟨by rfl, unib_val ?_⟩) ?_; (focus (intro w9 hSw; exact exec_load_by 40 _ rfl ⟨w.heap.size, 0, none⟩ rfl (load_id (T127.out.below hSw T127.out.lt)))); simp only [Act.put, List.setIfInBounds_toArray, List.set_cons_zero, List.set_cons_succ]
  refine wpG_take (i := 18) (oi := ⟨some 136, _, _, _, _, _⟩) (v := ?_) rfl (by kernel_rfl) (by kernel_rfl) (by kernel_rfl) (Or.inl ⟨by rfl, unib_val ?_⟩) ?_; rotate_left; (focus (intro w9 hSw; have q0 := HE.out w9; go_simp; try with_reducible rfl)); simp only [Act.put, List.setIfInBounds_toArray, List.set_cons_zero, List.set_cons_succ]
  refine wpG_take (i := 19) (oi := ⟨some 137, _, _, _, _, _⟩) (v := ?_) rfl (by kernel_rfl) (by kernel_rfl) (by kernel_rfl) (Or.inl ⟨by rfl, unib_val ?_⟩) ?_; rotate_left; (focus (intro w9 hSw; go_simp; try with_reducible rfl)); simp only [Act.put, List.setIfInBounds_toArray, List.set_cons_zero, List.set_cons_succ]
  refine wpG_take (i := 20) (oi := ⟨some 6, _, _, _, _, _⟩) (v := ?_) rfl (by kernel_rfl) (by kernel_rfl) (by kernel_rfl) (Or.inl ⟨by rfl, unib_val ?_⟩) ?_; rotate_left; (focus (intro w9 hSw; go_simp; try with_reducible rfl)); simp only [Act.put, List.setIfInBounds_toArray, List.set_cons_zero, List.set_cons_succ]
  refine wpG_done (by kernel_rfl) ?_ _
  intro w9 hSw _
  go_wp2
  go_ret
  exact ⟨rfl, B136.out.trans (hSw.mono B136.out.size)⟩
set_option maxHeartbeats 16000000 in
theorem cells_n10 (a : Rc) (A : Option Addr) (ca : Nat) (b : Rc) (B : Option Addr) (cb : Nat) (no : Int) (w : World) (hlaid : Laid w) (wa : IsRec w a A ca) (wb : IsRec w b B cb) (pa : fewR a.fs = true) (pb : fewR b.fs = true) (j : Rc) (jv : a.join b = some j) (mxj : mx (a.n, a.r) (b.n, b.r) = (j.n, j.r)) (jz : j.z = a.z) (x : Cel) (fx : rfind a.fs no = some x) (fy : rfind b.fs no = none) (fz : rfind j.fs no = none) (zx : x.s.size ≤ 300) (sx : stLess j.n j.r x.n x.r = false) :
    Calls Tryd.prog 9 #[a.v A ca, b.v B cb, .int .i64 no] w fun e w' => e = .returned (.bool true) ∧ Below w.heap.size w w' := by
  have HLA := Lib.hid (fun (X : World) (hX : Below w.heap.size w X) => hlaid.below hX (Nat.le_refl _))
  have OKa := Lib.hid wa.1
  have OKb := Lib.hid wb.1
  have Fa := Lib.hid wa.2.1
  have Fb := Lib.hid wb.2.1
  have hz := zeroRec
  unfold rv at hz
  conv => congr; rfl; rfl; (unfold Rc.v rv)
  have PA := Lib.hid pa
  have PB := Lib.hid pb
  have JV := Lib.hid jv
  have MXJ := Lib.hid mxj
  have OKj := Lib.hid (Rc.join_ok wa.1 jv)
  have HE := Lib.hid (show ∀ w9 : World, (Op.equalIn 10000 40 (.agg (bvals j.z)) (.agg (bvals a.z))).run Tryd.prog w9 = .ok true w9 from fun w9 => by
    have := eq_id (Rc.join_ok wa.1 jv).2 wa.1.2 (Rc.join_ok wa.1 jv).1 wa.1.1 w9
    rwa [show (j.z == a.z) = true by rw [beq_iff_eq]; exact jz] at this)
  clear hlaid wa wb pa pb jv mxj jz
  have FX := Lib.hid fx
  have FY := Lib.hid fy
  have FZ := Lib.hid fz
  have SZx := Lib.hid zx
  have Sx := Lib.hid sx
  clear fx fy fz zx sx
  have B1 := Lib.hid (Below.refl w.heap.size w)
  have T2n := RcAt.new w OKa.out.len a.n a.r (.slice A a.fs.length ca)
  have T2 := Lib.hid (T2n)
  clear T2n
  have B3 := Lib.hid (B1.out.alloc B1.out.size (.cells (rcells a.z a.n a.r (.slice A a.fs.length ca)) 43))
  have T4 := Lib.hid (T2.out.old (.cells (rcells b.z b.n b.r (.slice B b.fs.length cb)) 43))
  have T5n := RcAt.new (w.alloc (.cells (rcells a.z a.n a.r (.slice A a.fs.length ca)) 43)) OKb.out.len b.n b.r (.slice B b.fs.length cb)
  simp only [World.size_alloc] at T5n
  have T5 := Lib.hid (T5n)
  clear T5n
  have B6 := Lib.hid (B3.out.alloc B3.out.size (.cells (rcells b.z b.n b.r (.slice B b.fs.length cb)) 43))
  have F7 := Lib.hid (Fa.out.below B6.out (Nat.le_refl _))
  have F8 := Lib.hid (Fb.out.below B6.out (Nat.le_refl _))
  go_enter Tryd.func9, Tryd.ntmps9
  have C9 := Lib.hid (rcAwake ((w.alloc (.cells (rcells a.z a.n a.r (.slice A a.fs.length ca)) 43)).alloc (.cells (rcells b.z b.n b.r (.slice B b.fs.length cb)) 43)) (HLA.out _ B6.out))
  go_wp2_with fail
  refine C9.out.mono ?_
  rintro e w10 ⟨rfl, hb11⟩
  have T12 := Lib.hid (T4.out.below hb11 T4.out.lt)
  have T13 := Lib.hid (T5.out.below hb11 T5.out.lt)
  have F14 := Lib.hid (F7.out.below hb11 (Nat.le_refl _))
  have F15 := Lib.hid (F8.out.below hb11 (Nat.le_refl _))
  have B16 := Lib.hid (B6.out.trans (hb11.mono B6.out.size))
  clear hb11
  have M17 := Lib.hid (load_rec T12.out)
  unfold rv at M17
  have C18 := Lib.hid (fewR_any a A ca w10 OKa.out F14.out)
  unfold Rc.v at C18
  unfold rv at C18
  rw [PA.out] at C18
  go_wp2_with (first | ((with_reducible refine wpList_load_by (o := ⟨some 20, .load 43 (.tmp 3), _, _, _, _⟩) ?e1 43 (.tmp 3) ?e2 ⟨w.heap.size, 0, none⟩ ?e3 _ M17.out ?_); (case e1 => rfl); (case e2 => rfl); (case e3 => rfl)))
  refine C18.out.mono ?_
  rintro e w19 ⟨rfl, hb20⟩
  have T21 := Lib.hid (T12.out.below hb20 T12.out.lt)
  have T22 := Lib.hid (T13.out.below hb20 T13.out.lt)
  have F23 := Lib.hid (F14.out.below hb20 (Nat.le_refl _))
  have F24 := Lib.hid (F15.out.below hb20 (Nat.le_refl _))
  have B25 := Lib.hid (B16.out.trans (hb20.mono B16.out.size))
  clear hb20
  have M26 := Lib.hid (load_rec T22.out)
  unfold rv at M26
  have C27 := Lib.hid (fewR_any b B cb w19 OKb.out F24.out)
  unfold Rc.v at C27
  unfold rv at C27
  rw [PB.out] at C27
  go_wp2_with (first | ((with_reducible refine wpList_load_by (o := ⟨some 22, .load 43 (.tmp 4), _, _, _, _⟩) ?e1 43 (.tmp 4) ?e2 ⟨(w.heap.size + 1), 0, none⟩ ?e3 _ M26.out ?_); (case e1 => rfl); (case e2 => rfl); (case e3 => rfl)))
  refine C27.out.mono ?_
  rintro e w28 ⟨rfl, hb29⟩
  have T30 := Lib.hid (T21.out.below hb29 T21.out.lt)
  have T31 := Lib.hid (T22.out.below hb29 T22.out.lt)
  have F32 := Lib.hid (F23.out.below hb29 (Nat.le_refl _))
  have F33 := Lib.hid (F24.out.below hb29 (Nat.le_refl _))
  have B34 := Lib.hid (B25.out.trans (hb29.mono B25.out.size))
  clear hb29
  have M38 := Lib.hid (load_rec T30.out)
  unfold rv at M38
  have M39 := Lib.hid (load_rec T31.out)
  unfold rv at M39
  have C40 := Lib.hid (join_any a b A B ca cb w28 (HLA.out _ B34.out) OKa.out OKb.out F32.out F33.out)
  unfold JoinPost Rc.v at C40
  unfold rv at C40
  rw [JV.out] at C40
  dsimp only [Option.getD, Option.isSome] at C40
  go_wp2_with (first | ((with_reducible refine wpList_load_by (o := ⟨some 25, .load 43 (.tmp 3), _, _, _, _⟩) ?e1 43 (.tmp 3) ?e2 ⟨w.heap.size, 0, none⟩ ?e3 _ M38.out ?_); (case e1 => rfl); (case e2 => rfl); (case e3 => rfl)) | ((with_reducible refine wpList_load_by (o := ⟨some 26, .load 43 (.tmp 4), _, _, _, _⟩) ?e1 43 (.tmp 4) ?e2 ⟨(w.heap.size + 1), 0, none⟩ ?e3 _ M39.out ?_); (case e1 => rfl); (case e2 => rfl); (case e3 => rfl)))
  refine C40.out.mono ?_
  rintro e w41 ⟨A35, c36, rfl, hf37, hb42⟩
  have T43 := Lib.hid (T30.out.below hb42 T30.out.lt)
  have T44 := Lib.hid (T31.out.below hb42 T31.out.lt)
  have F45 := Lib.hid (F32.out.below hb42 (Nat.le_refl _))
  have F46 := Lib.hid (F33.out.below hb42 (Nat.le_refl _))
  have B47 := Lib.hid (B34.out.trans (hb42.mono B34.out.size))
  clear hb42
  have F48 := Lib.hid (hf37)
  clear hf37
  go_wp2_with (first | ((with_reducible refine wpList_store_new (o := ⟨none, .store 43 (.tmp 10) (.tmp 28), _, _, _, _⟩) (w := w41) ?e1 (.tmp 10) (.tmp 28) ?e2 w41.heap.size rfl ?e3 j.z j.n j.r (.slice A35 j.fs.length c36) ?e4 OKj.out.len ?e5 ?_); (case e1 => rfl); (case e2 => rfl); (case e3 => rfl); (case e4 => rfl); (case e5 => rfl); intro w49 hb50 hRs; have T51 := Lib.hid hRs; clear hRs; have T52 := Lib.hid (T43.out.below hb50 T43.out.lt); have T53 := Lib.hid (T44.out.below hb50 T44.out.lt); have F54 := Lib.hid (F45.out.below hb50 (Nat.le_refl _)); have F55 := Lib.hid (F46.out.below hb50 (Nat.le_refl _)); have F56 := Lib.hid (F48.out.below hb50 (Nat.le_refl _)); have B57 := Lib.hid (B47.out.trans (hb50.mono B47.out.size)); clear hb50; have M58 := Lib.hid (load_rec T52.out); unfold rv at M58; have C59 := Lib.hid (find_any' a A ca no w49 OKa.out F54.out); unfold FindPost Rc.v at C59; unfold rv at C59; rw [FX.out] at C59; dsimp only [Option.getD, Option.isSome, Cel.v, cel00] at C59) | ((with_reducible refine wpList_load_by (o := ⟨some 46, .load 43 (.tmp 3), _, _, _, _⟩) ?e1 43 (.tmp 3) ?e2 ⟨w.heap.size, 0, none⟩ ?e3 _ M58.out ?_); (case e1 => rfl); (case e2 => rfl); (case e3 => rfl)))
  refine C59.out.mono ?_
  rintro e w60 ⟨rfl, hb61⟩
  have T62 := Lib.hid (T52.out.below hb61 T52.out.lt)
  have T63 := Lib.hid (T53.out.below hb61 T53.out.lt)
  have T64 := Lib.hid (T51.out.below hb61 T51.out.lt)
  have F65 := Lib.hid (F54.out.below hb61 (Nat.le_refl _))
  have F66 := Lib.hid (F55.out.below hb61 (Nat.le_refl _))
  have F67 := Lib.hid (F56.out.below hb61 (Nat.le_refl _))
  have B68 := Lib.hid (B57.out.trans (hb61.mono B57.out.size))
  clear hb61
  have hb69 := (Below.refl w60.heap.size w60).alloc (Nat.le_refl _) (.cells #[.int .i64 x.n, .int .i64 x.r, .string x.s] 25)
  have T70 := Lib.hid (ClAt.new w60 x)
  try dsimp only at T70
  have T71 := Lib.hid (T62.out.below hb69 T62.out.lt)
  have T72 := Lib.hid (T63.out.below hb69 T63.out.lt)
  have T73 := Lib.hid (T64.out.below hb69 T64.out.lt)
  have F74 := Lib.hid (F65.out.below hb69 (Nat.le_refl _))
  have F75 := Lib.hid (F66.out.below hb69 (Nat.le_refl _))
  have F76 := Lib.hid (F67.out.below hb69 (Nat.le_refl _))
  have B77 := Lib.hid (B68.out.trans (hb69.mono B68.out.size))
  clear hb69
  have M78 := Lib.hid (load_rec T72.out)
  unfold rv at M78
  have C79 := Lib.hid (find_any' b B cb no (w60.alloc (.cells #[.int .i64 x.n, .int .i64 x.r, .string x.s] 25)) OKb.out F75.out)
  unfold FindPost Rc.v at C79
  unfold rv at C79
  rw [FY.out] at C79
  dsimp only [Option.getD, Option.isSome, Cel.v, cel00] at C79
  go_wp2_with (first | ((with_reducible refine wpList_load_by (o := ⟨some 52, .load 43 (.tmp 4), _, _, _, _⟩) ?e1 43 (.tmp 4) ?e2 ⟨(w.heap.size + 1), 0, none⟩ ?e3 _ M78.out ?_); (case e1 => rfl); (case e2 => rfl); (case e3 => rfl)))
  refine C79.out.mono ?_
  rintro e w80 ⟨rfl, hb81⟩
  have T82 := Lib.hid (T71.out.below hb81 T71.out.lt)
  have T83 := Lib.hid (T72.out.below hb81 T72.out.lt)
  have T84 := Lib.hid (T73.out.below hb81 T73.out.lt)
  have T85 := Lib.hid (T70.out.below hb81 T70.out.lt)
  have F86 := Lib.hid (F74.out.below hb81 (Nat.le_refl _))
  have F87 := Lib.hid (F75.out.below hb81 (Nat.le_refl _))
  have F88 := Lib.hid (F76.out.below hb81 (Nat.le_refl _))
  have B89 := Lib.hid (B77.out.trans (hb81.mono B77.out.size))
  clear hb81
  have hb90 := (Below.refl w80.heap.size w80).alloc (Nat.le_refl _) (.cells #[.int .i64 0, .int .i64 0, .string ⟨#[]⟩] 25)
  have T91 := Lib.hid (ClAt.new w80 (⟨0, 0, ⟨#[]⟩⟩ : Cel))
  try dsimp only at T91
  have T92 := Lib.hid (T82.out.below hb90 T82.out.lt)
  have T93 := Lib.hid (T83.out.below hb90 T83.out.lt)
  have T94 := Lib.hid (T84.out.below hb90 T84.out.lt)
  have T95 := Lib.hid (T85.out.below hb90 T85.out.lt)
  have F96 := Lib.hid (F86.out.below hb90 (Nat.le_refl _))
  have F97 := Lib.hid (F87.out.below hb90 (Nat.le_refl _))
  have F98 := Lib.hid (F88.out.below hb90 (Nat.le_refl _))
  have B99 := Lib.hid (B89.out.trans (hb90.mono B89.out.size))
  clear hb90
  have M100 := Lib.hid (load_rec T94.out)
  unfold rv at M100
  have C101 := Lib.hid (find_any' j A35 c36 no (w80.alloc (.cells #[.int .i64 0, .int .i64 0, .string ⟨#[]⟩] 25)) OKj.out F98.out)
  unfold FindPost Rc.v at C101
  unfold rv at C101
  rw [FZ.out] at C101
  dsimp only [Option.getD, Option.isSome, Cel.v, cel00] at C101
  go_wp2_with (first | ((with_reducible refine wpList_load_by (o := ⟨some 58, .load 43 (.tmp 10), _, _, _, _⟩) ?e1 43 (.tmp 10) ?e2 ⟨w41.heap.size, 0, none⟩ ?e3 _ M100.out ?_); (case e1 => rfl); (case e2 => rfl); (case e3 => rfl)))
  refine C101.out.mono ?_
  rintro e w102 ⟨rfl, hb103⟩
  have T104 := Lib.hid (T92.out.below hb103 T92.out.lt)
  have T105 := Lib.hid (T93.out.below hb103 T93.out.lt)
  have T106 := Lib.hid (T94.out.below hb103 T94.out.lt)
  have T107 := Lib.hid (T95.out.below hb103 T95.out.lt)
  have T108 := Lib.hid (T91.out.below hb103 T91.out.lt)
  have F109 := Lib.hid (F96.out.below hb103 (Nat.le_refl _))
  have F110 := Lib.hid (F97.out.below hb103 (Nat.le_refl _))
  have F111 := Lib.hid (F98.out.below hb103 (Nat.le_refl _))
  have B112 := Lib.hid (B99.out.trans (hb103.mono B99.out.size))
  clear hb103
  have hb113 := (Below.refl w102.heap.size w102).alloc (Nat.le_refl _) (.cells #[.int .i64 0, .int .i64 0, .string ⟨#[]⟩] 25)
  have T114 := Lib.hid (ClAt.new w102 (⟨0, 0, ⟨#[]⟩⟩ : Cel))
  try dsimp only at T114
  have T115 := Lib.hid (T104.out.below hb113 T104.out.lt)
  have T116 := Lib.hid (T105.out.below hb113 T105.out.lt)
  have T117 := Lib.hid (T106.out.below hb113 T106.out.lt)
  have T118 := Lib.hid (T107.out.below hb113 T107.out.lt)
  have T119 := Lib.hid (T108.out.below hb113 T108.out.lt)
  have F120 := Lib.hid (F109.out.below hb113 (Nat.le_refl _))
  have F121 := Lib.hid (F110.out.below hb113 (Nat.le_refl _))
  have F122 := Lib.hid (F111.out.below hb113 (Nat.le_refl _))
  have B123 := Lib.hid (B112.out.trans (hb113.mono B112.out.size))
  clear hb113
  have d6 := T117.out.c16
  have d7 := T117.out.c17
  have k120 := T118.out.c0
  have k121 := T118.out.c1
  have k122 := T118.out.c2
  have k140 := T119.out.c0
  have k141 := T119.out.c1
  have k142 := T119.out.c2
  have C124 := Lib.hid (stLess_any j.n j.r x.n x.r (w102.alloc (.cells #[.int .i64 0, .int .i64 0, .string ⟨#[]⟩] 25)))
  unfold st at C124
  rw [Sx.out] at C124
  go_wp2_with fail
  refine C124.out.mono ?_
  rintro e w125 ⟨rfl, hb126⟩
  have T127 := Lib.hid (T115.out.below hb126 T115.out.lt)
  have T128 := Lib.hid (T116.out.below hb126 T116.out.lt)
  have T129 := Lib.hid (T117.out.below hb126 T117.out.lt)
  have T130 := Lib.hid (T118.out.below hb126 T118.out.lt)
  have T131 := Lib.hid (T119.out.below hb126 T119.out.lt)
  have T132 := Lib.hid (T114.out.below hb126 T114.out.lt)
  have F133 := Lib.hid (F120.out.below hb126 (Nat.le_refl _))
  have F134 := Lib.hid (F121.out.below hb126 (Nat.le_refl _))
  have F135 := Lib.hid (F122.out.below hb126 (Nat.le_refl _))
  have B136 := Lib.hid (B123.out.trans (hb126.mono B123.out.size))
  clear hb126
  clear d6 d7 k120 k121 k122 k140 k141 k142
  have U137 := Lib.hid (fun (w9 : World) => max_any (a.n, a.r) (b.n, b.r) w9)
  rw [MXJ.out] at U137
  unfold st at U137
  dsimp only at U137
  go_wp2_with fail
  refine wp_region_G w125 (by kernel_rfl) ?_
  refine wpG_take (i := 0) (oi := ⟨some 118, _, _, _, _, _⟩) (v := ?_) rfl (by kernel_rfl) (by kernel_rfl) (by kernel_rfl) (Or.inl ⟨by rfl, unib_val ?_⟩) ?_; rotate_left; (focus (intro w9 hSw; go_simp; try with_reducible rfl)); simp only [Act.put, List.setIfInBounds_toArray, List.set_cons_zero, List.set_cons_succ]
  refine wpG_take (i := 1) (oi := ⟨some 119, _, _, _, _, _⟩) (v := ?_) rfl (by kernel_rfl) (by kernel_rfl) (by kernel_rfl) (Or.inl ⟨by rfl, unib_val ?_⟩) ?_; rotate_left; (focus (intro w9 hSw; go_simp; try with_reducible rfl)); simp only [Act.put, List.setIfInBounds_toArray, List.set_cons_zero, List.set_cons_succ]
  refine wpG_take (i := 2) (oi := ⟨some 120, _, _, _, _, _⟩) (v := ?_) rfl (by kernel_rfl) (by kernel_rfl) (by kernel_rfl) (Or.inl ⟨by rfl, unib_val ?_⟩) ?_; rotate_left; (focus (intro w9 hSw; go_simp; try with_reducible rfl)); simp only [Act.put, List.setIfInBounds_toArray, List.set_cons_zero, List.set_cons_succ]
  refine wpG_take (i := 3) (oi := ⟨some 121, _, _, _, _, _⟩) (v := ?_) rfl (by kernel_rfl) (by kernel_rfl) (by kernel_rfl) (Or.inl ⟨by rfl, unib_val ?_⟩) ?_; rotate_left; (focus (intro w9 hSw; go_simp; try with_reducible rfl)); simp only [Act.put, List.setIfInBounds_toArray, List.set_cons_zero, List.set_cons_succ]
  refine wpG_take (i := 4) (oi := ⟨some 122, _, _, _, _, _⟩) (v := ?_) rfl (by kernel_rfl) (by kernel_rfl) (by kernel_rfl) (Or.inl ⟨by rfl, unib_val ?_⟩) ?_; rotate_left; (focus (intro w9 hSw; go_simp; try with_reducible rfl)); simp only [Act.put, List.setIfInBounds_toArray, List.set_cons_zero, List.set_cons_succ]
  refine wpG_take (i := 5) (oi := ⟨some 123, _, _, _, _, _⟩) (v := ?_) rfl (by kernel_rfl) (by kernel_rfl) (by kernel_rfl) (Or.inl ⟨by rfl, unib_val ?_⟩) ?_; rotate_left; (focus (intro w9 hSw; have q9 := T129.out.below hSw T129.out.lt; have q0 := q9.c16; have q1 := q9.c17; go_simp; try with_reducible rfl)); simp only [Act.put, List.setIfInBounds_toArray, List.set_cons_zero, List.set_cons_succ]
  refine wpG_take (i := 6) (oi := ⟨some 124, _, _, _, _, _⟩) (v := ?_) rfl (by kernel_rfl) (by kernel_rfl) (by kernel_rfl) (Or.inl ⟨by rfl, unib_val ?_⟩) ?_; rotate_left; (focus (intro w9 hSw; go_simp; try with_reducible rfl)); simp only [Act.put, List.setIfInBounds_toArray, List.set_cons_zero, List.set_cons_succ]
  refine wpG_take (i := 7) (oi := ⟨some 125, _, _, _, _, _⟩) (v := ?_) rfl (by kernel_rfl) (by kernel_rfl) (by kernel_rfl) (Or.inl ⟨by rfl, unib_val ?_⟩) ?_; rotate_left; (focus (intro w9 hSw; have q9 := T127.out.below hSw T127.out.lt; have q0 := q9.c16; have q1 := q9.c17; go_simp; try with_reducible rfl)); simp only [Act.put, List.setIfInBounds_toArray, List.set_cons_zero, List.set_cons_succ]
  refine wpG_take (i := 8) (oi := ⟨some 126, _, _, _, _, _⟩) (v := ?_) rfl (by kernel_rfl) (by kernel_rfl) (by kernel_rfl) (Or.inl ⟨by rfl, unib_val ?_⟩) ?_; rotate_left; (focus (intro w9 hSw; go_simp; try with_reducible rfl)); simp only [Act.put, List.setIfInBounds_toArray, List.set_cons_zero, List.set_cons_succ]
  refine wpG_take (i := 9) (oi := ⟨some 127, _, _, _, _, _⟩) (v := ?_) rfl (by kernel_rfl) (by kernel_rfl) (by kernel_rfl) (Or.inl ⟨by rfl, unib_val ?_⟩) ?_; rotate_left; (focus (intro w9 hSw; have q9 := T128.out.below hSw T128.out.lt; have q0 := q9.c16; have q1 := q9.c17; go_simp; try with_reducible rfl)); simp only [Act.put, List.setIfInBounds_toArray, List.set_cons_zero, List.set_cons_succ]
  refine wpG_take (i := 10) (oi := ⟨some 128, _, _, _, _, _⟩) rfl (by kernel_rfl) (by kernel_rfl) (by kernel_rfl) (Or.inl ⟨by rfl, unib_call ?_ U137.out⟩) ?_; (focus (intro w9 hSw; go_simp; try with_reducible rfl)); simp only [Act.put, List.setIfInBounds_toArray, List.set_cons_zero, List.set_cons_succ]
  refine wpG_take (i := 11) (oi := ⟨some 129, _, _, _, _, _⟩) (v := ?_) rfl (by kernel_rfl) (by kernel_rfl) (by kernel_rfl) (Or.inl ⟨by rfl, unib_val ?_⟩) ?_; rotate_left; (focus (intro w9 hSw; go_simp; try with_reducible rfl)); simp only [Act.put, List.setIfInBounds_toArray, List.set_cons_zero, List.set_cons_succ]
  refine wpG_take (i := 12) (oi := ⟨some 130, _, _, _, _, _⟩) (v := ?_) rfl (by kernel_rfl) (by kernel_rfl) (by kernel_rfl) (Or.inl ⟨by rfl, unib_val ?_⟩) ?_; rotate_left; (focus (intro w9 hSw; go_simp; try with_reducible rfl)); simp only [Act.put, List.setIfInBounds_toArray, List.set_cons_zero, List.set_cons_succ]
  refine wpG_take (i := 13) (oi := ⟨some 131, _, _, _, _, _⟩) (v := ?_) rfl (by kernel_rfl) (by kernel_rfl) (by kernel_rfl) (Or.inl ⟨by rfl, unib_val ?_⟩) ?_; rotate_left; (focus (intro w9 hSw; go_simp; try with_reducible rfl)); simp only [Act.put, List.setIfInBounds_toArray, List.set_cons_zero, List.set_cons_succ]
  refine wpG_take (i := 14) (oi := ⟨some 132, _, _, _, _, _⟩) (v := ?_) rfl (by kernel_rfl) (by kernel_rfl) (by kernel_rfl) (Or.inl ⟨by rfl, unib_val ?_⟩) ?_; rotate_left; (focus (intro w9 hSw; go_simp; try with_reducible rfl)); simp only [Act.put, List.setIfInBounds_toArray, List.set_cons_zero, List.set_cons_succ]
  refine wpG_take (i := 15) (oi := ⟨some 133, _, _, _, _, _⟩) (v := (.agg (bvals j.z))) rfl (by kernel_rfl) (by kernel_rfl) (by kernel_rfl) (Or.inl ⟨by rfl, unib_val ?_⟩) ?_; (focus (intro w9 hSw; exact exec_load_by 40 _ rfl ⟨w41.heap.size, 0, none⟩ rfl (load_id (T129.out.below hSw T129.out.lt)))); simp only [Act.put, List.setIfInBounds_toArray, List.set_cons_zero, List.set_cons_succ]
  refine wpG_take (i := 16) (oi := ⟨some 134, _, _, _, _, _⟩) (v := ?_) rfl (by kernel_rfl) (by kernel_rfl) (by kernel_rfl) (Or.inl ⟨by rfl, unib_val ?_⟩) ?_; rotate_left; (focus (intro w9 hSw; go_simp; try with_reducible rfl)); simp only [Act.put, List.setIfInBounds_toArray, List.set_cons_zero, List.set_cons_succ]
  refine wpG_take (i := 17) (oi := ⟨some 135, _, _, _, _, _⟩) (v := (.agg (bvals a.z))) rfl (by kernel_rfl) (by kernel_rfl) (by kernel_rfl) (Or.inl ⟨by rfl, unib_val ?_⟩) ?_; (focus (intro w9 hSw; exact exec_load_by 40 _ rfl ⟨w.heap.size, 0, none⟩ rfl (load_id (T127.out.below hSw T127.out.lt)))); simp only [Act.put, List.setIfInBounds_toArray, List.set_cons_zero, List.set_cons_succ]
  refine wpG_take (i := 18) (oi := ⟨some 136, _, _, _, _, _⟩) (v := ?_) rfl (by kernel_rfl) (by kernel_rfl) (by kernel_rfl) (Or.inl ⟨by rfl, unib_val ?_⟩) ?_; rotate_left; (focus (intro w9 hSw; have q0 := HE.out w9; go_simp; try with_reducible rfl)); simp only [Act.put, List.setIfInBounds_toArray, List.set_cons_zero, List.set_cons_succ]
  refine wpG_take (i := 19) (oi := ⟨some 137, _, _, _, _, _⟩) (v := ?_) rfl (by kernel_rfl) (by kernel_rfl) (by kernel_rfl) (Or.inl ⟨by rfl, unib_val ?_⟩) ?_; rotate_left; (focus (intro w9 hSw; go_simp; try with_reducible rfl)); simp only [Act.put, List.setIfInBounds_toArray, List.set_cons_zero, List.set_cons_succ]
  refine wpG_take (i := 20) (oi := ⟨some 6, _, _, _, _, _⟩) (v := ?_) rfl (by kernel_rfl) (by kernel_rfl) (by kernel_rfl) (Or.inl ⟨by rfl, unib_val ?_⟩) ?_; rotate_left; (focus (intro w9 hSw; go_simp; try with_reducible rfl)); simp only [Act.put, List.setIfInBounds_toArray, List.set_cons_zero, List.set_cons_succ]
  refine wpG_done (by kernel_rfl) ?_ _
  intro w9 hSw _
  go_wp2
  go_ret
  exact ⟨rfl, B136.out.trans (hSw.mono B136.out.size)⟩
set_option maxHeartbeats 16000000 in
theorem cells_n11 (a : Rc) (A : Option Addr) (ca : Nat) (b : Rc) (B : Option Addr) (cb : Nat) (no : Int) (w : World) (hlaid : Laid w) (wa : IsRec w a A ca) (wb : IsRec w b B cb) (pa : fewR a.fs = true) (pb : fewR b.fs = true) (j : Rc) (jv : a.join b = some j) (mxj : mx (a.n, a.r) (b.n, b.r) = (j.n, j.r)) (jz : j.z = a.z) (x : Cel) (y : Cel) (fx : rfind a.fs no = some x) (fy : rfind b.fs no = some y) (fz : rfind j.fs no = none) (zx : x.s.size ≤ 300) (zy : y.s.size ≤ 300) (sx : stLess j.n j.r x.n x.r = false) (sy : stLess j.n j.r y.n y.r = false) :
    Calls Tryd.prog 9 #[a.v A ca, b.v B cb, .int .i64 no] w fun e w' => e = .returned (.bool true) ∧ Below w.heap.size w w' := by
  have HLA := Lib.hid (fun (X : World) (hX : Below w.heap.size w X) => hlaid.below hX (Nat.le_refl _))
  have OKa := Lib.hid wa.1
  have OKb := Lib.hid wb.1
  have Fa := Lib.hid wa.2.1
  have Fb := Lib.hid wb.2.1
  have hz := zeroRec
  unfold rv at hz
  conv => congr; rfl; rfl; (unfold Rc.v rv)
  have PA := Lib.hid pa
  have PB := Lib.hid pb
  have JV := Lib.hid jv
  have MXJ := Lib.hid mxj
  have OKj := Lib.hid (Rc.join_ok wa.1 jv)
  have HE := Lib.hid (show ∀ w9 : World, (Op.equalIn 10000 40 (.agg (bvals j.z)) (.agg (bvals a.z))).run Tryd.prog w9 = .ok true w9 from fun w9 => by
    have := eq_id (Rc.join_ok wa.1 jv).2 wa.1.2 (Rc.join_ok wa.1 jv).1 wa.1.1 w9
    rwa [show (j.z == a.z) = true by rw [beq_iff_eq]; exact jz] at this)
  clear hlaid wa wb pa pb jv mxj jz
  have FX := Lib.hid fx
  have FY := Lib.hid fy
  have FZ := Lib.hid fz
  have SZx := Lib.hid zx
  have SZy := Lib.hid zy
  have Sx := Lib.hid sx
  have Sy := Lib.hid sy
  clear fx fy fz zx zy sx sy
  have B1 := Lib.hid (Below.refl w.heap.size w)
  have T2n := RcAt.new w OKa.out.len a.n a.r (.slice A a.fs.length ca)
  have T2 := Lib.hid (T2n)
  clear T2n
  have B3 := Lib.hid (B1.out.alloc B1.out.size (.cells (rcells a.z a.n a.r (.slice A a.fs.length ca)) 43))
  have T4 := Lib.hid (T2.out.old (.cells (rcells b.z b.n b.r (.slice B b.fs.length cb)) 43))
  have T5n := RcAt.new (w.alloc (.cells (rcells a.z a.n a.r (.slice A a.fs.length ca)) 43)) OKb.out.len b.n b.r (.slice B b.fs.length cb)
  simp only [World.size_alloc] at T5n
  have T5 := Lib.hid (T5n)
  clear T5n
  have B6 := Lib.hid (B3.out.alloc B3.out.size (.cells (rcells b.z b.n b.r (.slice B b.fs.length cb)) 43))
  have F7 := Lib.hid (Fa.out.below B6.out (Nat.le_refl _))
  have F8 := Lib.hid (Fb.out.below B6.out (Nat.le_refl _))
  go_enter Tryd.func9, Tryd.ntmps9
  have C9 := Lib.hid (rcAwake ((w.alloc (.cells (rcells a.z a.n a.r (.slice A a.fs.length ca)) 43)).alloc (.cells (rcells b.z b.n b.r (.slice B b.fs.length cb)) 43)) (HLA.out _ B6.out))
  go_wp2_with fail
  refine C9.out.mono ?_
  rintro e w10 ⟨rfl, hb11⟩
  have T12 := Lib.hid (T4.out.below hb11 T4.out.lt)
  have T13 := Lib.hid (T5.out.below hb11 T5.out.lt)
  have F14 := Lib.hid (F7.out.below hb11 (Nat.le_refl _))
  have F15 := Lib.hid (F8.out.below hb11 (Nat.le_refl _))
  have B16 := Lib.hid (B6.out.trans (hb11.mono B6.out.size))
  clear hb11
  have M17 := Lib.hid (load_rec T12.out)
  unfold rv at M17
  have C18 := Lib.hid (fewR_any a A ca w10 OKa.out F14.out)
  unfold Rc.v at C18
  unfold rv at C18
  rw [PA.out] at C18
  go_wp2_with (first | ((with_reducible refine wpList_load_by (o := ⟨some 20, .load 43 (.tmp 3), _, _, _, _⟩) ?e1 43 (.tmp 3) ?e2 ⟨w.heap.size, 0, none⟩ ?e3 _ M17.out ?_); (case e1 => rfl); (case e2 => rfl); (case e3 => rfl)))
  refine C18.out.mono ?_
  rintro e w19 ⟨rfl, hb20⟩
  have T21 := Lib.hid (T12.out.below hb20 T12.out.lt)
  have T22 := Lib.hid (T13.out.below hb20 T13.out.lt)
  have F23 := Lib.hid (F14.out.below hb20 (Nat.le_refl _))
  have F24 := Lib.hid (F15.out.below hb20 (Nat.le_refl _))
  have B25 := Lib.hid (B16.out.trans (hb20.mono B16.out.size))
  clear hb20
  have M26 := Lib.hid (load_rec T22.out)
  unfold rv at M26
  have C27 := Lib.hid (fewR_any b B cb w19 OKb.out F24.out)
  unfold Rc.v at C27
  unfold rv at C27
  rw [PB.out] at C27
  go_wp2_with (first | ((with_reducible refine wpList_load_by (o := ⟨some 22, .load 43 (.tmp 4), _, _, _, _⟩) ?e1 43 (.tmp 4) ?e2 ⟨(w.heap.size + 1), 0, none⟩ ?e3 _ M26.out ?_); (case e1 => rfl); (case e2 => rfl); (case e3 => rfl)))
  refine C27.out.mono ?_
  rintro e w28 ⟨rfl, hb29⟩
  have T30 := Lib.hid (T21.out.below hb29 T21.out.lt)
  have T31 := Lib.hid (T22.out.below hb29 T22.out.lt)
  have F32 := Lib.hid (F23.out.below hb29 (Nat.le_refl _))
  have F33 := Lib.hid (F24.out.below hb29 (Nat.le_refl _))
  have B34 := Lib.hid (B25.out.trans (hb29.mono B25.out.size))
  clear hb29
  have M38 := Lib.hid (load_rec T30.out)
  unfold rv at M38
  have M39 := Lib.hid (load_rec T31.out)
  unfold rv at M39
  have C40 := Lib.hid (join_any a b A B ca cb w28 (HLA.out _ B34.out) OKa.out OKb.out F32.out F33.out)
  unfold JoinPost Rc.v at C40
  unfold rv at C40
  rw [JV.out] at C40
  dsimp only [Option.getD, Option.isSome] at C40
  go_wp2_with (first | ((with_reducible refine wpList_load_by (o := ⟨some 25, .load 43 (.tmp 3), _, _, _, _⟩) ?e1 43 (.tmp 3) ?e2 ⟨w.heap.size, 0, none⟩ ?e3 _ M38.out ?_); (case e1 => rfl); (case e2 => rfl); (case e3 => rfl)) | ((with_reducible refine wpList_load_by (o := ⟨some 26, .load 43 (.tmp 4), _, _, _, _⟩) ?e1 43 (.tmp 4) ?e2 ⟨(w.heap.size + 1), 0, none⟩ ?e3 _ M39.out ?_); (case e1 => rfl); (case e2 => rfl); (case e3 => rfl)))
  refine C40.out.mono ?_
  rintro e w41 ⟨A35, c36, rfl, hf37, hb42⟩
  have T43 := Lib.hid (T30.out.below hb42 T30.out.lt)
  have T44 := Lib.hid (T31.out.below hb42 T31.out.lt)
  have F45 := Lib.hid (F32.out.below hb42 (Nat.le_refl _))
  have F46 := Lib.hid (F33.out.below hb42 (Nat.le_refl _))
  have B47 := Lib.hid (B34.out.trans (hb42.mono B34.out.size))
  clear hb42
  have F48 := Lib.hid (hf37)
  clear hf37
  go_wp2_with (first | ((with_reducible refine wpList_store_new (o := ⟨none, .store 43 (.tmp 10) (.tmp 28), _, _, _, _⟩) (w := w41) ?e1 (.tmp 10) (.tmp 28) ?e2 w41.heap.size rfl ?e3 j.z j.n j.r (.slice A35 j.fs.length c36) ?e4 OKj.out.len ?e5 ?_); (case e1 => rfl); (case e2 => rfl); (case e3 => rfl); (case e4 => rfl); (case e5 => rfl); intro w49 hb50 hRs; have T51 := Lib.hid hRs; clear hRs; have T52 := Lib.hid (T43.out.below hb50 T43.out.lt); have T53 := Lib.hid (T44.out.below hb50 T44.out.lt); have F54 := Lib.hid (F45.out.below hb50 (Nat.le_refl _)); have F55 := Lib.hid (F46.out.below hb50 (Nat.le_refl _)); have F56 := Lib.hid (F48.out.below hb50 (Nat.le_refl _)); have B57 := Lib.hid (B47.out.trans (hb50.mono B47.out.size)); clear hb50; have M58 := Lib.hid (load_rec T52.out); unfold rv at M58; have C59 := Lib.hid (find_any' a A ca no w49 OKa.out F54.out); unfold FindPost Rc.v at C59; unfold rv at C59; rw [FX.out] at C59; dsimp only [Option.getD, Option.isSome, Cel.v, cel00] at C59) | ((with_reducible refine wpList_load_by (o := ⟨some 46, .load 43 (.tmp 3), _, _, _, _⟩) ?e1 43 (.tmp 3) ?e2 ⟨w.heap.size, 0, none⟩ ?e3 _ M58.out ?_); (case e1 => rfl); (case e2 => rfl); (case e3 => rfl)))
  refine C59.out.mono ?_
  rintro e w60 ⟨rfl, hb61⟩
  have T62 := Lib.hid (T52.out.below hb61 T52.out.lt)
  have T63 := Lib.hid (T53.out.below hb61 T53.out.lt)
  have T64 := Lib.hid (T51.out.below hb61 T51.out.lt)
  have F65 := Lib.hid (F54.out.below hb61 (Nat.le_refl _))
  have F66 := Lib.hid (F55.out.below hb61 (Nat.le_refl _))
  have F67 := Lib.hid (F56.out.below hb61 (Nat.le_refl _))
  have B68 := Lib.hid (B57.out.trans (hb61.mono B57.out.size))
  clear hb61
  have hb69 := (Below.refl w60.heap.size w60).alloc (Nat.le_refl _) (.cells #[.int .i64 x.n, .int .i64 x.r, .string x.s] 25)
  have T70 := Lib.hid (ClAt.new w60 x)
  try dsimp only at T70
  have T71 := Lib.hid (T62.out.below hb69 T62.out.lt)
  have T72 := Lib.hid (T63.out.below hb69 T63.out.lt)
  have T73 := Lib.hid (T64.out.below hb69 T64.out.lt)
  have F74 := Lib.hid (F65.out.below hb69 (Nat.le_refl _))
  have F75 := Lib.hid (F66.out.below hb69 (Nat.le_refl _))
  have F76 := Lib.hid (F67.out.below hb69 (Nat.le_refl _))
  have B77 := Lib.hid (B68.out.trans (hb69.mono B68.out.size))
  clear hb69
  have M78 := Lib.hid (load_rec T72.out)
  unfold rv at M78
  have C79 := Lib.hid (find_any' b B cb no (w60.alloc (.cells #[.int .i64 x.n, .int .i64 x.r, .string x.s] 25)) OKb.out F75.out)
  unfold FindPost Rc.v at C79
  unfold rv at C79
  rw [FY.out] at C79
  dsimp only [Option.getD, Option.isSome, Cel.v, cel00] at C79
  go_wp2_with (first | ((with_reducible refine wpList_load_by (o := ⟨some 52, .load 43 (.tmp 4), _, _, _, _⟩) ?e1 43 (.tmp 4) ?e2 ⟨(w.heap.size + 1), 0, none⟩ ?e3 _ M78.out ?_); (case e1 => rfl); (case e2 => rfl); (case e3 => rfl)))
  refine C79.out.mono ?_
  rintro e w80 ⟨rfl, hb81⟩
  have T82 := Lib.hid (T71.out.below hb81 T71.out.lt)
  have T83 := Lib.hid (T72.out.below hb81 T72.out.lt)
  have T84 := Lib.hid (T73.out.below hb81 T73.out.lt)
  have T85 := Lib.hid (T70.out.below hb81 T70.out.lt)
  have F86 := Lib.hid (F74.out.below hb81 (Nat.le_refl _))
  have F87 := Lib.hid (F75.out.below hb81 (Nat.le_refl _))
  have F88 := Lib.hid (F76.out.below hb81 (Nat.le_refl _))
  have B89 := Lib.hid (B77.out.trans (hb81.mono B77.out.size))
  clear hb81
  have hb90 := (Below.refl w80.heap.size w80).alloc (Nat.le_refl _) (.cells #[.int .i64 y.n, .int .i64 y.r, .string y.s] 25)
  have T91 := Lib.hid (ClAt.new w80 y)
  try dsimp only at T91
  have T92 := Lib.hid (T82.out.below hb90 T82.out.lt)
  have T93 := Lib.hid (T83.out.below hb90 T83.out.lt)
  have T94 := Lib.hid (T84.out.below hb90 T84.out.lt)
  have T95 := Lib.hid (T85.out.below hb90 T85.out.lt)
  have F96 := Lib.hid (F86.out.below hb90 (Nat.le_refl _))
  have F97 := Lib.hid (F87.out.below hb90 (Nat.le_refl _))
  have F98 := Lib.hid (F88.out.below hb90 (Nat.le_refl _))
  have B99 := Lib.hid (B89.out.trans (hb90.mono B89.out.size))
  clear hb90
  have M100 := Lib.hid (load_rec T94.out)
  unfold rv at M100
  have C101 := Lib.hid (find_any' j A35 c36 no (w80.alloc (.cells #[.int .i64 y.n, .int .i64 y.r, .string y.s] 25)) OKj.out F98.out)
  unfold FindPost Rc.v at C101
  unfold rv at C101
  rw [FZ.out] at C101
  dsimp only [Option.getD, Option.isSome, Cel.v, cel00] at C101
  go_wp2_with (first | ((with_reducible refine wpList_load_by (o := ⟨some 58, .load 43 (.tmp 10), _, _, _, _⟩) ?e1 43 (.tmp 10) ?e2 ⟨w41.heap.size, 0, none⟩ ?e3 _ M100.out ?_); (case e1 => rfl); (case e2 => rfl); (case e3 => rfl)))
  refine C101.out.mono ?_
  rintro e w102 ⟨rfl, hb103⟩
  have T104 := Lib.hid (T92.out.below hb103 T92.out.lt)
  have T105 := Lib.hid (T93.out.below hb103 T93.out.lt)
  have T106 := Lib.hid (T94.out.below hb103 T94.out.lt)
  have T107 := Lib.hid (T95.out.below hb103 T95.out.lt)
  have T108 := Lib.hid (T91.out.below hb103 T91.out.lt)
  have F109 := Lib.hid (F96.out.below hb103 (Nat.le_refl _))
  have F110 := Lib.hid (F97.out.below hb103 (Nat.le_refl _))
  have F111 := Lib.hid (F98.out.below hb103 (Nat.le_refl _))
  have B112 := Lib.hid (B99.out.trans (hb103.mono B99.out.size))
  clear hb103
  have hb113 := (Below.refl w102.heap.size w102).alloc (Nat.le_refl _) (.cells #[.int .i64 0, .int .i64 0, .string ⟨#[]⟩] 25)
  have T114 := Lib.hid (ClAt.new w102 (⟨0, 0, ⟨#[]⟩⟩ : Cel))
  try dsimp only at T114
  have T115 := Lib.hid (T104.out.below hb113 T104.out.lt)
  have T116 := Lib.hid (T105.out.below hb113 T105.out.lt)
  have T117 := Lib.hid (T106.out.below hb113 T106.out.lt)
  have T118 := Lib.hid (T107.out.below hb113 T107.out.lt)
  have T119 := Lib.hid (T108.out.below hb113 T108.out.lt)
  have F120 := Lib.hid (F109.out.below hb113 (Nat.le_refl _))
  have F121 := Lib.hid (F110.out.below hb113 (Nat.le_refl _))
  have F122 := Lib.hid (F111.out.below hb113 (Nat.le_refl _))
  have B123 := Lib.hid (B112.out.trans (hb113.mono B112.out.size))
  clear hb113
  have d6 := T117.out.c16
  have d7 := T117.out.c17
  have k120 := T118.out.c0
  have k121 := T118.out.c1
  have k122 := T118.out.c2
  have k140 := T119.out.c0
  have k141 := T119.out.c1
  have k142 := T119.out.c2
  have C124 := Lib.hid (stLess_any j.n j.r x.n x.r (w102.alloc (.cells #[.int .i64 0, .int .i64 0, .string ⟨#[]⟩] 25)))
  unfold st at C124
  rw [Sx.out] at C124
  go_wp2_with fail
  refine C124.out.mono ?_
  rintro e w125 ⟨rfl, hb126⟩
  have T127 := Lib.hid (T115.out.below hb126 T115.out.lt)
  have T128 := Lib.hid (T116.out.below hb126 T116.out.lt)
  have T129 := Lib.hid (T117.out.below hb126 T117.out.lt)
  have T130 := Lib.hid (T118.out.below hb126 T118.out.lt)
  have T131 := Lib.hid (T119.out.below hb126 T119.out.lt)
  have T132 := Lib.hid (T114.out.below hb126 T114.out.lt)
  have F133 := Lib.hid (F120.out.below hb126 (Nat.le_refl _))
  have F134 := Lib.hid (F121.out.below hb126 (Nat.le_refl _))
  have F135 := Lib.hid (F122.out.below hb126 (Nat.le_refl _))
  have B136 := Lib.hid (B123.out.trans (hb126.mono B123.out.size))
  clear hb126
  clear d6 d7 k120 k121 k122 k140 k141 k142
  have d6 := T129.out.c16
  have d7 := T129.out.c17
  have k120 := T130.out.c0
  have k121 := T130.out.c1
  have k122 := T130.out.c2
  have k140 := T131.out.c0
  have k141 := T131.out.c1
  have k142 := T131.out.c2
  have C137 := Lib.hid (stLess_any j.n j.r y.n y.r w125)
  unfold st at C137
  rw [Sy.out] at C137
  go_wp2_with fail
  refine C137.out.mono ?_
  rintro e w138 ⟨rfl, hb139⟩
  have T140 := Lib.hid (T127.out.below hb139 T127.out.lt)
  have T141 := Lib.hid (T128.out.below hb139 T128.out.lt)
  have T142 := Lib.hid (T129.out.below hb139 T129.out.lt)
  have T143 := Lib.hid (T130.out.below hb139 T130.out.lt)
  have T144 := Lib.hid (T131.out.below hb139 T131.out.lt)
  have T145 := Lib.hid (T132.out.below hb139 T132.out.lt)
  have F146 := Lib.hid (F133.out.below hb139 (Nat.le_refl _))
  have F147 := Lib.hid (F134.out.below hb139 (Nat.le_refl _))
  have F148 := Lib.hid (F135.out.below hb139 (Nat.le_refl _))
  have B149 := Lib.hid (B136.out.trans (hb139.mono B136.out.size))
  clear hb139
  clear d6 d7 k120 k121 k122 k140 k141 k142
  have U150 := Lib.hid (fun (w9 : World) => max_any (a.n, a.r) (b.n, b.r) w9)
  rw [MXJ.out] at U150
  unfold st at U150
  dsimp only at U150
  go_wp2_with fail
  refine wp_region_G w138 (by kernel_rfl) ?_
  refine wpG_take (i := 0) (oi := ⟨some 118, _, _, _, _, _⟩) (v := ?_) rfl (by kernel_rfl) (by kernel_rfl) (by kernel_rfl) (Or.inl ⟨by rfl, unib_val ?_⟩) ?_; rotate_left; (focus (intro w9 hSw; go_simp; try with_reducible rfl)); simp only [Act.put, List.setIfInBounds_toArray, List.set_cons_zero, List.set_cons_succ]
  refine wpG_take (i := 1) (oi := ⟨some 119, _, _, _, _, _⟩) (v := ?_) rfl (by kernel_rfl) (by kernel_rfl) (by kernel_rfl) (Or.inl ⟨by rfl, unib_val ?_⟩) ?_; rotate_left; (focus (intro w9 hSw; go_simp; try with_reducible rfl)); simp only [Act.put, List.setIfInBounds_toArray, List.set_cons_zero, List.set_cons_succ]
  refine wpG_take (i := 2) (oi := ⟨some 120, _, _, _, _, _⟩) (v := ?_) rfl (by kernel_rfl) (by kernel_rfl) (by kernel_rfl) (Or.inl ⟨by rfl, unib_val ?_⟩) ?_; rotate_left; (focus (intro w9 hSw; go_simp; try with_reducible rfl)); simp only [Act.put, List.setIfInBounds_toArray, List.set_cons_zero, List.set_cons_succ]
  refine wpG_take (i := 3) (oi := ⟨some 121, _, _, _, _, _⟩) (v := ?_) rfl (by kernel_rfl) (by kernel_rfl) (by kernel_rfl) (Or.inl ⟨by rfl, unib_val ?_⟩) ?_; rotate_left; (focus (intro w9 hSw; go_simp; try with_reducible rfl)); simp only [Act.put, List.setIfInBounds_toArray, List.set_cons_zero, List.set_cons_succ]
  refine wpG_take (i := 4) (oi := ⟨some 122, _, _, _, _, _⟩) (v := ?_) rfl (by kernel_rfl) (by kernel_rfl) (by kernel_rfl) (Or.inl ⟨by rfl, unib_val ?_⟩) ?_; rotate_left; (focus (intro w9 hSw; go_simp; try with_reducible rfl)); simp only [Act.put, List.setIfInBounds_toArray, List.set_cons_zero, List.set_cons_succ]
  refine wpG_take (i := 5) (oi := ⟨some 123, _, _, _, _, _⟩) (v := ?_) rfl (by kernel_rfl) (by kernel_rfl) (by kernel_rfl) (Or.inl ⟨by rfl, unib_val ?_⟩) ?_; rotate_left; (focus (intro w9 hSw; have q9 := T142.out.below hSw T142.out.lt; have q0 := q9.c16; have q1 := q9.c17; go_simp; try with_reducible rfl)); simp only [Act.put, List.setIfInBounds_toArray, List.set_cons_zero, List.set_cons_succ]
  refine wpG_take (i := 6) (oi := ⟨some 124, _, _, _, _, _⟩) (v := ?_) rfl (by kernel_rfl) (by kernel_rfl) (by kernel_rfl) (Or.inl ⟨by rfl, unib_val ?_⟩) ?_; rotate_left; (focus (intro w9 hSw; go_simp; try with_reducible rfl)); simp only [Act.put, List.setIfInBounds_toArray, List.set_cons_zero, List.set_cons_succ]
  refine wpG_take (i := 7) (oi := ⟨some 125, _, _, _, _, _⟩) (v := ?_) rfl (by kernel_rfl) (by kernel_rfl) (by kernel_rfl) (Or.inl ⟨by rfl, unib_val ?_⟩) ?_; rotate_left; (focus (intro w9 hSw; have q9 := T140.out.below hSw T140.out.lt; have q0 := q9.c16; have q1 := q9.c17; go_simp; try with_reducible rfl)); simp only [Act.put, List.setIfInBounds_toArray, List.set_cons_zero, List.set_cons_succ]
  refine wpG_take (i := 8) (oi := ⟨some 126, _, _, _, _, _⟩) (v := ?_) rfl (by kernel_rfl) (by kernel_rfl) (by kernel_rfl) (Or.inl ⟨by rfl, unib_val ?_⟩) ?_; rotate_left; (focus (intro w9 hSw; go_simp; try with_reducible rfl)); simp only [Act.put, List.setIfInBounds_toArray, List.set_cons_zero, List.set_cons_succ]
  refine wpG_take (i := 9) (oi := ⟨some 127, _, _, _, _, _⟩) (v := ?_) rfl (by kernel_rfl) (by kernel_rfl) (by kernel_rfl) (Or.inl ⟨by rfl, unib_val ?_⟩) ?_; rotate_left; (focus (intro w9 hSw; have q9 := T141.out.below hSw T141.out.lt; have q0 := q9.c16; have q1 := q9.c17; go_simp; try with_reducible rfl)); simp only [Act.put, List.setIfInBounds_toArray, List.set_cons_zero, List.set_cons_succ]
  refine wpG_take (i := 10) (oi := ⟨some 128, _, _, _, _, _⟩) rfl (by kernel_rfl) (by kernel_rfl) (by kernel_rfl) (Or.inl ⟨by rfl, unib_call ?_ U150.out⟩) ?_; (focus (intro w9 hSw; go_simp; try with_reducible rfl)); simp only [Act.put, List.setIfInBounds_toArray, List.set_cons_zero, List.set_cons_succ]
  refine wpG_take (i := 11) (oi := ⟨some 129, _, _, _, _, _⟩) (v := ?_) rfl (by kernel_rfl) (by kernel_rfl) (by kernel_rfl) (Or.inl ⟨by rfl, unib_val ?_⟩) ?_; rotate_left; (focus (intro w9 hSw; go_simp; try with_reducible rfl)); simp only [Act.put, List.setIfInBounds_toArray, List.set_cons_zero, List.set_cons_succ]
  refine wpG_take (i := 12) (oi := ⟨some 130, _, _, _, _, _⟩) (v := ?_) rfl (by kernel_rfl) (by kernel_rfl) (by kernel_rfl) (Or.inl ⟨by rfl, unib_val ?_⟩) ?_; rotate_left; (focus (intro w9 hSw; go_simp; try with_reducible rfl)); simp only [Act.put, List.setIfInBounds_toArray, List.set_cons_zero, List.set_cons_succ]
  refine wpG_take (i := 13) (oi := ⟨some 131, _, _, _, _, _⟩) (v := ?_) rfl (by kernel_rfl) (by kernel_rfl) (by kernel_rfl) (Or.inl ⟨by rfl, unib_val ?_⟩) ?_; rotate_left; (focus (intro w9 hSw; go_simp; try with_reducible rfl)); simp only [Act.put, List.setIfInBounds_toArray, List.set_cons_zero, List.set_cons_succ]
  refine wpG_take (i := 14) (oi := ⟨some 132, _, _, _, _, _⟩) (v := ?_) rfl (by kernel_rfl) (by kernel_rfl) (by kernel_rfl) (Or.inl ⟨by rfl, unib_val ?_⟩) ?_; rotate_left; (focus (intro w9 hSw; go_simp; try with_reducible rfl)); simp only [Act.put, List.setIfInBounds_toArray, List.set_cons_zero, List.set_cons_succ]
  refine wpG_take (i := 15) (oi := ⟨some 133, _, _, _, _, _⟩) (v := (.agg (bvals j.z))) rfl (by kernel_rfl) (by kernel_rfl) (by kernel_rfl) (Or.inl ⟨by rfl, unib_val ?_⟩) ?_; (focus (intro w9 hSw; exact exec_load_by 40 _ rfl ⟨w41.heap.size, 0, none⟩ rfl (load_id (T142.out.below hSw T142.out.lt)))); simp only [Act.put, List.setIfInBounds_toArray, List.set_cons_zero, List.set_cons_succ]
  refine wpG_take (i := 16) (oi := ⟨some 134, _, _, _, _, _⟩) (v := ?_) rfl (by kernel_rfl) (by kernel_rfl) (by kernel_rfl) (Or.inl ⟨by rfl, unib_val ?_⟩) ?_; rotate_left; (focus (intro w9 hSw; go_simp; try with_reducible rfl)); simp only [Act.put, List.setIfInBounds_toArray, List.set_cons_zero, List.set_cons_succ]
  refine wpG_take (i := 17) (oi := ⟨some 135, _, _, _, _, _⟩) (v := (.agg (bvals a.z))) rfl (by kernel_rfl) (by kernel_rfl) (by kernel_rfl) (Or.inl ⟨by rfl, unib_val ?_⟩) ?_; (focus (intro w9 hSw; exact exec_load_by 40 _ rfl ⟨w.heap.size, 0, none⟩ rfl (load_id (T140.out.below hSw T140.out.lt)))); simp only [Act.put, List.setIfInBounds_toArray, List.set_cons_zero, List.set_cons_succ]
  refine wpG_take (i := 18) (oi := ⟨some 136, _, _, _, _, _⟩) (v := ?_) rfl (by kernel_rfl) (by kernel_rfl) (by kernel_rfl) (Or.inl ⟨by rfl, unib_val ?_⟩) ?_; rotate_left; (focus (intro w9 hSw; have q0 := HE.out w9; go_simp; try with_reducible rfl)); simp only [Act.put, List.setIfInBounds_toArray, List.set_cons_zero, List.set_cons_succ]
  refine wpG_take (i := 19) (oi := ⟨some 137, _, _, _, _, _⟩) (v := ?_) rfl (by kernel_rfl) (by kernel_rfl) (by kernel_rfl) (Or.inl ⟨by rfl, unib_val ?_⟩) ?_; rotate_left; (focus (intro w9 hSw; go_simp; try with_reducible rfl)); simp only [Act.put, List.setIfInBounds_toArray, List.set_cons_zero, List.set_cons_succ]
  refine wpG_take (i := 20) (oi := ⟨some 6, _, _, _, _, _⟩) (v := ?_) rfl (by kernel_rfl) (by kernel_rfl) (by kernel_rfl) (Or.inl ⟨by rfl, unib_val ?_⟩) ?_; rotate_left; (focus (intro w9 hSw; go_simp; try with_reducible rfl)); simp only [Act.put, List.setIfInBounds_toArray, List.set_cons_zero, List.set_cons_succ]
  refine wpG_done (by kernel_rfl) ?_ _
  intro w9 hSw _
  go_wp2
  go_ret
  exact ⟨rfl, B149.out.trans (hSw.mono B149.out.size)⟩
set_option maxHeartbeats 16000000 in
theorem cells_x10 (a : Rc) (A : Option Addr) (ca : Nat) (b : Rc) (B : Option Addr) (cb : Nat) (no : Int) (w : World) (hlaid : Laid w) (wa : IsRec w a A ca) (wb : IsRec w b B cb) (pa : fewR a.fs = true) (pb : fewR b.fs = true) (j : Rc) (jv : a.join b = some j) (mxj : mx (a.n, a.r) (b.n, b.r) = (j.n, j.r)) (jz : j.z = a.z) (x : Cel) (fx : rfind a.fs no = some x) (fy : rfind b.fs no = none) (fz : rfind j.fs no = some x) (zx : x.s.size ≤ 300) (lx : cless x x = false) (sx : stLess j.n j.r x.n x.r = true) :
    Calls Tryd.prog 9 #[a.v A ca, b.v B cb, .int .i64 no] w fun e w' => e = .returned (.bool true) ∧ Below w.heap.size w w' := by
  have HLA := Lib.hid (fun (X : World) (hX : Below w.heap.size w X) => hlaid.below hX (Nat.le_refl _))
  have OKa := Lib.hid wa.1
  have OKb := Lib.hid wb.1
  have Fa := Lib.hid wa.2.1
  have Fb := Lib.hid wb.2.1
  have hz := zeroRec
  unfold rv at hz
  conv => congr; rfl; rfl; (unfold Rc.v rv)
  have PA := Lib.hid pa
  have PB := Lib.hid pb
  have JV := Lib.hid jv
  have MXJ := Lib.hid mxj
  have OKj := Lib.hid (Rc.join_ok wa.1 jv)
  have HE := Lib.hid (show ∀ w9 : World, (Op.equalIn 10000 40 (.agg (bvals j.z)) (.agg (bvals a.z))).run Tryd.prog w9 = .ok true w9 from fun w9 => by
    have := eq_id (Rc.join_ok wa.1 jv).2 wa.1.2 (Rc.join_ok wa.1 jv).1 wa.1.1 w9
    rwa [show (j.z == a.z) = true by rw [beq_iff_eq]; exact jz] at this)
  clear hlaid wa wb pa pb jv mxj jz
  have FX := Lib.hid fx
  have FY := Lib.hid fy
  have FZ := Lib.hid fz
  have SZx := Lib.hid zx
  have Lxx := Lib.hid lx
  have Sx := Lib.hid sx
  clear fx fy fz zx lx sx
  have B1 := Lib.hid (Below.refl w.heap.size w)
  have T2n := RcAt.new w OKa.out.len a.n a.r (.slice A a.fs.length ca)
  have T2 := Lib.hid (T2n)
  clear T2n
  have B3 := Lib.hid (B1.out.alloc B1.out.size (.cells (rcells a.z a.n a.r (.slice A a.fs.length ca)) 43))
  have T4 := Lib.hid (T2.out.old (.cells (rcells b.z b.n b.r (.slice B b.fs.length cb)) 43))
  have T5n := RcAt.new (w.alloc (.cells (rcells a.z a.n a.r (.slice A a.fs.length ca)) 43)) OKb.out.len b.n b.r (.slice B b.fs.length cb)
  simp only [World.size_alloc] at T5n
  have T5 := Lib.hid (T5n)
  clear T5n
  have B6 := Lib.hid (B3.out.alloc B3.out.size (.cells (rcells b.z b.n b.r (.slice B b.fs.length cb)) 43))
  have F7 := Lib.hid (Fa.out.below B6.out (Nat.le_refl _))
  have F8 := Lib.hid (Fb.out.below B6.out (Nat.le_refl _))
  go_enter Tryd.func9, Tryd.ntmps9
  have C9 := Lib.hid (rcAwake ((w.alloc (.cells (rcells a.z a.n a.r (.slice A a.fs.length ca)) 43)).alloc (.cells (rcells b.z b.n b.r (.slice B b.fs.length cb)) 43)) (HLA.out _ B6.out))
  go_wp2_with fail
  refine C9.out.mono ?_
  rintro e w10 ⟨rfl, hb11⟩
  have T12 := Lib.hid (T4.out.below hb11 T4.out.lt)
  have T13 := Lib.hid (T5.out.below hb11 T5.out.lt)
  have F14 := Lib.hid (F7.out.below hb11 (Nat.le_refl _))
  have F15 := Lib.hid (F8.out.below hb11 (Nat.le_refl _))
  have B16 := Lib.hid (B6.out.trans (hb11.mono B6.out.size))
  clear hb11
  have M17 := Lib.hid (load_rec T12.out)
  unfold rv at M17
  have C18 := Lib.hid (fewR_any a A ca w10 OKa.out F14.out)
  unfold Rc.v at C18
  unfold rv at C18
  rw [PA.out] at C18
  go_wp2_with (first | ((with_reducible refine wpList_load_by (o := ⟨some 20, .load 43 (.tmp 3), _, _, _, _⟩) ?e1 43 (.tmp 3) ?e2 ⟨w.heap.size, 0, none⟩ ?e3 _ M17.out ?_); (case e1 => rfl); (case e2 => rfl); (case e3 => rfl)))
  refine C18.out.mono ?_
  rintro e w19 ⟨rfl, hb20⟩
  have T21 := Lib.hid (T12.out.below hb20 T12.out.lt)
  have T22 := Lib.hid (T13.out.below hb20 T13.out.lt)
  have F23 := Lib.hid (F14.out.below hb20 (Nat.le_refl _))
  have F24 := Lib.hid (F15.out.below hb20 (Nat.le_refl _))
  have B25 := Lib.hid (B16.out.trans (hb20.mono B16.out.size))
  clear hb20
  have M26 := Lib.hid (load_rec T22.out)
  unfold rv at M26
  have C27 := Lib.hid (fewR_any b B cb w19 OKb.out F24.out)
  unfold Rc.v at C27
  unfold rv at C27
  rw [PB.out] at C27
  go_wp2_with (first | ((with_reducible refine wpList_load_by (o := ⟨some 22, .load 43 (.tmp 4), _, _, _, _⟩) ?e1 43 (.tmp 4) ?e2 ⟨(w.heap.size + 1), 0, none⟩ ?e3 _ M26.out ?_); (case e1 => rfl); (case e2 => rfl); (case e3 => rfl)))
  refine C27.out.mono ?_
  rintro e w28 ⟨rfl, hb29⟩
  have T30 := Lib.hid (T21.out.below hb29 T21.out.lt)
  have T31 := Lib.hid (T22.out.below hb29 T22.out.lt)
  have F32 := Lib.hid (F23.out.below hb29 (Nat.le_refl _))
  have F33 := Lib.hid (F24.out.below hb29 (Nat.le_refl _))
  have B34 := Lib.hid (B25.out.trans (hb29.mono B25.out.size))
  clear hb29
  have M38 := Lib.hid (load_rec T30.out)
  unfold rv at M38
  have M39 := Lib.hid (load_rec T31.out)
  unfold rv at M39
  have C40 := Lib.hid (join_any a b A B ca cb w28 (HLA.out _ B34.out) OKa.out OKb.out F32.out F33.out)
  unfold JoinPost Rc.v at C40
  unfold rv at C40
  rw [JV.out] at C40
  dsimp only [Option.getD, Option.isSome] at C40
  go_wp2_with (first | ((with_reducible refine wpList_load_by (o := ⟨some 25, .load 43 (.tmp 3), _, _, _, _⟩) ?e1 43 (.tmp 3) ?e2 ⟨w.heap.size, 0, none⟩ ?e3 _ M38.out ?_); (case e1 => rfl); (case e2 => rfl); (case e3 => rfl)) | ((with_reducible refine wpList_load_by (o := ⟨some 26, .load 43 (.tmp 4), _, _, _, _⟩) ?e1 43 (.tmp 4) ?e2 ⟨(w.heap.size + 1), 0, none⟩ ?e3 _ M39.out ?_); (case e1 => rfl); (case e2 => rfl); (case e3 => rfl)))
  refine C40.out.mono ?_
  rintro e w41 ⟨A35, c36, rfl, hf37, hb42⟩
  have T43 := Lib.hid (T30.out.below hb42 T30.out.lt)
  have T44 := Lib.hid (T31.out.below hb42 T31.out.lt)
  have F45 := Lib.hid (F32.out.below hb42 (Nat.le_refl _))
  have F46 := Lib.hid (F33.out.below hb42 (Nat.le_refl _))
  have B47 := Lib.hid (B34.out.trans (hb42.mono B34.out.size))
  clear hb42
  have F48 := Lib.hid (hf37)
  clear hf37
  go_wp2_with (first | ((with_reducible refine wpList_store_new (o := ⟨none, .store 43 (.tmp 10) (.tmp 28), _, _, _, _⟩) (w := w41) ?e1 (.tmp 10) (.tmp 28) ?e2 w41.heap.size rfl ?e3 j.z j.n j.r (.slice A35 j.fs.length c36) ?e4 OKj.out.len ?e5 ?_); (case e1 => rfl); (case e2 => rfl); (case e3 => rfl); (case e4 => rfl); (case e5 => rfl); intro w49 hb50 hRs; have T51 := Lib.hid hRs; clear hRs; have T52 := Lib.hid (T43.out.below hb50 T43.out.lt); have T53 := Lib.hid (T44.out.below hb50 T44.out.lt); have F54 := Lib.hid (F45.out.below hb50 (Nat.le_refl _)); have F55 := Lib.hid (F46.out.below hb50 (Nat.le_refl _)); have F56 := Lib.hid (F48.out.below hb50 (Nat.le_refl _)); have B57 := Lib.hid (B47.out.trans (hb50.mono B47.out.size)); clear hb50; have M58 := Lib.hid (load_rec T52.out); unfold rv at M58; have C59 := Lib.hid (find_any' a A ca no w49 OKa.out F54.out); unfold FindPost Rc.v at C59; unfold rv at C59; rw [FX.out] at C59; dsimp only [Option.getD, Option.isSome, Cel.v, cel00] at C59) | ((with_reducible refine wpList_load_by (o := ⟨some 46, .load 43 (.tmp 3), _, _, _, _⟩) ?e1 43 (.tmp 3) ?e2 ⟨w.heap.size, 0, none⟩ ?e3 _ M58.out ?_); (case e1 => rfl); (case e2 => rfl); (case e3 => rfl)))
  refine C59.out.mono ?_
  rintro e w60 ⟨rfl, hb61⟩
  have T62 := Lib.hid (T52.out.below hb61 T52.out.lt)
  have T63 := Lib.hid (T53.out.below hb61 T53.out.lt)
  have T64 := Lib.hid (T51.out.below hb61 T51.out.lt)
  have F65 := Lib.hid (F54.out.below hb61 (Nat.le_refl _))
  have F66 := Lib.hid (F55.out.below hb61 (Nat.le_refl _))
  have F67 := Lib.hid (F56.out.below hb61 (Nat.le_refl _))
  have B68 := Lib.hid (B57.out.trans (hb61.mono B57.out.size))
  clear hb61
  have hb69 := (Below.refl w60.heap.size w60).alloc (Nat.le_refl _) (.cells #[.int .i64 x.n, .int .i64 x.r, .string x.s] 25)
  have T70 := Lib.hid (ClAt.new w60 x)
  try dsimp only at T70
  have T71 := Lib.hid (T62.out.below hb69 T62.out.lt)
  have T72 := Lib.hid (T63.out.below hb69 T63.out.lt)
  have T73 := Lib.hid (T64.out.below hb69 T64.out.lt)
  have F74 := Lib.hid (F65.out.below hb69 (Nat.le_refl _))
  have F75 := Lib.hid (F66.out.below hb69 (Nat.le_refl _))
  have F76 := Lib.hid (F67.out.below hb69 (Nat.le_refl _))
  have B77 := Lib.hid (B68.out.trans (hb69.mono B68.out.size))
  clear hb69
  have M78 := Lib.hid (load_rec T72.out)
  unfold rv at M78
  have C79 := Lib.hid (find_any' b B cb no (w60.alloc (.cells #[.int .i64 x.n, .int .i64 x.r, .string x.s] 25)) OKb.out F75.out)
  unfold FindPost Rc.v at C79
  unfold rv at C79
  rw [FY.out] at C79
  dsimp only [Option.getD, Option.isSome, Cel.v, cel00] at C79
  go_wp2_with (first | ((with_reducible refine wpList_load_by (o := ⟨some 52, .load 43 (.tmp 4), _, _, _, _⟩) ?e1 43 (.tmp 4) ?e2 ⟨(w.heap.size + 1), 0, none⟩ ?e3 _ M78.out ?_); (case e1 => rfl); (case e2 => rfl); (case e3 => rfl)))
  refine C79.out.mono ?_
  rintro e w80 ⟨rfl, hb81⟩
  have T82 := Lib.hid (T71.out.below hb81 T71.out.lt)
  have T83 := Lib.hid (T72.out.below hb81 T72.out.lt)
  have T84 := Lib.hid (T73.out.below hb81 T73.out.lt)
  have T85 := Lib.hid (T70.out.below hb81 T70.out.lt)
  have F86 := Lib.hid (F74.out.below hb81 (Nat.le_refl _))
  have F87 := Lib.hid (F75.out.below hb81 (Nat.le_refl _))
  have F88 := Lib.hid (F76.out.below hb81 (Nat.le_refl _))
  have B89 := Lib.hid (B77.out.trans (hb81.mono B77.out.size))
  clear hb81
  have hb90 := (Below.refl w80.heap.size w80).alloc (Nat.le_refl _) (.cells #[.int .i64 0, .int .i64 0, .string ⟨#[]⟩] 25)
  have T91 := Lib.hid (ClAt.new w80 (⟨0, 0, ⟨#[]⟩⟩ : Cel))
  try dsimp only at T91
  have T92 := Lib.hid (T82.out.below hb90 T82.out.lt)
  have T93 := Lib.hid (T83.out.below hb90 T83.out.lt)
  have T94 := Lib.hid (T84.out.below hb90 T84.out.lt)
  have T95 := Lib.hid (T85.out.below hb90 T85.out.lt)
  have F96 := Lib.hid (F86.out.below hb90 (Nat.le_refl _))
  have F97 := Lib.hid (F87.out.below hb90 (Nat.le_refl _))
  have F98 := Lib.hid (F88.out.below hb90 (Nat.le_refl _))
  have B99 := Lib.hid (B89.out.trans (hb90.mono B89.out.size))
  clear hb90
  have M100 := Lib.hid (load_rec T94.out)
  unfold rv at M100
  have C101 := Lib.hid (find_any' j A35 c36 no (w80.alloc (.cells #[.int .i64 0, .int .i64 0, .string ⟨#[]⟩] 25)) OKj.out F98.out)
  unfold FindPost Rc.v at C101
  unfold rv at C101
  rw [FZ.out] at C101
  dsimp only [Option.getD, Option.isSome, Cel.v, cel00] at C101
  go_wp2_with (first | ((with_reducible refine wpList_load_by (o := ⟨some 58, .load 43 (.tmp 10), _, _, _, _⟩) ?e1 43 (.tmp 10) ?e2 ⟨w41.heap.size, 0, none⟩ ?e3 _ M100.out ?_); (case e1 => rfl); (case e2 => rfl); (case e3 => rfl)))
  refine C101.out.mono ?_
  rintro e w102 ⟨rfl, hb103⟩
  have T104 := Lib.hid (T92.out.below hb103 T92.out.lt)
  have T105 := Lib.hid (T93.out.below hb103 T93.out.lt)
  have T106 := Lib.hid (T94.out.below hb103 T94.out.lt)
  have T107 := Lib.hid (T95.out.below hb103 T95.out.lt)
  have T108 := Lib.hid (T91.out.below hb103 T91.out.lt)
  have F109 := Lib.hid (F96.out.below hb103 (Nat.le_refl _))
  have F110 := Lib.hid (F97.out.below hb103 (Nat.le_refl _))
  have F111 := Lib.hid (F98.out.below hb103 (Nat.le_refl _))
  have B112 := Lib.hid (B99.out.trans (hb103.mono B99.out.size))
  clear hb103
  have hb113 := (Below.refl w102.heap.size w102).alloc (Nat.le_refl _) (.cells #[.int .i64 x.n, .int .i64 x.r, .string x.s] 25)
  have T114 := Lib.hid (ClAt.new w102 x)
  try dsimp only at T114
  have T115 := Lib.hid (T104.out.below hb113 T104.out.lt)
  have T116 := Lib.hid (T105.out.below hb113 T105.out.lt)
  have T117 := Lib.hid (T106.out.below hb113 T106.out.lt)
  have T118 := Lib.hid (T107.out.below hb113 T107.out.lt)
  have T119 := Lib.hid (T108.out.below hb113 T108.out.lt)
  have F120 := Lib.hid (F109.out.below hb113 (Nat.le_refl _))
  have F121 := Lib.hid (F110.out.below hb113 (Nat.le_refl _))
  have F122 := Lib.hid (F111.out.below hb113 (Nat.le_refl _))
  have B123 := Lib.hid (B112.out.trans (hb113.mono B112.out.size))
  clear hb113
  
  have k120 := T118.out.c0
  have k121 := T118.out.c1
  have k122 := T118.out.c2
  have k140 := T119.out.c0
  have k141 := T119.out.c1
  have k142 := T119.out.c2
  have k160 := T114.out.c0
  have k161 := T114.out.c1
  have k162 := T114.out.c2
  have hs := cl_same x
  have C124 := Lib.hid (cless_any x x (w102.alloc (.cells #[.int .i64 x.n, .int .i64 x.r, .string x.s] 25)) (HLA.out _ B123.out) SZx.out SZx.out)
  unfold Cel.v at C124
  rw [Lxx.out] at C124
  go_wp2_with fail
  refine C124.out.mono ?_
  rintro e w125 ⟨rfl, hb126⟩
  have T127 := Lib.hid (T115.out.below hb126 T115.out.lt)
  have T128 := Lib.hid (T116.out.below hb126 T116.out.lt)
  have T129 := Lib.hid (T117.out.below hb126 T117.out.lt)
  have T130 := Lib.hid (T118.out.below hb126 T118.out.lt)
  have T131 := Lib.hid (T119.out.below hb126 T119.out.lt)
  have T132 := Lib.hid (T114.out.below hb126 T114.out.lt)
  have F133 := Lib.hid (F120.out.below hb126 (Nat.le_refl _))
  have F134 := Lib.hid (F121.out.below hb126 (Nat.le_refl _))
  have F135 := Lib.hid (F122.out.below hb126 (Nat.le_refl _))
  have B136 := Lib.hid (B123.out.trans (hb126.mono B123.out.size))
  clear hb126
  clear k120 k121 k122 k140 k141 k142 k160 k161 k162 hs
  have k120 := T130.out.c0
  have k121 := T130.out.c1
  have k122 := T130.out.c2
  have k140 := T131.out.c0
  have k141 := T131.out.c1
  have k142 := T131.out.c2
  have k160 := T132.out.c0
  have k161 := T132.out.c1
  have k162 := T132.out.c2
  clear k120 k121 k122 k140 k141 k142 k160 k161 k162
  have d6 := T129.out.c16
  have d7 := T129.out.c17
  have k120 := T130.out.c0
  have k121 := T130.out.c1
  have k122 := T130.out.c2
  have k140 := T131.out.c0
  have k141 := T131.out.c1
  have k142 := T131.out.c2
  have C137 := Lib.hid (stLess_any j.n j.r x.n x.r w125)
  unfold st at C137
  rw [Sx.out] at C137
  go_wp2_with fail
  refine C137.out.mono ?_
  rintro e w138 ⟨rfl, hb139⟩
  have T140 := Lib.hid (T127.out.below hb139 T127.out.lt)
  have T141 := Lib.hid (T128.out.below hb139 T128.out.lt)
  have T142 := Lib.hid (T129.out.below hb139 T129.out.lt)
  have T143 := Lib.hid (T130.out.below hb139 T130.out.lt)
  have T144 := Lib.hid (T131.out.below hb139 T131.out.lt)
  have T145 := Lib.hid (T132.out.below hb139 T132.out.lt)
  have F146 := Lib.hid (F133.out.below hb139 (Nat.le_refl _))
  have F147 := Lib.hid (F134.out.below hb139 (Nat.le_refl _))
  have F148 := Lib.hid (F135.out.below hb139 (Nat.le_refl _))
  have B149 := Lib.hid (B136.out.trans (hb139.mono B136.out.size))
  clear hb139
  clear d6 d7 k120 k121 k122 k140 k141 k142
  have U150 := Lib.hid (fun (w9 : World) => max_any (a.n, a.r) (b.n, b.r) w9)
  rw [MXJ.out] at U150
  unfold st at U150
  dsimp only at U150
  go_wp2_with fail
  refine wp_region_G w138 (by kernel_rfl) ?_
  refine wpG_take (i := 0) (oi := ⟨some 118, _, _, _, _, _⟩) (v := ?_) rfl (by kernel_rfl) (by kernel_rfl) (by kernel_rfl) (Or.inl ⟨by rfl, unib_val ?_⟩) ?_; rotate_left; (focus (intro w9 hSw; go_simp; try with_reducible rfl)); simp only [Act.put, List.setIfInBounds_toArray, List.set_cons_zero, List.set_cons_succ]
  refine wpG_take (i := 1) (oi := ⟨some 119, _, _, _, _, _⟩) (v := ?_) rfl (by kernel_rfl) (by kernel_rfl) (by kernel_rfl) (Or.inl ⟨by rfl, unib_val ?_⟩) ?_; rotate_left; (focus (intro w9 hSw; go_simp; try with_reducible rfl)); simp only [Act.put, List.setIfInBounds_toArray, List.set_cons_zero, List.set_cons_succ]
  refine wpG_take (i := 2) (oi := ⟨some 120, _, _, _, _, _⟩) (v := ?_) rfl (by kernel_rfl) (by kernel_rfl) (by kernel_rfl) (Or.inl ⟨by rfl, unib_val ?_⟩) ?_; rotate_left; (focus (intro w9 hSw; go_simp; try with_reducible rfl)); simp only [Act.put, List.setIfInBounds_toArray, List.set_cons_zero, List.set_cons_succ]
  refine wpG_take (i := 3) (oi := ⟨some 121, _, _, _, _, _⟩) (v := ?_) rfl (by kernel_rfl) (by kernel_rfl) (by kernel_rfl) (Or.inl ⟨by rfl, unib_val ?_⟩) ?_; rotate_left; (focus (intro w9 hSw; go_simp; try with_reducible rfl)); simp only [Act.put, List.setIfInBounds_toArray, List.set_cons_zero, List.set_cons_succ]
  refine wpG_take (i := 4) (oi := ⟨some 122, _, _, _, _, _⟩) (v := ?_) rfl (by kernel_rfl) (by kernel_rfl) (by kernel_rfl) (Or.inl ⟨by rfl, unib_val ?_⟩) ?_; rotate_left; (focus (intro w9 hSw; go_simp; try with_reducible rfl)); simp only [Act.put, List.setIfInBounds_toArray, List.set_cons_zero, List.set_cons_succ]
  refine wpG_take (i := 5) (oi := ⟨some 123, _, _, _, _, _⟩) (v := ?_) rfl (by kernel_rfl) (by kernel_rfl) (by kernel_rfl) (Or.inl ⟨by rfl, unib_val ?_⟩) ?_; rotate_left; (focus (intro w9 hSw; have q9 := T142.out.below hSw T142.out.lt; have q0 := q9.c16; have q1 := q9.c17; go_simp; try with_reducible rfl)); simp only [Act.put, List.setIfInBounds_toArray, List.set_cons_zero, List.set_cons_succ]
  refine wpG_take (i := 6) (oi := ⟨some 124, _, _, _, _, _⟩) (v := ?_) rfl (by kernel_rfl) (by kernel_rfl) (by kernel_rfl) (Or.inl ⟨by rfl, unib_val ?_⟩) ?_; rotate_left; (focus (intro w9 hSw; go_simp; try with_reducible rfl)); simp only [Act.put, List.setIfInBounds_toArray, List.set_cons_zero, List.set_cons_succ]
  refine wpG_take (i := 7) (oi := ⟨some 125, _, _, _, _, _⟩) (v := ?_) rfl (by kernel_rfl) (by kernel_rfl) (by kernel_rfl) (Or.inl ⟨by rfl, unib_val ?_⟩) ?_; rotate_left; (focus (intro w9 hSw; have q9 := T140.out.below hSw T140.out.lt; have q0 := q9.c16; have q1 := q9.c17; go_simp; try with_reducible rfl)); simp only [Act.put, List.setIfInBounds_toArray, List.set_cons_zero, List.set_cons_succ]
  refine wpG_take (i := 8) (oi := ⟨some 126, _, _, _, _, _⟩) (v := ?_) rfl (by kernel_rfl) (by kernel_rfl) (by kernel_rfl) (Or.inl ⟨by rfl, unib_val ?_⟩) ?_; rotate_left; (focus (intro w9 hSw; go_simp; try with_reducible rfl)); simp only [Act.put, List.setIfInBounds_toArray, List.set_cons_zero, List.set_cons_succ]
  refine wpG_take (i := 9) (oi := ⟨some 127, _, _, _, _, _⟩) (v := ?_) rfl (by kernel_rfl) (by kernel_rfl) (by kernel_rfl) (Or.inl ⟨by rfl, unib_val ?_⟩) ?_; rotate_left; (focus (intro w9 hSw; have q9 := T141.out.below hSw T141.out.lt; have q0 := q9.c16; have q1 := q9.c17; go_simp; try with_reducible rfl)); simp only [Act.put, List.setIfInBounds_toArray, List.set_cons_zero, List.set_cons_succ]
  refine wpG_take (i := 10) (oi := ⟨some 128, _, _, _, _, _⟩) rfl (by kernel_rfl) (by kernel_rfl) (by kernel_rfl) (Or.inl ⟨by rfl, unib_call ?_ U150.out⟩) ?_; (focus (intro w9 hSw; go_simp; try with_reducible rfl)); simp only [Act.put, List.setIfInBounds_toArray, List.set_cons_zero, List.set_cons_succ]
  refine wpG_take (i := 11) (oi := ⟨some 129, _, _, _, _, _⟩) (v := ?_) rfl (by kernel_rfl) (by kernel_rfl) (by kernel_rfl) (Or.inl ⟨by rfl, unib_val ?_⟩) ?_; rotate_left; (focus (intro w9 hSw; go_simp; try with_reducible rfl)); simp only [Act.put, List.setIfInBounds_toArray, List.set_cons_zero, List.set_cons_succ]
  refine wpG_take (i := 12) (oi := ⟨some 130, _, _, _, _, _⟩) (v := ?_) rfl (by kernel_rfl) (by kernel_rfl) (by kernel_rfl) (Or.inl ⟨by rfl, unib_val ?_⟩) ?_; rotate_left; (focus (intro w9 hSw; go_simp; try with_reducible rfl)); simp only [Act.put, List.setIfInBounds_toArray, List.set_cons_zero, List.set_cons_succ]
  refine wpG_take (i := 13) (oi := ⟨some 131, _, _, _, _, _⟩) (v := ?_) rfl (by kernel_rfl) (by kernel_rfl) (by kernel_rfl) (Or.inl ⟨by rfl, unib_val ?_⟩) ?_; rotate_left; (focus (intro w9 hSw; go_simp; try with_reducible rfl)); simp only [Act.put, List.setIfInBounds_toArray, List.set_cons_zero, List.set_cons_succ]
  refine wpG_take (i := 14) (oi := ⟨some 132, _, _, _, _, _⟩) (v := ?_) rfl (by kernel_rfl) (by kernel_rfl) (by kernel_rfl) (Or.inl ⟨by rfl, unib_val ?_⟩) ?_; rotate_left; (focus (intro w9 hSw; go_simp; try with_reducible rfl)); simp only [Act.put, List.setIfInBounds_toArray, List.set_cons_zero, List.set_cons_succ]
  refine wpG_take (i := 15) (oi := ⟨some 133, _, _, _, _, _⟩) (v := (.agg (bvals j.z))) rfl (by kernel_rfl) (by kernel_rfl) (by kernel_rfl) (Or.inl ⟨by rfl, unib_val ?_⟩) ?_; (focus (intro w9 hSw; exact exec_load_by 40 _ rfl ⟨w41.heap.size, 0, none⟩ rfl (load_id (T142.out.below hSw T142.out.lt)))); simp only [Act.put, List.setIfInBounds_toArray, List.set_cons_zero, List.set_cons_succ]
  refine wpG_take (i := 16) (oi := ⟨some 134, _, _, _, _, _⟩) (v := ?_) rfl (by kernel_rfl) (by kernel_rfl) (by kernel_rfl) (Or.inl ⟨by rfl, unib_val ?_⟩) ?_; rotate_left; (focus (intro w9 hSw; go_simp; try with_reducible rfl)); simp only [Act.put, List.setIfInBounds_toArray, List.set_cons_zero, List.set_cons_succ]
  refine wpG_take (i := 17) (oi := ⟨some 135, _, _, _, _, _⟩) (v := (.agg (bvals a.z))) rfl (by kernel_rfl) (by kernel_rfl) (by kernel_rfl) (Or.inl ⟨by rfl, unib_val ?_⟩) ?_; (focus (intro w9 hSw; exact exec_load_by 40 _ rfl ⟨w.heap.size, 0, none⟩ rfl (load_id (T140.out.below hSw T140.out.lt)))); simp only [Act.put, List.setIfInBounds_toArray, List.set_cons_zero, List.set_cons_succ]
  refine wpG_take (i := 18) (oi := ⟨some 136, _, _, _, _, _⟩) (v := ?_) rfl (by kernel_rfl) (by kernel_rfl) (by kernel_rfl) (Or.inl ⟨by rfl, unib_val ?_⟩) ?_; rotate_left; (focus (intro w9 hSw; have q0 := HE.out w9; go_simp; try with_reducible rfl)); simp only [Act.put, List.setIfInBounds_toArray, List.set_cons_zero, List.set_cons_succ]
  refine wpG_take (i := 19) (oi := ⟨some 137, _, _, _, _, _⟩) (v := ?_) rfl (by kernel_rfl) (by kernel_rfl) (by kernel_rfl) (Or.inl ⟨by rfl, unib_val ?_⟩) ?_; rotate_left; (focus (intro w9 hSw; go_simp; try with_reducible rfl)); simp only [Act.put, List.setIfInBounds_toArray, List.set_cons_zero, List.set_cons_succ]
  refine wpG_take (i := 20) (oi := ⟨some 6, _, _, _, _, _⟩) (v := ?_) rfl (by kernel_rfl) (by kernel_rfl) (by kernel_rfl) (Or.inl ⟨by rfl, unib_val ?_⟩) ?_; rotate_left; (focus (intro w9 hSw; go_simp; try with_reducible rfl)); simp only [Act.put, List.setIfInBounds_toArray, List.set_cons_zero, List.set_cons_succ]
  refine wpG_done (by kernel_rfl) ?_ _
  intro w9 hSw _
  go_wp2
  go_ret
  exact ⟨rfl, B149.out.trans (hSw.mono B149.out.size)⟩
set_option maxHeartbeats 16000000 in
theorem cells_y01 (a : Rc) (A : Option Addr) (ca : Nat) (b : Rc) (B : Option Addr) (cb : Nat) (no : Int) (w : World) (hlaid : Laid w) (wa : IsRec w a A ca) (wb : IsRec w b B cb) (pa : fewR a.fs = true) (pb : fewR b.fs = true) (j : Rc) (jv : a.join b = some j) (mxj : mx (a.n, a.r) (b.n, b.r) = (j.n, j.r)) (jz : j.z = a.z) (y : Cel) (fx : rfind a.fs no = none) (fy : rfind b.fs no = some y) (fz : rfind j.fs no = some y) (zy : y.s.size ≤ 300) (ly : cless y y = false) (sy : stLess j.n j.r y.n y.r = true) :
    Calls Tryd.prog 9 #[a.v A ca, b.v B cb, .int .i64 no] w fun e w' => e = .returned (.bool true) ∧ Below w.heap.size w w' := by
  have HLA := Lib.hid (fun (X : World) (hX : Below w.heap.size w X) => hlaid.below hX (Nat.le_refl _))
  have OKa := Lib.hid wa.1
  have OKb := Lib.hid wb.1
  have Fa := Lib.hid wa.2.1
  have Fb := Lib.hid wb.2.1
  have hz := zeroRec
  unfold rv at hz
  conv => congr; rfl; rfl; (unfold Rc.v rv)
  have PA := Lib.hid pa
  have PB := Lib.hid pb
  have JV := Lib.hid jv
  have MXJ := Lib.hid mxj
  have OKj := Lib.hid (Rc.join_ok wa.1 jv)
  have HE := Lib.hid (show ∀ w9 : World, (Op.equalIn 10000 40 (.agg (bvals j.z)) (.agg (bvals a.z))).run Tryd.prog w9 = .ok true w9 from fun w9 => by
    have := eq_id (Rc.join_ok wa.1 jv).2 wa.1.2 (Rc.join_ok wa.1 jv).1 wa.1.1 w9
    rwa [show (j.z == a.z) = true by rw [beq_iff_eq]; exact jz] at this)
  clear hlaid wa wb pa pb jv mxj jz
  have FX := Lib.hid fx
  have FY := Lib.hid fy
  have FZ := Lib.hid fz
  have SZy := Lib.hid zy
  have Lyy := Lib.hid ly
  have Sy := Lib.hid sy
  clear fx fy fz zy ly sy
  have B1 := Lib.hid (Below.refl w.heap.size w)
  have T2n := RcAt.new w OKa.out.len a.n a.r (.slice A a.fs.length ca)
  have T2 := Lib.hid (T2n)
  clear T2n
  have B3 := Lib.hid (B1.out.alloc B1.out.size (.cells (rcells a.z a.n a.r (.slice A a.fs.length ca)) 43))
  have T4 := Lib.hid (T2.out.old (.cells (rcells b.z b.n b.r (.slice B b.fs.length cb)) 43))
  have T5n := RcAt.new (w.alloc (.cells (rcells a.z a.n a.r (.slice A a.fs.length ca)) 43)) OKb.out.len b.n b.r (.slice B b.fs.length cb)
  simp only [World.size_alloc] at T5n
  have T5 := Lib.hid (T5n)
  clear T5n
  have B6 := Lib.hid (B3.out.alloc B3.out.size (.cells (rcells b.z b.n b.r (.slice B b.fs.length cb)) 43))
  have F7 := Lib.hid (Fa.out.below B6.out (Nat.le_refl _))
  have F8 := Lib.hid (Fb.out.below B6.out (Nat.le_refl _))
  go_enter Tryd.func9, Tryd.ntmps9
  have C9 := Lib.hid (rcAwake ((w.alloc (.cells (rcells a.z a.n a.r (.slice A a.fs.length ca)) 43)).alloc (.cells (rcells b.z b.n b.r (.slice B b.fs.length cb)) 43)) (HLA.out _ B6.out))
  go_wp2_with fail
  refine C9.out.mono ?_
  rintro e w10 ⟨rfl, hb11⟩
  have T12 := Lib.hid (T4.out.below hb11 T4.out.lt)
  have T13 := Lib.hid (T5.out.below hb11 T5.out.lt)
  have F14 := Lib.hid (F7.out.below hb11 (Nat.le_refl _))
  have F15 := Lib.hid (F8.out.below hb11 (Nat.le_refl _))
  have B16 := Lib.hid (B6.out.trans (hb11.mono B6.out.size))
  clear hb11
  have M17 := Lib.hid (load_rec T12.out)
  unfold rv at M17
  have C18 := Lib.hid (fewR_any a A ca w10 OKa.out F14.out)
  unfold Rc.v at C18
  unfold rv at C18
  rw [PA.out] at C18
  go_wp2_with (first | ((with_reducible refine wpList_load_by (o := ⟨some 20, .load 43 (.tmp 3), _, _, _, _⟩) ?e1 43 (.tmp 3) ?e2 ⟨w.heap.size, 0, none⟩ ?e3 _ M17.out ?_); (case e1 => rfl); (case e2 => rfl); (case e3 => rfl)))
  refine C18.out.mono ?_
  rintro e w19 ⟨rfl, hb20⟩
  have T21 := Lib.hid (T12.out.below hb20 T12.out.lt)
  have T22 := Lib.hid (T13.out.below hb20 T13.out.lt)
  have F23 := Lib.hid (F14.out.below hb20 (Nat.le_refl _))
  have F24 := Lib.hid (F15.out.below hb20 (Nat.le_refl _))
  have B25 := Lib.hid (B16.out.trans (hb20.mono B16.out.size))
  clear hb20
  have M26 := Lib.hid (load_rec T22.out)
  unfold rv at M26
  have C27 := Lib.hid (fewR_any b B cb w19 OKb.out F24.out)
  unfold Rc.v at C27
  unfold rv at C27
  rw [PB.out] at C27
  go_wp2_with (first | ((with_reducible refine wpList_load_by (o := ⟨some 22, .load 43 (.tmp 4), _, _, _, _⟩) ?e1 43 (.tmp 4) ?e2 ⟨(w.heap.size + 1), 0, none⟩ ?e3 _ M26.out ?_); (case e1 => rfl); (case e2 => rfl); (case e3 => rfl)))
  refine C27.out.mono ?_
  rintro e w28 ⟨rfl, hb29⟩
  have T30 := Lib.hid (T21.out.below hb29 T21.out.lt)
  have T31 := Lib.hid (T22.out.below hb29 T22.out.lt)
  have F32 := Lib.hid (F23.out.below hb29 (Nat.le_refl _))
  have F33 := Lib.hid (F24.out.below hb29 (Nat.le_refl _))
  have B34 := Lib.hid (B25.out.trans (hb29.mono B25.out.size))
  clear hb29
  have M38 := Lib.hid (load_rec T30.out)
  unfold rv at M38
  have M39 := Lib.hid (load_rec T31.out)
  unfold rv at M39
  have C40 := Lib.hid (join_any a b A B ca cb w28 (HLA.out _ B34.out) OKa.out OKb.out F32.out F33.out)
  unfold JoinPost Rc.v at C40
  unfold rv at C40
  rw [JV.out] at C40
  dsimp only [Option.getD, Option.isSome] at C40
  go_wp2_with (first | ((with_reducible refine wpList_load_by (o := ⟨some 25, .load 43 (.tmp 3), _, _, _, _⟩) ?e1 43 (.tmp 3) ?e2 ⟨w.heap.size, 0, none⟩ ?e3 _ M38.out ?_); (case e1 => rfl); (case e2 => rfl); (case e3 => rfl)) | ((with_reducible refine wpList_load_by (o := ⟨some 26, .load 43 (.tmp 4), _, _, _, _⟩) ?e1 43 (.tmp 4) ?e2 ⟨(w.heap.size + 1), 0, none⟩ ?e3 _ M39.out ?_); (case e1 => rfl); (case e2 => rfl); (case e3 => rfl)))
  refine C40.out.mono ?_
  rintro e w41 ⟨A35, c36, rfl, hf37, hb42⟩
  have T43 := Lib.hid (T30.out.below hb42 T30.out.lt)
  have T44 := Lib.hid (T31.out.below hb42 T31.out.lt)
  have F45 := Lib.hid (F32.out.below hb42 (Nat.le_refl _))
  have F46 := Lib.hid (F33.out.below hb42 (Nat.le_refl _))
  have B47 := Lib.hid (B34.out.trans (hb42.mono B34.out.size))
  clear hb42
  have F48 := Lib.hid (hf37)
  clear hf37
  go_wp2_with (first | ((with_reducible refine wpList_store_new (o := ⟨none, .store 43 (.tmp 10) (.tmp 28), _, _, _, _⟩) (w := w41) ?e1 (.tmp 10) (.tmp 28) ?e2 w41.heap.size rfl ?e3 j.z j.n j.r (.slice A35 j.fs.length c36) ?e4 OKj.out.len ?e5 ?_); (case e1 => rfl); (case e2 => rfl); (case e3 => rfl); (case e4 => rfl); (case e5 => rfl); intro w49 hb50 hRs; have T51 := Lib.hid hRs; clear hRs; have T52 := Lib.hid (T43.out.below hb50 T43.out.lt); have T53 := Lib.hid (T44.out.below hb50 T44.out.lt); have F54 := Lib.hid (F45.out.below hb50 (Nat.le_refl _)); have F55 := Lib.hid (F46.out.below hb50 (Nat.le_refl _)); have F56 := Lib.hid (F48.out.below hb50 (Nat.le_refl _)); have B57 := Lib.hid (B47.out.trans (hb50.mono B47.out.size)); clear hb50; have M58 := Lib.hid (load_rec T52.out); unfold rv at M58; have C59 := Lib.hid (find_any' a A ca no w49 OKa.out F54.out); unfold FindPost Rc.v at C59; unfold rv at C59; rw [FX.out] at C59; dsimp only [Option.getD, Option.isSome, Cel.v, cel00] at C59) | ((with_reducible refine wpList_load_by (o := ⟨some 46, .load 43 (.tmp 3), _, _, _, _⟩) ?e1 43 (.tmp 3) ?e2 ⟨w.heap.size, 0, none⟩ ?e3 _ M58.out ?_); (case e1 => rfl); (case e2 => rfl); (case e3 => rfl)))
  refine C59.out.mono ?_
  rintro e w60 ⟨rfl, hb61⟩
  have T62 := Lib.hid (T52.out.below hb61 T52.out.lt)
  have T63 := Lib.hid (T53.out.below hb61 T53.out.lt)
  have T64 := Lib.hid (T51.out.below hb61 T51.out.lt)
  have F65 := Lib.hid (F54.out.below hb61 (Nat.le_refl _))
  have F66 := Lib.hid (F55.out.below hb61 (Nat.le_refl _))
  have F67 := Lib.hid (F56.out.below hb61 (Nat.le_refl _))
  have B68 := Lib.hid (B57.out.trans (hb61.mono B57.out.size))
  clear hb61
  have hb69 := (Below.refl w60.heap.size w60).alloc (Nat.le_refl _) (.cells #[.int .i64 0, .int .i64 0, .string ⟨#[]⟩] 25)
  have T70 := Lib.hid (ClAt.new w60 (⟨0, 0, ⟨#[]⟩⟩ : Cel))
  try dsimp only at T70
  have T71 := Lib.hid (T62.out.below hb69 T62.out.lt)
  have T72 := Lib.hid (T63.out.below hb69 T63.out.lt)
  have T73 := Lib.hid (T64.out.below hb69 T64.out.lt)
  have F74 := Lib.hid (F65.out.below hb69 (Nat.le_refl _))
  have F75 := Lib.hid (F66.out.below hb69 (Nat.le_refl _))
  have F76 := Lib.hid (F67.out.below hb69 (Nat.le_refl _))
  have B77 := Lib.hid (B68.out.trans (hb69.mono B68.out.size))
  clear hb69
  have M78 := Lib.hid (load_rec T72.out)
  unfold rv at M78
  have C79 := Lib.hid (find_any' b B cb no (w60.alloc (.cells #[.int .i64 0, .int .i64 0, .string ⟨#[]⟩] 25)) OKb.out F75.out)
  unfold FindPost Rc.v at C79
  unfold rv at C79
  rw [FY.out] at C79
  dsimp only [Option.getD, Option.isSome, Cel.v, cel00] at C79
  go_wp2_with (first | ((with_reducible refine wpList_load_by (o := ⟨some 52, .load 43 (.tmp 4), _, _, _, _⟩) ?e1 43 (.tmp 4) ?e2 ⟨(w.heap.size + 1), 0, none⟩ ?e3 _ M78.out ?_); (case e1 => rfl); (case e2 => rfl); (case e3 => rfl)))
  refine C79.out.mono ?_
  rintro e w80 ⟨rfl, hb81⟩
  have T82 := Lib.hid (T71.out.below hb81 T71.out.lt)
  have T83 := Lib.hid (T72.out.below hb81 T72.out.lt)
  have T84 := Lib.hid (T73.out.below hb81 T73.out.lt)
  have T85 := Lib.hid (T70.out.below hb81 T70.out.lt)
  have F86 := Lib.hid (F74.out.below hb81 (Nat.le_refl _))
  have F87 := Lib.hid (F75.out.below hb81 (Nat.le_refl _))
  have F88 := Lib.hid (F76.out.below hb81 (Nat.le_refl _))
  have B89 := Lib.hid (B77.out.trans (hb81.mono B77.out.size))
  clear hb81
  have hb90 := (Below.refl w80.heap.size w80).alloc (Nat.le_refl _) (.cells #[.int .i64 y.n, .int .i64 y.r, .string y.s] 25)
  have T91 := Lib.hid (ClAt.new w80 y)
  try dsimp only at T91
  have T92 := Lib.hid (T82.out.below hb90 T82.out.lt)
  have T93 := Lib.hid (T83.out.below hb90 T83.out.lt)
  have T94 := Lib.hid (T84.out.below hb90 T84.out.lt)
  have T95 := Lib.hid (T85.out.below hb90 T85.out.lt)
  have F96 := Lib.hid (F86.out.below hb90 (Nat.le_refl _))
  have F97 := Lib.hid (F87.out.below hb90 (Nat.le_refl _))
  have F98 := Lib.hid (F88.out.below hb90 (Nat.le_refl _))
  have B99 := Lib.hid (B89.out.trans (hb90.mono B89.out.size))
  clear hb90
  have M100 := Lib.hid (load_rec T94.out)
  unfold rv at M100
  have C101 := Lib.hid (find_any' j A35 c36 no (w80.alloc (.cells #[.int .i64 y.n, .int .i64 y.r, .string y.s] 25)) OKj.out F98.out)
  unfold FindPost Rc.v at C101
  unfold rv at C101
  rw [FZ.out] at C101
  dsimp only [Option.getD, Option.isSome, Cel.v, cel00] at C101
  go_wp2_with (first | ((with_reducible refine wpList_load_by (o := ⟨some 58, .load 43 (.tmp 10), _, _, _, _⟩) ?e1 43 (.tmp 10) ?e2 ⟨w41.heap.size, 0, none⟩ ?e3 _ M100.out ?_); (case e1 => rfl); (case e2 => rfl); (case e3 => rfl)))
  refine C101.out.mono ?_
  rintro e w102 ⟨rfl, hb103⟩
  have T104 := Lib.hid (T92.out.below hb103 T92.out.lt)
  have T105 := Lib.hid (T93.out.below hb103 T93.out.lt)
  have T106 := Lib.hid (T94.out.below hb103 T94.out.lt)
  have T107 := Lib.hid (T95.out.below hb103 T95.out.lt)
  have T108 := Lib.hid (T91.out.below hb103 T91.out.lt)
  have F109 := Lib.hid (F96.out.below hb103 (Nat.le_refl _))
  have F110 := Lib.hid (F97.out.below hb103 (Nat.le_refl _))
  have F111 := Lib.hid (F98.out.below hb103 (Nat.le_refl _))
  have B112 := Lib.hid (B99.out.trans (hb103.mono B99.out.size))
  clear hb103
  have hb113 := (Below.refl w102.heap.size w102).alloc (Nat.le_refl _) (.cells #[.int .i64 y.n, .int .i64 y.r, .string y.s] 25)
  have T114 := Lib.hid (ClAt.new w102 y)
  try dsimp only at T114
  have T115 := Lib.hid (T104.out.below hb113 T104.out.lt)
  have T116 := Lib.hid (T105.out.below hb113 T105.out.lt)
  have T117 := Lib.hid (T106.out.below hb113 T106.out.lt)
  have T118 := Lib.hid (T107.out.below hb113 T107.out.lt)
  have T119 := Lib.hid (T108.out.below hb113 T108.out.lt)
  have F120 := Lib.hid (F109.out.below hb113 (Nat.le_refl _))
  have F121 := Lib.hid (F110.out.below hb113 (Nat.le_refl _))
  have F122 := Lib.hid (F111.out.below hb113 (Nat.le_refl _))
  have B123 := Lib.hid (B112.out.trans (hb113.mono B112.out.size))
  clear hb113
  
  have k120 := T118.out.c0
  have k121 := T118.out.c1
  have k122 := T118.out.c2
  have k140 := T119.out.c0
  have k141 := T119.out.c1
  have k142 := T119.out.c2
  have k160 := T114.out.c0
  have k161 := T114.out.c1
  have k162 := T114.out.c2
  have hs := cl_same y
  have C124 := Lib.hid (cless_any y y (w102.alloc (.cells #[.int .i64 y.n, .int .i64 y.r, .string y.s] 25)) (HLA.out _ B123.out) SZy.out SZy.out)
  unfold Cel.v at C124
  rw [Lyy.out] at C124
  go_wp2_with fail
  refine C124.out.mono ?_
  rintro e w125 ⟨rfl, hb126⟩
  have T127 := Lib.hid (T115.out.below hb126 T115.out.lt)
  have T128 := Lib.hid (T116.out.below hb126 T116.out.lt)
  have T129 := Lib.hid (T117.out.below hb126 T117.out.lt)
  have T130 := Lib.hid (T118.out.below hb126 T118.out.lt)
  have T131 := Lib.hid (T119.out.below hb126 T119.out.lt)
  have T132 := Lib.hid (T114.out.below hb126 T114.out.lt)
  have F133 := Lib.hid (F120.out.below hb126 (Nat.le_refl _))
  have F134 := Lib.hid (F121.out.below hb126 (Nat.le_refl _))
  have F135 := Lib.hid (F122.out.below hb126 (Nat.le_refl _))
  have B136 := Lib.hid (B123.out.trans (hb126.mono B123.out.size))
  clear hb126
  clear k120 k121 k122 k140 k141 k142 k160 k161 k162 hs
  have k120 := T130.out.c0
  have k121 := T130.out.c1
  have k122 := T130.out.c2
  have k140 := T131.out.c0
  have k141 := T131.out.c1
  have k142 := T131.out.c2
  have k160 := T132.out.c0
  have k161 := T132.out.c1
  have k162 := T132.out.c2
  clear k120 k121 k122 k140 k141 k142 k160 k161 k162
  have d6 := T129.out.c16
  have d7 := T129.out.c17
  have k120 := T130.out.c0
  have k121 := T130.out.c1
  have k122 := T130.out.c2
  have k140 := T131.out.c0
  have k141 := T131.out.c1
  have k142 := T131.out.c2
  have C137 := Lib.hid (stLess_any j.n j.r y.n y.r w125)
  unfold st at C137
  rw [Sy.out] at C137
  go_wp2_with fail
  refine C137.out.mono ?_
  rintro e w138 ⟨rfl, hb139⟩
  have T140 := Lib.hid (T127.out.below hb139 T127.out.lt)
  have T141 := Lib.hid (T128.out.below hb139 T128.out.lt)
  have T142 := Lib.hid (T129.out.below hb139 T129.out.lt)
  have T143 := Lib.hid (T130.out.below hb139 T130.out.lt)
  have T144 := Lib.hid (T131.out.below hb139 T131.out.lt)
  have T145 := Lib.hid (T132.out.below hb139 T132.out.lt)
  have F146 := Lib.hid (F133.out.below hb139 (Nat.le_refl _))
  have F147 := Lib.hid (F134.out.below hb139 (Nat.le_refl _))
  have F148 := Lib.hid (F135.out.below hb139 (Nat.le_refl _))
  have B149 := Lib.hid (B136.out.trans (hb139.mono B136.out.size))
  clear hb139
  clear d6 d7 k120 k121 k122 k140 k141 k142
  have U150 := Lib.hid (fun (w9 : World) => max_any (a.n, a.r) (b.n, b.r) w9)
  rw [MXJ.out] at U150
  unfold st at U150
  dsimp only at U150
  go_wp2_with fail
  refine wp_region_G w138 (by kernel_rfl) ?_
  refine wpG_take (i := 0) (oi := ⟨some 118, _, _, _, _, _⟩) (v := ?_) rfl (by kernel_rfl) (by kernel_rfl) (by kernel_rfl) (Or.inl ⟨by rfl, unib_val ?_⟩) ?_; rotate_left; (focus (intro w9 hSw; go_simp; try with_reducible rfl)); simp only [Act.put, List.setIfInBounds_toArray, List.set_cons_zero, List.set_cons_succ]
  refine wpG_take (i := 1) (oi := ⟨some 119, _, _, _, _, _⟩) (v := ?_) rfl (by kernel_rfl) (by kernel_rfl) (by kernel_rfl) (Or.inl ⟨by rfl, unib_val ?_⟩) ?_; rotate_left; (focus (intro w9 hSw; go_simp; try with_reducible rfl)); simp only [Act.put, List.setIfInBounds_toArray, List.set_cons_zero, List.set_cons_succ]
  refine wpG_take (i := 2) (oi := ⟨some 120, _, _, _, _, _⟩) (v := ?_) rfl (by kernel_rfl) (by kernel_rfl) (by kernel_rfl) (Or.inl ⟨by rfl, unib_val ?_⟩) ?_; rotate_left; (focus (intro w9 hSw; go_simp; try with_reducible rfl)); simp only [Act.put, List.setIfInBounds_toArray, List.set_cons_zero, List.set_cons_succ]
  refine wpG_take (i := 3) (oi := ⟨some 121, _, _, _, _, _⟩) (v := ?_) rfl (by kernel_rfl) (by kernel_rfl) (by kernel_rfl) (Or.inl ⟨by rfl, unib_val ?_⟩) ?_; rotate_left; (focus (intro w9 hSw; go_simp; try with_reducible rfl)); simp only [Act.put, List.setIfInBounds_toArray, List.set_cons_zero, List.set_cons_succ]
  refine wpG_take (i := 4) (oi := ⟨some 122, _, _, _, _, _⟩) (v := ?_) rfl (by kernel_rfl) (by kernel_rfl) (by kernel_rfl) (Or.inl ⟨by rfl, unib_val ?_⟩) ?_; rotate_left; (focus (intro w9 hSw; go_simp; try with_reducible rfl)); simp only [Act.put, List.setIfInBounds_toArray, List.set_cons_zero, List.set_cons_succ]
  refine wpG_take (i := 5) (oi := ⟨some 123, _, _, _, _, _⟩) (v := ?_) rfl (by kernel_rfl) (by kernel_rfl) (by kernel_rfl) (Or.inl ⟨by rfl, unib_val ?_⟩) ?_; rotate_left; (focus (intro w9 hSw; have q9 := T142.out.below hSw T142.out.lt; have q0 := q9.c16; have q1 := q9.c17; go_simp; try with_reducible rfl)); simp only [Act.put, List.setIfInBounds_toArray, List.set_cons_zero, List.set_cons_succ]
  refine wpG_take (i := 6) (oi := ⟨some 124, _, _, _, _, _⟩) (v := ?_) rfl (by kernel_rfl) (by kernel_rfl) (by kernel_rfl) (Or.inl ⟨by rfl, unib_val ?_⟩) ?_; rotate_left; (focus (intro w9 hSw; go_simp; try with_reducible rfl)); simp only [Act.put, List.setIfInBounds_toArray, List.set_cons_zero, List.set_cons_succ]
  refine wpG_take (i := 7) (oi := ⟨some 125, _, _, _, _, _⟩) (v := ?_) rfl (by kernel_rfl) (by kernel_rfl) (by kernel_rfl) (Or.inl ⟨by rfl, unib_val ?_⟩) ?_; rotate_left; (focus (intro w9 hSw; have q9 := T140.out.below hSw T140.out.lt; have q0 := q9.c16; have q1 := q9.c17; go_simp; try with_reducible rfl)); simp only [Act.put, List.setIfInBounds_toArray, List.set_cons_zero, List.set_cons_succ]
  refine wpG_take (i := 8) (oi := ⟨some 126, _, _, _, _, _⟩) (v := ?_) rfl (by kernel_rfl) (by kernel_rfl) (by kernel_rfl) (Or.inl ⟨by rfl, unib_val ?_⟩) ?_; rotate_left; (focus (intro w9 hSw; go_simp; try with_reducible rfl)); simp only [Act.put, List.setIfInBounds_toArray, List.set_cons_zero, List.set_cons_succ]
  refine wpG_take (i := 9) (oi := ⟨some 127, _, _, _, _, _⟩) (v := ?_) rfl (by kernel_rfl) (by kernel_rfl) (by kernel_rfl) (Or.inl ⟨by rfl, unib_val ?_⟩) ?_; rotate_left; (focus (intro w9 hSw; have q9 := T141.out.below hSw T141.out.lt; have q0 := q9.c16; have q1 := q9.c17; go_simp; try with_reducible rfl)); simp only [Act.put, List.setIfInBounds_toArray, List.set_cons_zero, List.set_cons_succ]
  refine wpG_take (i := 10) (oi := ⟨some 128, _, _, _, _, _⟩) rfl (by kernel_rfl) (by kernel_rfl) (by kernel_rfl) (Or.inl ⟨by rfl, unib_call ?_ U150.out⟩) ?_; (focus (intro w9 hSw; go_simp; try with_reducible rfl)); simp only [Act.put, List.setIfInBounds_toArray, List.set_cons_zero, List.set_cons_succ]
  refine wpG_take (i := 11) (oi := ⟨some 129, _, _, _, _, _⟩) (v := ?_) rfl (by kernel_rfl) (by kernel_rfl) (by kernel_rfl) (Or.inl ⟨by rfl, unib_val ?_⟩) ?_; rotate_left; (focus (intro w9 hSw; go_simp; try with_reducible rfl)); simp only [Act.put, List.setIfInBounds_toArray, List.set_cons_zero, List.set_cons_succ]
  refine wpG_take (i := 12) (oi := ⟨some 130, _, _, _, _, _⟩) (v := ?_) rfl (by kernel_rfl) (by kernel_rfl) (by kernel_rfl) (Or.inl ⟨by rfl, unib_val ?_⟩) ?_; rotate_left; (focus (intro w9 hSw; go_simp; try with_reducible rfl)); simp only [Act.put, List.setIfInBounds_toArray, List.set_cons_zero, List.set_cons_succ]
  refine wpG_take (i := 13) (oi := ⟨some 131, _, _, _, _, _⟩) (v := ?_) rfl (by kernel_rfl) (by kernel_rfl) (by kernel_rfl) (Or.inl ⟨by rfl, unib_val ?_⟩) ?_; rotate_left; (focus (intro w9 hSw; go_simp; try with_reducible rfl)); simp only [Act.put, List.setIfInBounds_toArray, List.set_cons_zero, List.set_cons_succ]
  refine wpG_take (i := 14) (oi := ⟨some 132, _, _, _, _, _⟩) (v := ?_) rfl (by kernel_rfl) (by kernel_rfl) (by kernel_rfl) (Or.inl ⟨by rfl, unib_val ?_⟩) ?_; rotate_left; (focus (intro w9 hSw; go_simp; try with_reducible rfl)); simp only [Act.put, List.setIfInBounds_toArray, List.set_cons_zero, List.set_cons_succ]
  refine wpG_take (i := 15) (oi := ⟨some 133, _, _, _, _, _⟩) (v := (.agg (bvals j.z))) rfl (by kernel_rfl) (by kernel_rfl) (by kernel_rfl) (Or.inl ⟨by rfl, unib_val ?_⟩) ?_; (focus (intro w9 hSw; exact exec_load_by 40 _ rfl ⟨w41.heap.size, 0, none⟩ rfl (load_id (T142.out.below hSw T142.out.lt)))); simp only [Act.put, List.setIfInBounds_toArray, List.set_cons_zero, List.set_cons_succ]
  refine wpG_take (i := 16) (oi := ⟨some 134, _, _, _, _, _⟩) (v := ?_) rfl (by kernel_rfl) (by kernel_rfl) (by kernel_rfl) (Or.inl ⟨by rfl, unib_val ?_⟩) ?_; rotate_left; (focus (intro w9 hSw; go_simp; try with_reducible rfl)); simp only [Act.put, List.setIfInBounds_toArray, List.set_cons_zero, List.set_cons_succ]
  refine wpG_take (i := 17) (oi := ⟨some 135, _, _, _, _, _⟩) (v := (.agg (bvals a.z))) rfl (by kernel_rfl) (by kernel_rfl) (by kernel_rfl) (Or.inl ⟨by rfl, unib_val ?_⟩) ?_; (focus (intro w9 hSw; exact exec_load_by 40 _ rfl ⟨w.heap.size, 0, none⟩ rfl (load_id (T140.out.below hSw T140.out.lt)))); simp only [Act.put, List.setIfInBounds_toArray, List.set_cons_zero, List.set_cons_succ]
  refine wpG_take (i := 18) (oi := ⟨some 136, _, _, _, _, _⟩) (v := ?_) rfl (by kernel_rfl) (by kernel_rfl) (by kernel_rfl) (Or.inl ⟨by rfl, unib_val ?_⟩) ?_; rotate_left; (focus (intro w9 hSw; have q0 := HE.out w9; go_simp; try with_reducible rfl)); simp only [Act.put, List.setIfInBounds_toArray, List.set_cons_zero, List.set_cons_succ]
  refine wpG_take (i := 19) (oi := ⟨some 137, _, _, _, _, _⟩) (v := ?_) rfl (by kernel_rfl) (by kernel_rfl) (by kernel_rfl) (Or.inl ⟨by rfl, unib_val ?_⟩) ?_; rotate_left; (focus (intro w9 hSw; go_simp; try with_reducible rfl)); simp only [Act.put, List.setIfInBounds_toArray, List.set_cons_zero, List.set_cons_succ]
  refine wpG_take (i := 20) (oi := ⟨some 6, _, _, _, _, _⟩) (v := ?_) rfl (by kernel_rfl) (by kernel_rfl) (by kernel_rfl) (Or.inl ⟨by rfl, unib_val ?_⟩) ?_; rotate_left; (focus (intro w9 hSw; go_simp; try with_reducible rfl)); simp only [Act.put, List.setIfInBounds_toArray, List.set_cons_zero, List.set_cons_succ]
  refine wpG_done (by kernel_rfl) ?_ _
  intro w9 hSw _
  go_wp2
  go_ret
  exact ⟨rfl, B149.out.trans (hSw.mono B149.out.size)⟩
set_option maxHeartbeats 16000000 in
theorem cells_x111 (a : Rc) (A : Option Addr) (ca : Nat) (b : Rc) (B : Option Addr) (cb : Nat) (no : Int) (w : World) (hlaid : Laid w) (wa : IsRec w a A ca) (wb : IsRec w b B cb) (pa : fewR a.fs = true) (pb : fewR b.fs = true) (j : Rc) (jv : a.join b = some j) (mxj : mx (a.n, a.r) (b.n, b.r) = (j.n, j.r)) (jz : j.z = a.z) (x : Cel) (y : Cel) (fx : rfind a.fs no = some x) (fy : rfind b.fs no = some y) (fz : rfind j.fs no = some x) (zx : x.s.size ≤ 300) (zy : y.s.size ≤ 300) (lx : cless x x = false) (ly : cless x y = false) (sx : stLess j.n j.r x.n x.r = true) :
    Calls Tryd.prog 9 #[a.v A ca, b.v B cb, .int .i64 no] w fun e w' => e = .returned (.bool true) ∧ Below w.heap.size w w' := by
  have HLA := Lib.hid (fun (X : World) (hX : Below w.heap.size w X) => hlaid.below hX (Nat.le_refl _))
  have OKa := Lib.hid wa.1
  have OKb := Lib.hid wb.1
  have Fa := Lib.hid wa.2.1
  have Fb := Lib.hid wb.2.1
  have hz := zeroRec
  unfold rv at hz
  conv => congr; rfl; rfl; (unfold Rc.v rv)
  have PA := Lib.hid pa
  have PB := Lib.hid pb
  have JV := Lib.hid jv
  have MXJ := Lib.hid mxj
  have OKj := Lib.hid (Rc.join_ok wa.1 jv)
  have HE := Lib.hid (show ∀ w9 : World, (Op.equalIn 10000 40 (.agg (bvals j.z)) (.agg (bvals a.z))).run Tryd.prog w9 = .ok true w9 from fun w9 => by
    have := eq_id (Rc.join_ok wa.1 jv).2 wa.1.2 (Rc.join_ok wa.1 jv).1 wa.1.1 w9
    rwa [show (j.z == a.z) = true by rw [beq_iff_eq]; exact jz] at this)
  clear hlaid wa wb pa pb jv mxj jz
  have FX := Lib.hid fx
  have FY := Lib.hid fy
  have FZ := Lib.hid fz
  have SZx := Lib.hid zx
  have SZy := Lib.hid zy
  have Lxx := Lib.hid lx
  have Lxy := Lib.hid ly
  have Sx := Lib.hid sx
  clear fx fy fz zx zy lx ly sx
  have B1 := Lib.hid (Below.refl w.heap.size w)
  have T2n := RcAt.new w OKa.out.len a.n a.r (.slice A a.fs.length ca)
  have T2 := Lib.hid (T2n)
  clear T2n
  have B3 := Lib.hid (B1.out.alloc B1.out.size (.cells (rcells a.z a.n a.r (.slice A a.fs.length ca)) 43))
  have T4 := Lib.hid (T2.out.old (.cells (rcells b.z b.n b.r (.slice B b.fs.length cb)) 43))
  have T5n := RcAt.new (w.alloc (.cells (rcells a.z a.n a.r (.slice A a.fs.length ca)) 43)) OKb.out.len b.n b.r (.slice B b.fs.length cb)
  simp only [World.size_alloc] at T5n
  have T5 := Lib.hid (T5n)
  clear T5n
  have B6 := Lib.hid (B3.out.alloc B3.out.size (.cells (rcells b.z b.n b.r (.slice B b.fs.length cb)) 43))
  have F7 := Lib.hid (Fa.out.below B6.out (Nat.le_refl _))
  have F8 := Lib.hid (Fb.out.below B6.out (Nat.le_refl _))
  go_enter Tryd.func9, Tryd.ntmps9
  have C9 := Lib.hid (rcAwake ((w.alloc (.cells (rcells a.z a.n a.r (.slice A a.fs.length ca)) 43)).alloc (.cells (rcells b.z b.n b.r (.slice B b.fs.length cb)) 43)) (HLA.out _ B6.out))
  go_wp2_with fail
  refine C9.out.mono ?_
  rintro e w10 ⟨rfl, hb11⟩
  have T12 := Lib.hid (T4.out.below hb11 T4.out.lt)
  have T13 := Lib.hid (T5.out.below hb11 T5.out.lt)
  have F14 := Lib.hid (F7.out.below hb11 (Nat.le_refl _))
  have F15 := Lib.hid (F8.out.below hb11 (Nat.le_refl _))
  have B16 := Lib.hid (B6.out.trans (hb11.mono B6.out.size))
  clear hb11
  have M17 := Lib.hid (load_rec T12.out)
  unfold rv at M17
  have C18 := Lib.hid (fewR_any a A ca w10 OKa.out F14.out)
  unfold Rc.v at C18
  unfold rv at C18
  rw [PA.out] at C18
  go_wp2_with (first | ((with_reducible refine wpList_load_by (o := ⟨some 20, .load 43 (.tmp 3), _, _, _, _⟩) ?e1 43 (.tmp 3) ?e2 ⟨w.heap.size, 0, none⟩ ?e3 _ M17.out ?_); (case e1 => rfl); (case e2 => rfl); (case e3 => rfl)))
  refine C18.out.mono ?_
  rintro e w19 ⟨rfl, hb20⟩
  have T21 := Lib.hid (T12.out.below hb20 T12.out.lt)
  have T22 := Lib.hid (T13.out.below hb20 T13.out.lt)
  have F23 := Lib.hid (F14.out.below hb20 (Nat.le_refl _))
  have F24 := Lib.hid (F15.out.below hb20 (Nat.le_refl _))
  have B25 := Lib.hid (B16.out.trans (hb20.mono B16.out.size))
  clear hb20
  have M26 := Lib.hid (load_rec T22.out)
  unfold rv at M26
  have C27 := Lib.hid (fewR_any b B cb w19 OKb.out F24.out)
  unfold Rc.v at C27
  unfold rv at C27
  rw [PB.out] at C27
  go_wp2_with (first | ((with_reducible refine wpList_load_by (o := ⟨some 22, .load 43 (.tmp 4), _, _, _, _⟩) ?e1 43 (.tmp 4) ?e2 ⟨(w.heap.size + 1), 0, none⟩ ?e3 _ M26.out ?_); (case e1 => rfl); (case e2 => rfl); (case e3 => rfl)))
  refine C27.out.mono ?_
  rintro e w28 ⟨rfl, hb29⟩
  have T30 := Lib.hid (T21.out.below hb29 T21.out.lt)
  have T31 := Lib.hid (T22.out.below hb29 T22.out.lt)
  have F32 := Lib.hid (F23.out.below hb29 (Nat.le_refl _))
  have F33 := Lib.hid (F24.out.below hb29 (Nat.le_refl _))
  have B34 := Lib.hid (B25.out.trans (hb29.mono B25.out.size))
  clear hb29
  have M38 := Lib.hid (load_rec T30.out)
  unfold rv at M38
  have M39 := Lib.hid (load_rec T31.out)
  unfold rv at M39
  have C40 := Lib.hid (join_any a b A B ca cb w28 (HLA.out _ B34.out) OKa.out OKb.out F32.out F33.out)
  unfold JoinPost Rc.v at C40
  unfold rv at C40
  rw [JV.out] at C40
  dsimp only [Option.getD, Option.isSome] at C40
  go_wp2_with (first | ((with_reducible refine wpList_load_by (o := ⟨some 25, .load 43 (.tmp 3), _, _, _, _⟩) ?e1 43 (.tmp 3) ?e2 ⟨w.heap.size, 0, none⟩ ?e3 _ M38.out ?_); (case e1 => rfl); (case e2 => rfl); (case e3 => rfl)) | ((with_reducible refine wpList_load_by (o := ⟨some 26, .load 43 (.tmp 4), _, _, _, _⟩) ?e1 43 (.tmp 4) ?e2 ⟨(w.heap.size + 1), 0, none⟩ ?e3 _ M39.out ?_); (case e1 => rfl); (case e2 => rfl); (case e3 => rfl)))
  refine C40.out.mono ?_
  rintro e w41 ⟨A35, c36, rfl, hf37, hb42⟩
  have T43 := Lib.hid (T30.out.below hb42 T30.out.lt)
  have T44 := Lib.hid (T31.out.below hb42 T31.out.lt)
  have F45 := Lib.hid (F32.out.below hb42 (Nat.le_refl _))
  have F46 := Lib.hid (F33.out.below hb42 (Nat.le_refl _))
  have B47 := Lib.hid (B34.out.trans (hb42.mono B34.out.size))
  clear hb42
  have F48 := Lib.hid (hf37)
  clear hf37
  go_wp2_with (first | ((with_reducible refine wpList_store_new (o := ⟨none, .store 43 (.tmp 10) (.tmp 28), _, _, _, _⟩) (w := w41) ?e1 (.tmp 10) (.tmp 28) ?e2 w41.heap.size rfl ?e3 j.z j.n j.r (.slice A35 j.fs.length c36) ?e4 OKj.out.len ?e5 ?_); (case e1 => rfl); (case e2 => rfl); (case e3 => rfl); (case e4 => rfl); (case e5 => rfl); intro w49 hb50 hRs; have T51 := Lib.hid hRs; clear hRs; have T52 := Lib.hid (T43.out.below hb50 T43.out.lt); have T53 := Lib.hid (T44.out.below hb50 T44.out.lt); have F54 := Lib.hid (F45.out.below hb50 (Nat.le_refl _)); have F55 := Lib.hid (F46.out.below hb50 (Nat.le_refl _)); have F56 := Lib.hid (F48.out.below hb50 (Nat.le_refl _)); have B57 := Lib.hid (B47.out.trans (hb50.mono B47.out.size)); clear hb50; have M58 := Lib.hid (load_rec T52.out); unfold rv at M58; have C59 := Lib.hid (find_any' a A ca no w49 OKa.out F54.out); unfold FindPost Rc.v at C59; unfold rv at C59; rw [FX.out] at C59; dsimp only [Option.getD, Option.isSome, Cel.v, cel00] at C59) | ((with_reducible refine wpList_load_by (o := ⟨some 46, .load 43 (.tmp 3), _, _, _, _⟩) ?e1 43 (.tmp 3) ?e2 ⟨w.heap.size, 0, none⟩ ?e3 _ M58.out ?_); (case e1 => rfl); (case e2 => rfl); (case e3 => rfl)))
  refine C59.out.mono ?_
  rintro e w60 ⟨rfl, hb61⟩
  have T62 := Lib.hid (T52.out.below hb61 T52.out.lt)
  have T63 := Lib.hid (T53.out.below hb61 T53.out.lt)
  have T64 := Lib.hid (T51.out.below hb61 T51.out.lt)
  have F65 := Lib.hid (F54.out.below hb61 (Nat.le_refl _))
  have F66 := Lib.hid (F55.out.below hb61 (Nat.le_refl _))
  have F67 := Lib.hid (F56.out.below hb61 (Nat.le_refl _))
  have B68 := Lib.hid (B57.out.trans (hb61.mono B57.out.size))
  clear hb61
  have hb69 := (Below.refl w60.heap.size w60).alloc (Nat.le_refl _) (.cells #[.int .i64 x.n, .int .i64 x.r, .string x.s] 25)
  have T70 := Lib.hid (ClAt.new w60 x)
  try dsimp only at T70
  have T71 := Lib.hid (T62.out.below hb69 T62.out.lt)
  have T72 := Lib.hid (T63.out.below hb69 T63.out.lt)
  have T73 := Lib.hid (T64.out.below hb69 T64.out.lt)
  have F74 := Lib.hid (F65.out.below hb69 (Nat.le_refl _))
  have F75 := Lib.hid (F66.out.below hb69 (Nat.le_refl _))
  have F76 := Lib.hid (F67.out.below hb69 (Nat.le_refl _))
  have B77 := Lib.hid (B68.out.trans (hb69.mono B68.out.size))
  clear hb69
  have M78 := Lib.hid (load_rec T72.out)
  unfold rv at M78
  have C79 := Lib.hid (find_any' b B cb no (w60.alloc (.cells #[.int .i64 x.n, .int .i64 x.r, .string x.s] 25)) OKb.out F75.out)
  unfold FindPost Rc.v at C79
  unfold rv at C79
  rw [FY.out] at C79
  dsimp only [Option.getD, Option.isSome, Cel.v, cel00] at C79
  go_wp2_with (first | ((with_reducible refine wpList_load_by (o := ⟨some 52, .load 43 (.tmp 4), _, _, _, _⟩) ?e1 43 (.tmp 4) ?e2 ⟨(w.heap.size + 1), 0, none⟩ ?e3 _ M78.out ?_); (case e1 => rfl); (case e2 => rfl); (case e3 => rfl)))
  refine C79.out.mono ?_
  rintro e w80 ⟨rfl, hb81⟩
  have T82 := Lib.hid (T71.out.below hb81 T71.out.lt)
  have T83 := Lib.hid (T72.out.below hb81 T72.out.lt)
  have T84 := Lib.hid (T73.out.below hb81 T73.out.lt)
  have T85 := Lib.hid (T70.out.below hb81 T70.out.lt)
  have F86 := Lib.hid (F74.out.below hb81 (Nat.le_refl _))
  have F87 := Lib.hid (F75.out.below hb81 (Nat.le_refl _))
  have F88 := Lib.hid (F76.out.below hb81 (Nat.le_refl _))
  have B89 := Lib.hid (B77.out.trans (hb81.mono B77.out.size))
  clear hb81
  have hb90 := (Below.refl w80.heap.size w80).alloc (Nat.le_refl _) (.cells #[.int .i64 y.n, .int .i64 y.r, .string y.s] 25)
  have T91 := Lib.hid (ClAt.new w80 y)
  try dsimp only at T91
  have T92 := Lib.hid (T82.out.below hb90 T82.out.lt)
  have T93 := Lib.hid (T83.out.below hb90 T83.out.lt)
  have T94 := Lib.hid (T84.out.below hb90 T84.out.lt)
  have T95 := Lib.hid (T85.out.below hb90 T85.out.lt)
  have F96 := Lib.hid (F86.out.below hb90 (Nat.le_refl _))
  have F97 := Lib.hid (F87.out.below hb90 (Nat.le_refl _))
  have F98 := Lib.hid (F88.out.below hb90 (Nat.le_refl _))
  have B99 := Lib.hid (B89.out.trans (hb90.mono B89.out.size))
  clear hb90
  have M100 := Lib.hid (load_rec T94.out)
  unfold rv at M100
  have C101 := Lib.hid (find_any' j A35 c36 no (w80.alloc (.cells #[.int .i64 y.n, .int .i64 y.r, .string y.s] 25)) OKj.out F98.out)
  unfold FindPost Rc.v at C101
  unfold rv at C101
  rw [FZ.out] at C101
  dsimp only [Option.getD, Option.isSome, Cel.v, cel00] at C101
  go_wp2_with (first | ((with_reducible refine wpList_load_by (o := ⟨some 58, .load 43 (.tmp 10), _, _, _, _⟩) ?e1 43 (.tmp 10) ?e2 ⟨w41.heap.size, 0, none⟩ ?e3 _ M100.out ?_); (case e1 => rfl); (case e2 => rfl); (case e3 => rfl)))
  refine C101.out.mono ?_
  rintro e w102 ⟨rfl, hb103⟩
  have T104 := Lib.hid (T92.out.below hb103 T92.out.lt)
  have T105 := Lib.hid (T93.out.below hb103 T93.out.lt)
  have T106 := Lib.hid (T94.out.below hb103 T94.out.lt)
  have T107 := Lib.hid (T95.out.below hb103 T95.out.lt)
  have T108 := Lib.hid (T91.out.below hb103 T91.out.lt)
  have F109 := Lib.hid (F96.out.below hb103 (Nat.le_refl _))
  have F110 := Lib.hid (F97.out.below hb103 (Nat.le_refl _))
  have F111 := Lib.hid (F98.out.below hb103 (Nat.le_refl _))
  have B112 := Lib.hid (B99.out.trans (hb103.mono B99.out.size))
  clear hb103
  have hb113 := (Below.refl w102.heap.size w102).alloc (Nat.le_refl _) (.cells #[.int .i64 x.n, .int .i64 x.r, .string x.s] 25)
  have T114 := Lib.hid (ClAt.new w102 x)
  try dsimp only at T114
  have T115 := Lib.hid (T104.out.below hb113 T104.out.lt)
  have T116 := Lib.hid (T105.out.below hb113 T105.out.lt)
  have T117 := Lib.hid (T106.out.below hb113 T106.out.lt)
  have T118 := Lib.hid (T107.out.below hb113 T107.out.lt)
  have T119 := Lib.hid (T108.out.below hb113 T108.out.lt)
  have F120 := Lib.hid (F109.out.below hb113 (Nat.le_refl _))
  have F121 := Lib.hid (F110.out.below hb113 (Nat.le_refl _))
  have F122 := Lib.hid (F111.out.below hb113 (Nat.le_refl _))
  have B123 := Lib.hid (B112.out.trans (hb113.mono B112.out.size))
  clear hb113
  
  have k120 := T118.out.c0
  have k121 := T118.out.c1
  have k122 := T118.out.c2
  have k140 := T119.out.c0
  have k141 := T119.out.c1
  have k142 := T119.out.c2
  have k160 := T114.out.c0
  have k161 := T114.out.c1
  have k162 := T114.out.c2
  have hs := cl_same x
  have C124 := Lib.hid (cless_any x x (w102.alloc (.cells #[.int .i64 x.n, .int .i64 x.r, .string x.s] 25)) (HLA.out _ B123.out) SZx.out SZx.out)
  unfold Cel.v at C124
  rw [Lxx.out] at C124
  go_wp2_with fail
  refine C124.out.mono ?_
  rintro e w125 ⟨rfl, hb126⟩
  have T127 := Lib.hid (T115.out.below hb126 T115.out.lt)
  have T128 := Lib.hid (T116.out.below hb126 T116.out.lt)
  have T129 := Lib.hid (T117.out.below hb126 T117.out.lt)
  have T130 := Lib.hid (T118.out.below hb126 T118.out.lt)
  have T131 := Lib.hid (T119.out.below hb126 T119.out.lt)
  have T132 := Lib.hid (T114.out.below hb126 T114.out.lt)
  have F133 := Lib.hid (F120.out.below hb126 (Nat.le_refl _))
  have F134 := Lib.hid (F121.out.below hb126 (Nat.le_refl _))
  have F135 := Lib.hid (F122.out.below hb126 (Nat.le_refl _))
  have B136 := Lib.hid (B123.out.trans (hb126.mono B123.out.size))
  clear hb126
  clear k120 k121 k122 k140 k141 k142 k160 k161 k162 hs
  have k120 := T130.out.c0
  have k121 := T130.out.c1
  have k122 := T130.out.c2
  have k140 := T131.out.c0
  have k141 := T131.out.c1
  have k142 := T131.out.c2
  have k160 := T132.out.c0
  have k161 := T132.out.c1
  have k162 := T132.out.c2
  have C137 := Lib.hid (cless_any x y w125 (HLA.out _ B136.out) SZx.out SZy.out)
  unfold Cel.v at C137
  rw [Lxy.out] at C137
  go_wp2_with fail
  refine C137.out.mono ?_
  rintro e w138 ⟨rfl, hb139⟩
  have T140 := Lib.hid (T127.out.below hb139 T127.out.lt)
  have T141 := Lib.hid (T128.out.below hb139 T128.out.lt)
  have T142 := Lib.hid (T129.out.below hb139 T129.out.lt)
  have T143 := Lib.hid (T130.out.below hb139 T130.out.lt)
  have T144 := Lib.hid (T131.out.below hb139 T131.out.lt)
  have T145 := Lib.hid (T132.out.below hb139 T132.out.lt)
  have F146 := Lib.hid (F133.out.below hb139 (Nat.le_refl _))
  have F147 := Lib.hid (F134.out.below hb139 (Nat.le_refl _))
  have F148 := Lib.hid (F135.out.below hb139 (Nat.le_refl _))
  have B149 := Lib.hid (B136.out.trans (hb139.mono B136.out.size))
  clear hb139
  clear k120 k121 k122 k140 k141 k142 k160 k161 k162
  have k120 := T143.out.c0
  have k121 := T143.out.c1
  have k122 := T143.out.c2
  have k140 := T144.out.c0
  have k141 := T144.out.c1
  have k142 := T144.out.c2
  have k160 := T145.out.c0
  have k161 := T145.out.c1
  have k162 := T145.out.c2
  clear k120 k121 k122 k140 k141 k142 k160 k161 k162
  have d6 := T142.out.c16
  have d7 := T142.out.c17
  have k120 := T143.out.c0
  have k121 := T143.out.c1
  have k122 := T143.out.c2
  have k140 := T144.out.c0
  have k141 := T144.out.c1
  have k142 := T144.out.c2
  have C150 := Lib.hid (stLess_any j.n j.r x.n x.r w138)
  unfold st at C150
  rw [Sx.out] at C150
  go_wp2_with fail
  refine C150.out.mono ?_
  rintro e w151 ⟨rfl, hb152⟩
  have T153 := Lib.hid (T140.out.below hb152 T140.out.lt)
  have T154 := Lib.hid (T141.out.below hb152 T141.out.lt)
  have T155 := Lib.hid (T142.out.below hb152 T142.out.lt)
  have T156 := Lib.hid (T143.out.below hb152 T143.out.lt)
  have T157 := Lib.hid (T144.out.below hb152 T144.out.lt)
  have T158 := Lib.hid (T145.out.below hb152 T145.out.lt)
  have F159 := Lib.hid (F146.out.below hb152 (Nat.le_refl _))
  have F160 := Lib.hid (F147.out.below hb152 (Nat.le_refl _))
  have F161 := Lib.hid (F148.out.below hb152 (Nat.le_refl _))
  have B162 := Lib.hid (B149.out.trans (hb152.mono B149.out.size))
  clear hb152
  clear d6 d7 k120 k121 k122 k140 k141 k142
  have U163 := Lib.hid (fun (w9 : World) => max_any (a.n, a.r) (b.n, b.r) w9)
  rw [MXJ.out] at U163
  unfold st at U163
  dsimp only at U163
  go_wp2_with fail
  refine wp_region_G w151 (by kernel_rfl) ?_
  refine wpG_take (i := 0) (oi := ⟨some 118, _, _, _, _, _⟩) (v := ?_) rfl (by kernel_rfl) (by kernel_rfl) (by kernel_rfl) (Or.inl ⟨by rfl, unib_val ?_⟩) ?_; rotate_left; (focus (intro w9 hSw; go_simp; try with_reducible rfl)); simp only [Act.put, List.setIfInBounds_toArray, List.set_cons_zero, List.set_cons_succ]
  refine wpG_take (i := 1) (oi := ⟨some 119, _, _, _, _, _⟩) (v := ?_) rfl (by kernel_rfl) (by kernel_rfl) (by kernel_rfl) (Or.inl ⟨by rfl, unib_val ?_⟩) ?_; rotate_left; (focus (intro w9 hSw; go_simp; try with_reducible rfl)); simp only [Act.put, List.setIfInBounds_toArray, List.set_cons_zero, List.set_cons_succ]
  refine wpG_take (i := 2) (oi := ⟨some 120, _, _, _, _, _⟩) (v := ?_) rfl (by kernel_rfl) (by kernel_rfl) (by kernel_rfl) (Or.inl ⟨by rfl, unib_val ?_⟩) ?_; rotate_left; (focus (intro w9 hSw; go_simp; try with_reducible rfl)); simp only [Act.put, List.setIfInBounds_toArray, List.set_cons_zero, List.set_cons_succ]
  refine wpG_take (i := 3) (oi := ⟨some 121, _, _, _, _, _⟩) (v := ?_) rfl (by kernel_rfl) (by kernel_rfl) (by kernel_rfl) (Or.inl ⟨by rfl, unib_val ?_⟩) ?_; rotate_left; (focus (intro w9 hSw; go_simp; try with_reducible rfl)); simp only [Act.put, List.setIfInBounds_toArray, List.set_cons_zero, List.set_cons_succ]
  refine wpG_take (i := 4) (oi := ⟨some 122, _, _, _, _, _⟩) (v := ?_) rfl (by kernel_rfl) (by kernel_rfl) (by kernel_rfl) (Or.inl ⟨by rfl, unib_val ?_⟩) ?_; rotate_left; (focus (intro w9 hSw; go_simp; try with_reducible rfl)); simp only [Act.put, List.setIfInBounds_toArray, List.set_cons_zero, List.set_cons_succ]
  refine wpG_take (i := 5) (oi := ⟨some 123, _, _, _, _, _⟩) (v := ?_) rfl (by kernel_rfl) (by kernel_rfl) (by kernel_rfl) (Or.inl ⟨by rfl, unib_val ?_⟩) ?_; rotate_left; (focus (intro w9 hSw; have q9 := T155.out.below hSw T155.out.lt; have q0 := q9.c16; have q1 := q9.c17; go_simp; try with_reducible rfl)); simp only [Act.put, List.setIfInBounds_toArray, List.set_cons_zero, List.set_cons_succ]
  refine wpG_take (i := 6) (oi := ⟨some 124, _, _, _, _, _⟩) (v := ?_) rfl (by kernel_rfl) (by kernel_rfl) (by kernel_rfl) (Or.inl ⟨by rfl, unib_val ?_⟩) ?_; rotate_left; (focus (intro w9 hSw; go_simp; try with_reducible rfl)); simp only [Act.put, List.setIfInBounds_toArray, List.set_cons_zero, List.set_cons_succ]
  refine wpG_take (i := 7) (oi := ⟨some 125, _, _, _, _, _⟩) (v := ?_) rfl (by kernel_rfl) (by kernel_rfl) (by kernel_rfl) (Or.inl ⟨by rfl, unib_val ?_⟩) ?_; rotate_left; (focus (intro w9 hSw; have q9 := T153.out.below hSw T153.out.lt; have q0 := q9.c16; have q1 := q9.c17; go_simp; try with_reducible rfl)); simp only [Act.put, List.setIfInBounds_toArray, List.set_cons_zero, List.set_cons_succ]
  refine wpG_take (i := 8) (oi := ⟨some 126, _, _, _, _, _⟩) (v := ?_) rfl (by kernel_rfl) (by kernel_rfl) (by kernel_rfl) (Or.inl ⟨by rfl, unib_val ?_⟩) ?_; rotate_left; (focus (intro w9 hSw; go_simp; try with_reducible rfl)); simp only [Act.put, List.setIfInBounds_toArray, List.set_cons_zero, List.set_cons_succ]
  refine wpG_take (i := 9) (oi := ⟨some 127, _, _, _, _, _⟩) (v := ?_) rfl (by kernel_rfl) (by kernel_rfl) (by kernel_rfl) (Or.inl ⟨by rfl, unib_val ?_⟩) ?_; rotate_left; (focus (intro w9 hSw; have q9 := T154.out.below hSw T154.out.lt; have q0 := q9.c16; have q1 := q9.c17; go_simp; try with_reducible rfl)); simp only [Act.put, List.setIfInBounds_toArray, List.set_cons_zero, List.set_cons_succ]
  refine wpG_take (i := 10) (oi := ⟨some 128, _, _, _, _, _⟩) rfl (by kernel_rfl) (by kernel_rfl) (by kernel_rfl) (Or.inl ⟨by rfl, unib_call ?_ U163.out⟩) ?_; (focus (intro w9 hSw; go_simp; try with_reducible rfl)); simp only [Act.put, List.setIfInBounds_toArray, List.set_cons_zero, List.set_cons_succ]
  refine wpG_take (i := 11) (oi := ⟨some 129, _, _, _, _, _⟩) (v := ?_) rfl (by kernel_rfl) (by kernel_rfl) (by kernel_rfl) (Or.inl ⟨by rfl, unib_val ?_⟩) ?_; rotate_left; (focus (intro w9 hSw; go_simp; try with_reducible rfl)); simp only [Act.put, List.setIfInBounds_toArray, List.set_cons_zero, List.set_cons_succ]
  refine wpG_take (i := 12) (oi := ⟨some 130, _, _, _, _, _⟩) (v := ?_) rfl (by kernel_rfl) (by kernel_rfl) (by kernel_rfl) (Or.inl ⟨by rfl, unib_val ?_⟩) ?_; rotate_left; (focus (intro w9 hSw; go_simp; try with_reducible rfl)); simp only [Act.put, List.setIfInBounds_toArray, List.set_cons_zero, List.set_cons_succ]
  refine wpG_take (i := 13) (oi := ⟨some 131, _, _, _, _, _⟩) (v := ?_) rfl (by kernel_rfl) (by kernel_rfl) (by kernel_rfl) (Or.inl ⟨by rfl, unib_val ?_⟩) ?_; rotate_left; (focus (intro w9 hSw; go_simp; try with_reducible rfl)); simp only [Act.put, List.setIfInBounds_toArray, List.set_cons_zero, List.set_cons_succ]
  refine wpG_take (i := 14) (oi := ⟨some 132, _, _, _, _, _⟩) (v := ?_) rfl (by kernel_rfl) (by kernel_rfl) (by kernel_rfl) (Or.inl ⟨by rfl, unib_val ?_⟩) ?_; rotate_left; (focus (intro w9 hSw; go_simp; try with_reducible rfl)); simp only [Act.put, List.setIfInBounds_toArray, List.set_cons_zero, List.set_cons_succ]
  refine wpG_take (i := 15) (oi := ⟨some 133, _, _, _, _, _⟩) (v := (.agg (bvals j.z))) rfl (by kernel_rfl) (by kernel_rfl) (by kernel_rfl) (Or.inl ⟨by rfl, unib_val ?_⟩) ?_; (focus (intro w9 hSw; exact exec_load_by 40 _ rfl ⟨w41.heap.size, 0, none⟩ rfl (load_id (T155.out.below hSw T155.out.lt)))); simp only [Act.put, List.setIfInBounds_toArray, List.set_cons_zero, List.set_cons_succ]
  refine wpG_take (i := 16) (oi := ⟨some 134, _, _, _, _, _⟩) (v := ?_) rfl (by kernel_rfl) (by kernel_rfl) (by kernel_rfl) (Or.inl ⟨by rfl, unib_val ?_⟩) ?_; rotate_left; (focus (intro w9 hSw; go_simp; try with_reducible rfl)); simp only [Act.put, List.setIfInBounds_toArray, List.set_cons_zero, List.set_cons_succ]
  refine wpG_take (i := 17) (oi := ⟨some 135, _, _, _, _, _⟩) (v := (.agg (bvals a.z))) rfl (by kernel_rfl) (by kernel_rfl) (by kernel_rfl) (Or.inl ⟨by rfl, unib_val ?_⟩) ?_; (focus (intro w9 hSw; exact exec_load_by 40 _ rfl ⟨w.heap.size, 0, none⟩ rfl (load_id (T153.out.below hSw T153.out.lt)))); simp only [Act.put, List.setIfInBounds_toArray, List.set_cons_zero, List.set_cons_succ]
  refine wpG_take (i := 18) (oi := ⟨some 136, _, _, _, _, _⟩) (v := ?_) rfl (by kernel_rfl) (by kernel_rfl) (by kernel_rfl) (Or.inl ⟨by rfl, unib_val ?_⟩) ?_; rotate_left; (focus (intro w9 hSw; have q0 := HE.out w9; go_simp; try with_reducible rfl)); simp only [Act.put, List.setIfInBounds_toArray, List.set_cons_zero, List.set_cons_succ]
  refine wpG_take (i := 19) (oi := ⟨some 137, _, _, _, _, _⟩) (v := ?_) rfl (by kernel_rfl) (by kernel_rfl) (by kernel_rfl) (Or.inl ⟨by rfl, unib_val ?_⟩) ?_; rotate_left; (focus (intro w9 hSw; go_simp; try with_reducible rfl)); simp only [Act.put, List.setIfInBounds_toArray, List.set_cons_zero, List.set_cons_succ]
  refine wpG_take (i := 20) (oi := ⟨some 6, _, _, _, _, _⟩) (v := ?_) rfl (by kernel_rfl) (by kernel_rfl) (by kernel_rfl) (Or.inl ⟨by rfl, unib_val ?_⟩) ?_; rotate_left; (focus (intro w9 hSw; go_simp; try with_reducible rfl)); simp only [Act.put, List.setIfInBounds_toArray, List.set_cons_zero, List.set_cons_succ]
  refine wpG_done (by kernel_rfl) ?_ _
  intro w9 hSw _
  go_wp2
  go_ret
  exact ⟨rfl, B162.out.trans (hSw.mono B162.out.size)⟩
set_option maxHeartbeats 16000000 in
theorem cells_x110 (a : Rc) (A : Option Addr) (ca : Nat) (b : Rc) (B : Option Addr) (cb : Nat) (no : Int) (w : World) (hlaid : Laid w) (wa : IsRec w a A ca) (wb : IsRec w b B cb) (pa : fewR a.fs = true) (pb : fewR b.fs = true) (j : Rc) (jv : a.join b = some j) (mxj : mx (a.n, a.r) (b.n, b.r) = (j.n, j.r)) (jz : j.z = a.z) (x : Cel) (y : Cel) (fx : rfind a.fs no = some x) (fy : rfind b.fs no = some y) (fz : rfind j.fs no = some x) (zx : x.s.size ≤ 300) (zy : y.s.size ≤ 300) (lx : cless x x = false) (ly : cless x y = false) (sx : stLess j.n j.r x.n x.r = false) (sy : stLess j.n j.r y.n y.r = true) :
    Calls Tryd.prog 9 #[a.v A ca, b.v B cb, .int .i64 no] w fun e w' => e = .returned (.bool true) ∧ Below w.heap.size w w' := by
  have HLA := Lib.hid (fun (X : World) (hX : Below w.heap.size w X) => hlaid.below hX (Nat.le_refl _))
  have OKa := Lib.hid wa.1
  have OKb := Lib.hid wb.1
  have Fa := Lib.hid wa.2.1
  have Fb := Lib.hid wb.2.1
  have hz := zeroRec
  unfold rv at hz
  conv => congr; rfl; rfl; (unfold Rc.v rv)
  have PA := Lib.hid pa
  have PB := Lib.hid pb
  have JV := Lib.hid jv
  have MXJ := Lib.hid mxj
  have OKj := Lib.hid (Rc.join_ok wa.1 jv)
  have HE := Lib.hid (show ∀ w9 : World, (Op.equalIn 10000 40 (.agg (bvals j.z)) (.agg (bvals a.z))).run Tryd.prog w9 = .ok true w9 from fun w9 => by
    have := eq_id (Rc.join_ok wa.1 jv).2 wa.1.2 (Rc.join_ok wa.1 jv).1 wa.1.1 w9
    rwa [show (j.z == a.z) = true by rw [beq_iff_eq]; exact jz] at this)
  clear hlaid wa wb pa pb jv mxj jz
  have FX := Lib.hid fx
  have FY := Lib.hid fy
  have FZ := Lib.hid fz
  have SZx := Lib.hid zx
  have SZy := Lib.hid zy
  have Lxx := Lib.hid lx
  have Lxy := Lib.hid ly
  have Sx := Lib.hid sx
  have Sy := Lib.hid sy
  clear fx fy fz zx zy lx ly sx sy
  have B1 := Lib.hid (Below.refl w.heap.size w)
  have T2n := RcAt.new w OKa.out.len a.n a.r (.slice A a.fs.length ca)
  have T2 := Lib.hid (T2n)
  clear T2n
  have B3 := Lib.hid (B1.out.alloc B1.out.size (.cells (rcells a.z a.n a.r (.slice A a.fs.length ca)) 43))
  have T4 := Lib.hid (T2.out.old (.cells (rcells b.z b.n b.r (.slice B b.fs.length cb)) 43))
  have T5n := RcAt.new (w.alloc (.cells (rcells a.z a.n a.r (.slice A a.fs.length ca)) 43)) OKb.out.len b.n b.r (.slice B b.fs.length cb)
  simp only [World.size_alloc] at T5n
  have T5 := Lib.hid (T5n)
  clear T5n
  have B6 := Lib.hid (B3.out.alloc B3.out.size (.cells (rcells b.z b.n b.r (.slice B b.fs.length cb)) 43))
  have F7 := Lib.hid (Fa.out.below B6.out (Nat.le_refl _))
  have F8 := Lib.hid (Fb.out.below B6.out (Nat.le_refl _))
  go_enter Tryd.func9, Tryd.ntmps9
  have C9 := Lib.hid (rcAwake ((w.alloc (.cells (rcells a.z a.n a.r (.slice A a.fs.length ca)) 43)).alloc (.cells (rcells b.z b.n b.r (.slice B b.fs.length cb)) 43)) (HLA.out _ B6.out))
  go_wp2_with fail
  refine C9.out.mono ?_
  rintro e w10 ⟨rfl, hb11⟩
  have T12 := Lib.hid (T4.out.below hb11 T4.out.lt)
  have T13 := Lib.hid (T5.out.below hb11 T5.out.lt)
  have F14 := Lib.hid (F7.out.below hb11 (Nat.le_refl _))
  have F15 := Lib.hid (F8.out.below hb11 (Nat.le_refl _))
  have B16 := Lib.hid (B6.out.trans (hb11.mono B6.out.size))
  clear hb11
  have M17 := Lib.hid (load_rec T12.out)
  unfold rv at M17
  have C18 := Lib.hid (fewR_any a A ca w10 OKa.out F14.out)
  unfold Rc.v at C18
  unfold rv at C18
  rw [PA.out] at C18
  go_wp2_with (first | ((with_reducible refine wpList_load_by (o := ⟨some 20, .load 43 (.tmp 3), _, _, _, _⟩) ?e1 43 (.tmp 3) ?e2 ⟨w.heap.size, 0, none⟩ ?e3 _ M17.out ?_); (case e1 => rfl); (case e2 => rfl); (case e3 => rfl)))
  refine C18.out.mono ?_
  rintro e w19 ⟨rfl, hb20⟩
  have T21 := Lib.hid (T12.out.below hb20 T12.out.lt)
  have T22 := Lib.hid (T13.out.below hb20 T13.out.lt)
  have F23 := Lib.hid (F14.out.below hb20 (Nat.le_refl _))
  have F24 := Lib.hid (F15.out.below hb20 (Nat.le_refl _))
  have B25 := Lib.hid (B16.out.trans (hb20.mono B16.out.size))
  clear hb20
  have M26 := Lib.hid (load_rec T22.out)
  unfold rv at M26
  have C27 := Lib.hid (fewR_any b B cb w19 OKb.out F24.out)
  unfold Rc.v at C27
  unfold rv at C27
  rw [PB.out] at C27
  go_wp2_with (first | ((with_reducible refine wpList_load_by (o := ⟨some 22, .load 43 (.tmp 4), _, _, _, _⟩) ?e1 43 (.tmp 4) ?e2 ⟨(w.heap.size + 1), 0, none⟩ ?e3 _ M26.out ?_); (case e1 => rfl); (case e2 => rfl); (case e3 => rfl)))
  refine C27.out.mono ?_
  rintro e w28 ⟨rfl, hb29⟩
  have T30 := Lib.hid (T21.out.below hb29 T21.out.lt)
  have T31 := Lib.hid (T22.out.below hb29 T22.out.lt)
  have F32 := Lib.hid (F23.out.below hb29 (Nat.le_refl _))
  have F33 := Lib.hid (F24.out.below hb29 (Nat.le_refl _))
  have B34 := Lib.hid (B25.out.trans (hb29.mono B25.out.size))
  clear hb29
  have M38 := Lib.hid (load_rec T30.out)
  unfold rv at M38
  have M39 := Lib.hid (load_rec T31.out)
  unfold rv at M39
  have C40 := Lib.hid (join_any a b A B ca cb w28 (HLA.out _ B34.out) OKa.out OKb.out F32.out F33.out)
  unfold JoinPost Rc.v at C40
  unfold rv at C40
  rw [JV.out] at C40
  dsimp only [Option.getD, Option.isSome] at C40
  go_wp2_with (first | ((with_reducible refine wpList_load_by (o := ⟨some 25, .load 43 (.tmp 3), _, _, _, _⟩) ?e1 43 (.tmp 3) ?e2 ⟨w.heap.size, 0, none⟩ ?e3 _ M38.out ?_); (case e1 => rfl); (case e2 => rfl); (case e3 => rfl)) | ((with_reducible refine wpList_load_by (o := ⟨some 26, .load 43 (.tmp 4), _, _, _, _⟩) ?e1 43 (.tmp 4) ?e2 ⟨(w.heap.size + 1), 0, none⟩ ?e3 _ M39.out ?_); (case e1 => rfl); (case e2 => rfl); (case e3 => rfl)))
  refine C40.out.mono ?_
  rintro e w41 ⟨A35, c36, rfl, hf37, hb42⟩
  have T43 := Lib.hid (T30.out.below hb42 T30.out.lt)
  have T44 := Lib.hid (T31.out.below hb42 T31.out.lt)
  have F45 := Lib.hid (F32.out.below hb42 (Nat.le_refl _))
  have F46 := Lib.hid (F33.out.below hb42 (Nat.le_refl _))
  have B47 := Lib.hid (B34.out.trans (hb42.mono B34.out.size))
  clear hb42
  have F48 := Lib.hid (hf37)
  clear hf37
  go_wp2_with (first | ((with_reducible refine wpList_store_new (o := ⟨none, .store 43 (.tmp 10) (.tmp 28), _, _, _, _⟩) (w := w41) ?e1 (.tmp 10) (.tmp 28) ?e2 w41.heap.size rfl ?e3 j.z j.n j.r (.slice A35 j.fs.length c36) ?e4 OKj.out.len ?e5 ?_); (case e1 => rfl); (case e2 => rfl); (case e3 => rfl); (case e4 => rfl); (case e5 => rfl); intro w49 hb50 hRs; have T51 := Lib.hid hRs; clear hRs; have T52 := Lib.hid (T43.out.below hb50 T43.out.lt); have T53 := Lib.hid (T44.out.below hb50 T44.out.lt); have F54 := Lib.hid (F45.out.below hb50 (Nat.le_refl _)); have F55 := Lib.hid (F46.out.below hb50 (Nat.le_refl _)); have F56 := Lib.hid (F48.out.below hb50 (Nat.le_refl _)); have B57 := Lib.hid (B47.out.trans (hb50.mono B47.out.size)); clear hb50; have M58 := Lib.hid (load_rec T52.out); unfold rv at M58; have C59 := Lib.hid (find_any' a A ca no w49 OKa.out F54.out); unfold FindPost Rc.v at C59; unfold rv at C59; rw [FX.out] at C59; dsimp only [Option.getD, Option.isSome, Cel.v, cel00] at C59) | ((with_reducible refine wpList_load_by (o := ⟨some 46, .load 43 (.tmp 3), _, _, _, _⟩) ?e1 43 (.tmp 3) ?e2 ⟨w.heap.size, 0, none⟩ ?e3 _ M58.out ?_); (case e1 => rfl); (case e2 => rfl); (case e3 => rfl)))
  refine C59.out.mono ?_
  rintro e w60 ⟨rfl, hb61⟩
  have T62 := Lib.hid (T52.out.below hb61 T52.out.lt)
  have T63 := Lib.hid (T53.out.below hb61 T53.out.lt)
  have T64 := Lib.hid (T51.out.below hb61 T51.out.lt)
  have F65 := Lib.hid (F54.out.below hb61 (Nat.le_refl _))
  have F66 := Lib.hid (F55.out.below hb61 (Nat.le_refl _))
  have F67 := Lib.hid (F56.out.below hb61 (Nat.le_refl _))
  have B68 := Lib.hid (B57.out.trans (hb61.mono B57.out.size))
  clear hb61
  have hb69 := (Below.refl w60.heap.size w60).alloc (Nat.le_refl _) (.cells #[.int .i64 x.n, .int .i64 x.r, .string x.s] 25)
  have T70 := Lib.hid (ClAt.new w60 x)
  try dsimp only at T70
  have T71 := Lib.hid (T62.out.below hb69 T62.out.lt)
  have T72 := Lib.hid (T63.out.below hb69 T63.out.lt)
  have T73 := Lib.hid (T64.out.below hb69 T64.out.lt)
  have F74 := Lib.hid (F65.out.below hb69 (Nat.le_refl _))
  have F75 := Lib.hid (F66.out.below hb69 (Nat.le_refl _))
  have F76 := Lib.hid (F67.out.below hb69 (Nat.le_refl _))
  have B77 := Lib.hid (B68.out.trans (hb69.mono B68.out.size))
  clear hb69
  have M78 := Lib.hid (load_rec T72.out)
  unfold rv at M78
  have C79 := Lib.hid (find_any' b B cb no (w60.alloc (.cells #[.int .i64 x.n, .int .i64 x.r, .string x.s] 25)) OKb.out F75.out)
  unfold FindPost Rc.v at C79
  unfold rv at C79
  rw [FY.out] at C79
  dsimp only [Option.getD, Option.isSome, Cel.v, cel00] at C79
  go_wp2_with (first | ((with_reducible refine wpList_load_by (o := ⟨some 52, .load 43 (.tmp 4), _, _, _, _⟩) ?e1 43 (.tmp 4) ?e2 ⟨(w.heap.size + 1), 0, none⟩ ?e3 _ M78.out ?_); (case e1 => rfl); (case e2 => rfl); (case e3 => rfl)))
  refine C79.out.mono ?_
  rintro e w80 ⟨rfl, hb81⟩
  have T82 := Lib.hid (T71.out.below hb81 T71.out.lt)
  have T83 := Lib.hid (T72.out.below hb81 T72.out.lt)
  have T84 := Lib.hid (T73.out.below hb81 T73.out.lt)
  have T85 := Lib.hid (T70.out.below hb81 T70.out.lt)
  have F86 := Lib.hid (F74.out.below hb81 (Nat.le_refl _))
  have F87 := Lib.hid (F75.out.below hb81 (Nat.le_refl _))
  have F88 := Lib.hid (F76.out.below hb81 (Nat.le_refl _))
  have B89 := Lib.hid (B77.out.trans (hb81.mono B77.out.size))
  clear hb81
  have hb90 := (Below.refl w80.heap.size w80).alloc (Nat.le_refl _) (.cells #[.int .i64 y.n, .int .i64 y.r, .string y.s] 25)
  have T91 := Lib.hid (ClAt.new w80 y)
  try dsimp only at T91
  have T92 := Lib.hid (T82.out.below hb90 T82.out.lt)
  have T93 := Lib.hid (T83.out.below hb90 T83.out.lt)
  have T94 := Lib.hid (T84.out.below hb90 T84.out.lt)
  have T95 := Lib.hid (T85.out.below hb90 T85.out.lt)
  have F96 := Lib.hid (F86.out.below hb90 (Nat.le_refl _))
  have F97 := Lib.hid (F87.out.below hb90 (Nat.le_refl _))
  have F98 := Lib.hid (F88.out.below hb90 (Nat.le_refl _))
  have B99 := Lib.hid (B89.out.trans (hb90.mono B89.out.size))
  clear hb90
  have M100 := Lib.hid (load_rec T94.out)
  unfold rv at M100
  have C101 := Lib.hid (find_any' j A35 c36 no (w80.alloc (.cells #[.int .i64 y.n, .int .i64 y.r, .string y.s] 25)) OKj.out F98.out)
  unfold FindPost Rc.v at C101
  unfold rv at C101
  rw [FZ.out] at C101
  dsimp only [Option.getD, Option.isSome, Cel.v, cel00] at C101
  go_wp2_with (first | ((with_reducible refine wpList_load_by (o := ⟨some 58, .load 43 (.tmp 10), _, _, _, _⟩) ?e1 43 (.tmp 10) ?e2 ⟨w41.heap.size, 0, none⟩ ?e3 _ M100.out ?_); (case e1 => rfl); (case e2 => rfl); (case e3 => rfl)))
  refine C101.out.mono ?_
  rintro e w102 ⟨rfl, hb103⟩
  have T104 := Lib.hid (T92.out.below hb103 T92.out.lt)
  have T105 := Lib.hid (T93.out.below hb103 T93.out.lt)
  have T106 := Lib.hid (T94.out.below hb103 T94.out.lt)
  have T107 := Lib.hid (T95.out.below hb103 T95.out.lt)
  have T108 := Lib.hid (T91.out.below hb103 T91.out.lt)
  have F109 := Lib.hid (F96.out.below hb103 (Nat.le_refl _))
  have F110 := Lib.hid (F97.out.below hb103 (Nat.le_refl _))
  have F111 := Lib.hid (F98.out.below hb103 (Nat.le_refl _))
  have B112 := Lib.hid (B99.out.trans (hb103.mono B99.out.size))
  clear hb103
  have hb113 := (Below.refl w102.heap.size w102).alloc (Nat.le_refl _) (.cells #[.int .i64 x.n, .int .i64 x.r, .string x.s] 25)
  have T114 := Lib.hid (ClAt.new w102 x)
  try dsimp only at T114
  have T115 := Lib.hid (T104.out.below hb113 T104.out.lt)
  have T116 := Lib.hid (T105.out.below hb113 T105.out.lt)
  have T117 := Lib.hid (T106.out.below hb113 T106.out.lt)
  have T118 := Lib.hid (T107.out.below hb113 T107.out.lt)
  have T119 := Lib.hid (T108.out.below hb113 T108.out.lt)
  have F120 := Lib.hid (F109.out.below hb113 (Nat.le_refl _))
  have F121 := Lib.hid (F110.out.below hb113 (Nat.le_refl _))
  have F122 := Lib.hid (F111.out.below hb113 (Nat.le_refl _))
  have B123 := Lib.hid (B112.out.trans (hb113.mono B112.out.size))
  clear hb113
  
  have k120 := T118.out.c0
  have k121 := T118.out.c1
  have k122 := T118.out.c2
  have k140 := T119.out.c0
  have k141 := T119.out.c1
  have k142 := T119.out.c2
  have k160 := T114.out.c0
  have k161 := T114.out.c1
  have k162 := T114.out.c2
  have hs := cl_same x
  have C124 := Lib.hid (cless_any x x (w102.alloc (.cells #[.int .i64 x.n, .int .i64 x.r, .string x.s] 25)) (HLA.out _ B123.out) SZx.out SZx.out)
  unfold Cel.v at C124
  rw [Lxx.out] at C124
  go_wp2_with fail
  refine C124.out.mono ?_
  rintro e w125 ⟨rfl, hb126⟩
  have T127 := Lib.hid (T115.out.below hb126 T115.out.lt)
  have T128 := Lib.hid (T116.out.below hb126 T116.out.lt)
  have T129 := Lib.hid (T117.out.below hb126 T117.out.lt)
  have T130 := Lib.hid (T118.out.below hb126 T118.out.lt)
  have T131 := Lib.hid (T119.out.below hb126 T119.out.lt)
  have T132 := Lib.hid (T114.out.below hb126 T114.out.lt)
  have F133 := Lib.hid (F120.out.below hb126 (Nat.le_refl _))
  have F134 := Lib.hid (F121.out.below hb126 (Nat.le_refl _))
  have F135 := Lib.hid (F122.out.below hb126 (Nat.le_refl _))
  have B136 := Lib.hid (B123.out.trans (hb126.mono B123.out.size))
  clear hb126
  clear k120 k121 k122 k140 k141 k142 k160 k161 k162 hs
  have k120 := T130.out.c0
  have k121 := T130.out.c1
  have k122 := T130.out.c2
  have k140 := T131.out.c0
  have k141 := T131.out.c1
  have k142 := T131.out.c2
  have k160 := T132.out.c0
  have k161 := T132.out.c1
  have k162 := T132.out.c2
  have C137 := Lib.hid (cless_any x y w125 (HLA.out _ B136.out) SZx.out SZy.out)
  unfold Cel.v at C137
  rw [Lxy.out] at C137
  go_wp2_with fail
  refine C137.out.mono ?_
  rintro e w138 ⟨rfl, hb139⟩
  have T140 := Lib.hid (T127.out.below hb139 T127.out.lt)
  have T141 := Lib.hid (T128.out.below hb139 T128.out.lt)
  have T142 := Lib.hid (T129.out.below hb139 T129.out.lt)
  have T143 := Lib.hid (T130.out.below hb139 T130.out.lt)
  have T144 := Lib.hid (T131.out.below hb139 T131.out.lt)
  have T145 := Lib.hid (T132.out.below hb139 T132.out.lt)
  have F146 := Lib.hid (F133.out.below hb139 (Nat.le_refl _))
  have F147 := Lib.hid (F134.out.below hb139 (Nat.le_refl _))
  have F148 := Lib.hid (F135.out.below hb139 (Nat.le_refl _))
  have B149 := Lib.hid (B136.out.trans (hb139.mono B136.out.size))
  clear hb139
  clear k120 k121 k122 k140 k141 k142 k160 k161 k162
  have k120 := T143.out.c0
  have k121 := T143.out.c1
  have k122 := T143.out.c2
  have k140 := T144.out.c0
  have k141 := T144.out.c1
  have k142 := T144.out.c2
  have k160 := T145.out.c0
  have k161 := T145.out.c1
  have k162 := T145.out.c2
  clear k120 k121 k122 k140 k141 k142 k160 k161 k162
  have d6 := T142.out.c16
  have d7 := T142.out.c17
  have k120 := T143.out.c0
  have k121 := T143.out.c1
  have k122 := T143.out.c2
  have k140 := T144.out.c0
  have k141 := T144.out.c1
  have k142 := T144.out.c2
  have C150 := Lib.hid (stLess_any j.n j.r x.n x.r w138)
  unfold st at C150
  rw [Sx.out] at C150
  go_wp2_with fail
  refine C150.out.mono ?_
  rintro e w151 ⟨rfl, hb152⟩
  have T153 := Lib.hid (T140.out.below hb152 T140.out.lt)
  have T154 := Lib.hid (T141.out.below hb152 T141.out.lt)
  have T155 := Lib.hid (T142.out.below hb152 T142.out.lt)
  have T156 := Lib.hid (T143.out.below hb152 T143.out.lt)
  have T157 := Lib.hid (T144.out.below hb152 T144.out.lt)
  have T158 := Lib.hid (T145.out.below hb152 T145.out.lt)
  have F159 := Lib.hid (F146.out.below hb152 (Nat.le_refl _))
  have F160 := Lib.hid (F147.out.below hb152 (Nat.le_refl _))
  have F161 := Lib.hid (F148.out.below hb152 (Nat.le_refl _))
  have B162 := Lib.hid (B149.out.trans (hb152.mono B149.out.size))
  clear hb152
  clear d6 d7 k120 k121 k122 k140 k141 k142
  have d6 := T155.out.c16
  have d7 := T155.out.c17
  have k120 := T156.out.c0
  have k121 := T156.out.c1
  have k122 := T156.out.c2
  have k140 := T157.out.c0
  have k141 := T157.out.c1
  have k142 := T157.out.c2
  have C163 := Lib.hid (stLess_any j.n j.r y.n y.r w151)
  unfold st at C163
  rw [Sy.out] at C163
  go_wp2_with fail
  refine C163.out.mono ?_
  rintro e w164 ⟨rfl, hb165⟩
  have T166 := Lib.hid (T153.out.below hb165 T153.out.lt)
  have T167 := Lib.hid (T154.out.below hb165 T154.out.lt)
  have T168 := Lib.hid (T155.out.below hb165 T155.out.lt)
  have T169 := Lib.hid (T156.out.below hb165 T156.out.lt)
  have T170 := Lib.hid (T157.out.below hb165 T157.out.lt)
  have T171 := Lib.hid (T158.out.below hb165 T158.out.lt)
  have F172 := Lib.hid (F159.out.below hb165 (Nat.le_refl _))
  have F173 := Lib.hid (F160.out.below hb165 (Nat.le_refl _))
  have F174 := Lib.hid (F161.out.below hb165 (Nat.le_refl _))
  have B175 := Lib.hid (B162.out.trans (hb165.mono B162.out.size))
  clear hb165
  clear d6 d7 k120 k121 k122 k140 k141 k142
  have U176 := Lib.hid (fun (w9 : World) => max_any (a.n, a.r) (b.n, b.r) w9)
  rw [MXJ.out] at U176
  unfold st at U176
  dsimp only at U176
  go_wp2_with fail
  refine wp_region_G w164 (by kernel_rfl) ?_
  refine wpG_take (i := 0) (oi := ⟨some 118, _, _, _, _, _⟩) (v := ?_) rfl (by kernel_rfl) (by kernel_rfl) (by kernel_rfl) (Or.inl ⟨by rfl, unib_val ?_⟩) ?_; rotate_left; (focus (intro w9 hSw; go_simp; try with_reducible rfl)); simp only [Act.put, List.setIfInBounds_toArray, List.set_cons_zero, List.set_cons_succ]
  refine wpG_take (i := 1) (oi := ⟨some 119, _, _, _, _, _⟩) (v := ?_) rfl (by kernel_rfl) (by kernel_rfl) (by kernel_rfl) (Or.inl ⟨by rfl, unib_val ?_⟩) ?_; rotate_left; (focus (intro w9 hSw; go_simp; try with_reducible rfl)); simp only [Act.put, List.setIfInBounds_toArray, List.set_cons_zero, List.set_cons_succ]
  refine wpG_take (i := 2) (oi := ⟨some 120, _, _, _, _, _⟩) (v := ?_) rfl (by kernel_rfl) (by kernel_rfl) (by kernel_rfl) (Or.inl ⟨by rfl, unib_val ?_⟩) ?_; rotate_left; (focus (intro w9 hSw; go_simp; try with_reducible rfl)); simp only [Act.put, List.setIfInBounds_toArray, List.set_cons_zero, List.set_cons_succ]
  refine wpG_take (i := 3) (oi := ⟨some 121, _, _, _, _, _⟩) (v := ?_) rfl (by kernel_rfl) (by kernel_rfl) (by kernel_rfl) (Or.inl ⟨by rfl, unib_val ?_⟩) ?_; rotate_left; (focus (intro w9 hSw; go_simp; try with_reducible rfl)); simp only [Act.put, List.setIfInBounds_toArray, List.set_cons_zero, List.set_cons_succ]
  refine wpG_take (i := 4) (oi := ⟨some 122, _, _, _, _, _⟩) (v := ?_) rfl (by kernel_rfl) (by kernel_rfl) (by kernel_rfl) (Or.inl ⟨by rfl, unib_val ?_⟩) ?_; rotate_left; (focus (intro w9 hSw; go_simp; try with_reducible rfl)); simp only [Act.put, List.setIfInBounds_toArray, List.set_cons_zero, List.set_cons_succ]
  refine wpG_take (i := 5) (oi := ⟨some 123, _, _, _, _, _⟩) (v := ?_) rfl (by kernel_rfl) (by kernel_rfl) (by kernel_rfl) (Or.inl ⟨by rfl, unib_val ?_⟩) ?_; rotate_left; (focus (intro w9 hSw; have q9 := T168.out.below hSw T168.out.lt; have q0 := q9.c16; have q1 := q9.c17; go_simp; try with_reducible rfl)); simp only [Act.put, List.setIfInBounds_toArray, List.set_cons_zero, List.set_cons_succ]
  refine wpG_take (i := 6) (oi := ⟨some 124, _, _, _, _, _⟩) (v := ?_) rfl (by kernel_rfl) (by kernel_rfl) (by kernel_rfl) (Or.inl ⟨by rfl, unib_val ?_⟩) ?_; rotate_left; (focus (intro w9 hSw; go_simp; try with_reducible rfl)); simp only [Act.put, List.setIfInBounds_toArray, List.set_cons_zero, List.set_cons_succ]
  refine wpG_take (i := 7) (oi := ⟨some 125, _, _, _, _, _⟩) (v := ?_) rfl (by kernel_rfl) (by kernel_rfl) (by kernel_rfl) (Or.inl ⟨by rfl, unib_val ?_⟩) ?_; rotate_left; (focus (intro w9 hSw; have q9 := T166.out.below hSw T166.out.lt; have q0 := q9.c16; have q1 := q9.c17; go_simp; try with_reducible rfl)); simp only [Act.put, List.setIfInBounds_toArray, List.set_cons_zero, List.set_cons_succ]
  refine wpG_take (i := 8) (oi := ⟨some 126, _, _, _, _, _⟩) (v := ?_) rfl (by kernel_rfl) (by kernel_rfl) (by kernel_rfl) (Or.inl ⟨by rfl, unib_val ?_⟩) ?_; rotate_left; (focus (intro w9 hSw; go_simp; try with_reducible rfl)); simp only [Act.put, List.setIfInBounds_toArray, List.set_cons_zero, List.set_cons_succ]
  refine wpG_take (i := 9) (oi := ⟨some 127, _, _, _, _, _⟩) (v := ?_) rfl (by kernel_rfl) (by kernel_rfl) (by kernel_rfl) (Or.inl ⟨by rfl, unib_val ?_⟩) ?_; rotate_left; (focus (intro w9 hSw; have q9 := T167.out.below hSw T167.out.lt; have q0 := q9.c16; have q1 := q9.c17; go_simp; try with_reducible rfl)); simp only [Act.put, List.setIfInBounds_toArray, List.set_cons_zero, List.set_cons_succ]
  refine wpG_take (i := 10) (oi := ⟨some 128, _, _, _, _, _⟩) rfl (by kernel_rfl) (by kernel_rfl) (by kernel_rfl) (Or.inl ⟨by rfl, unib_call ?_ U176.out⟩) ?_; (focus (intro w9 hSw; go_simp; try with_reducible rfl)); simp only [Act.put, List.setIfInBounds_toArray, List.set_cons_zero, List.set_cons_succ]
  refine wpG_take (i := 11) (oi := ⟨some 129, _, _, _, _, _⟩) (v := ?_) rfl (by kernel_rfl) (by kernel_rfl) (by kernel_rfl) (Or.inl ⟨by rfl, unib_val ?_⟩) ?_; rotate_left; (focus (intro w9 hSw; go_simp; try with_reducible rfl)); simp only [Act.put, List.setIfInBounds_toArray, List.set_cons_zero, List.set_cons_succ]
  refine wpG_take (i := 12) (oi := ⟨some 130, _, _, _, _, _⟩) (v := ?_) rfl (by kernel_rfl) (by kernel_rfl) (by kernel_rfl) (Or.inl ⟨by rfl, unib_val ?_⟩) ?_; rotate_left; (focus (intro w9 hSw; go_simp; try with_reducible rfl)); simp only [Act.put, List.setIfInBounds_toArray, List.set_cons_zero, List.set_cons_succ]
  refine wpG_take (i := 13) (oi := ⟨some 131, _, _, _, _, _⟩) (v := ?_) rfl (by kernel_rfl) (by kernel_rfl) (by kernel_rfl) (Or.inl ⟨by rfl, unib_val ?_⟩) ?_; rotate_left; (focus (intro w9 hSw; go_simp; try with_reducible rfl)); simp only [Act.put, List.setIfInBounds_toArray, List.set_cons_zero, List.set_cons_succ]
  refine wpG_take (i := 14) (oi := ⟨some 132, _, _, _, _, _⟩) (v := ?_) rfl (by kernel_rfl) (by kernel_rfl) (by kernel_rfl) (Or.inl ⟨by rfl, unib_val ?_⟩) ?_; rotate_left; (focus (intro w9 hSw; go_simp; try with_reducible rfl)); simp only [Act.put, List.setIfInBounds_toArray, List.set_cons_zero, List.set_cons_succ]
  refine wpG_take (i := 15) (oi := ⟨some 133, _, _, _, _, _⟩) (v := (.agg (bvals j.z))) rfl (by kernel_rfl) (by kernel_rfl) (by kernel_rfl) (Or.inl ⟨by rfl, unib_val ?_⟩) ?_; (focus (intro w9 hSw; exact exec_load_by 40 _ rfl ⟨w41.heap.size, 0, none⟩ rfl (load_id (T168.out.below hSw T168.out.lt)))); simp only [Act.put, List.setIfInBounds_toArray, List.set_cons_zero, List.set_cons_succ]
  refine wpG_take (i := 16) (oi := ⟨some 134, _, _, _, _, _⟩) (v := ?_) rfl (by kernel_rfl) (by kernel_rfl) (by kernel_rfl) (Or.inl ⟨by rfl, unib_val ?_⟩) ?_; rotate_left; (focus (intro w9 hSw; go_simp; try with_reducible rfl)); simp only [Act.put, List.setIfInBounds_toArray, List.set_cons_zero, List.set_cons_succ]
  refine wpG_take (i := 17) (oi := ⟨some 135, _, _, _, _, _⟩) (v := (.agg (bvals a.z))) rfl (by kernel_rfl) (by kernel_rfl) (by kernel_rfl) (Or.inl ⟨by rfl, unib_val ?_⟩) ?_; (focus (intro w9 hSw; exact exec_load_by 40 _ rfl ⟨w.heap.size, 0, none⟩ rfl (load_id (T166.out.below hSw T166.out.lt)))); simp only [Act.put, List.setIfInBounds_toArray, List.set_cons_zero, List.set_cons_succ]
  refine wpG_take (i := 18) (oi := ⟨some 136, _, _, _, _, _⟩) (v := ?_) rfl (by kernel_rfl) (by kernel_rfl) (by kernel_rfl) (Or.inl ⟨by rfl, unib_val ?_⟩) ?_; rotate_left; (focus (intro w9 hSw; have q0 := HE.out w9; go_simp; try with_reducible rfl)); simp only [Act.put, List.setIfInBounds_toArray, List.set_cons_zero, List.set_cons_succ]
  refine wpG_take (i := 19) (oi := ⟨some 137, _, _, _, _, _⟩) (v := ?_) rfl (by kernel_rfl) (by kernel_rfl) (by kernel_rfl) (Or.inl ⟨by rfl, unib_val ?_⟩) ?_; rotate_left; (focus (intro w9 hSw; go_simp; try with_reducible rfl)); simp only [Act.put, List.setIfInBounds_toArray, List.set_cons_zero, List.set_cons_succ]
  refine wpG_take (i := 20) (oi := ⟨some 6, _, _, _, _, _⟩) (v := ?_) rfl (by kernel_rfl) (by kernel_rfl) (by kernel_rfl) (Or.inl ⟨by rfl, unib_val ?_⟩) ?_; rotate_left; (focus (intro w9 hSw; go_simp; try with_reducible rfl)); simp only [Act.put, List.setIfInBounds_toArray, List.set_cons_zero, List.set_cons_succ]
  refine wpG_done (by kernel_rfl) ?_ _
  intro w9 hSw _
  go_wp2
  go_ret
  exact ⟨rfl, B175.out.trans (hSw.mono B175.out.size)⟩
set_option maxHeartbeats 16000000 in
theorem cells_y111 (a : Rc) (A : Option Addr) (ca : Nat) (b : Rc) (B : Option Addr) (cb : Nat) (no : Int) (w : World) (hlaid : Laid w) (wa : IsRec w a A ca) (wb : IsRec w b B cb) (pa : fewR a.fs = true) (pb : fewR b.fs = true) (j : Rc) (jv : a.join b = some j) (mxj : mx (a.n, a.r) (b.n, b.r) = (j.n, j.r)) (jz : j.z = a.z) (x : Cel) (y : Cel) (fx : rfind a.fs no = some x) (fy : rfind b.fs no = some y) (fz : rfind j.fs no = some y) (zx : x.s.size ≤ 300) (zy : y.s.size ≤ 300) (lx : cless y x = false) (ly : cless y y = false) (hxy : ¬ y = x) (sx : stLess j.n j.r x.n x.r = true) :
    Calls Tryd.prog 9 #[a.v A ca, b.v B cb, .int .i64 no] w fun e w' => e = .returned (.bool true) ∧ Below w.heap.size w w' := by
  have HLA := Lib.hid (fun (X : World) (hX : Below w.heap.size w X) => hlaid.below hX (Nat.le_refl _))
  have OKa := Lib.hid wa.1
  have OKb := Lib.hid wb.1
  have Fa := Lib.hid wa.2.1
  have Fb := Lib.hid wb.2.1
  have hz := zeroRec
  unfold rv at hz
  conv => congr; rfl; rfl; (unfold Rc.v rv)
  have PA := Lib.hid pa
  have PB := Lib.hid pb
  have JV := Lib.hid jv
  have MXJ := Lib.hid mxj
  have OKj := Lib.hid (Rc.join_ok wa.1 jv)
  have HE := Lib.hid (show ∀ w9 : World, (Op.equalIn 10000 40 (.agg (bvals j.z)) (.agg (bvals a.z))).run Tryd.prog w9 = .ok true w9 from fun w9 => by
    have := eq_id (Rc.join_ok wa.1 jv).2 wa.1.2 (Rc.join_ok wa.1 jv).1 wa.1.1 w9
    rwa [show (j.z == a.z) = true by rw [beq_iff_eq]; exact jz] at this)
  clear hlaid wa wb pa pb jv mxj jz
  have FX := Lib.hid fx
  have FY := Lib.hid fy
  have FZ := Lib.hid fz
  have SZx := Lib.hid zx
  have SZy := Lib.hid zy
  have Lyx := Lib.hid lx
  have Lyy := Lib.hid ly
  have HXY := Lib.hid hxy
  have Sx := Lib.hid sx
  clear fx fy fz zx zy lx ly hxy sx
  have B1 := Lib.hid (Below.refl w.heap.size w)
  have T2n := RcAt.new w OKa.out.len a.n a.r (.slice A a.fs.length ca)
  have T2 := Lib.hid (T2n)
  clear T2n
  have B3 := Lib.hid (B1.out.alloc B1.out.size (.cells (rcells a.z a.n a.r (.slice A a.fs.length ca)) 43))
  have T4 := Lib.hid (T2.out.old (.cells (rcells b.z b.n b.r (.slice B b.fs.length cb)) 43))
  have T5n := RcAt.new (w.alloc (.cells (rcells a.z a.n a.r (.slice A a.fs.length ca)) 43)) OKb.out.len b.n b.r (.slice B b.fs.length cb)
  simp only [World.size_alloc] at T5n
  have T5 := Lib.hid (T5n)
  clear T5n
  have B6 := Lib.hid (B3.out.alloc B3.out.size (.cells (rcells b.z b.n b.r (.slice B b.fs.length cb)) 43))
  have F7 := Lib.hid (Fa.out.below B6.out (Nat.le_refl _))
  have F8 := Lib.hid (Fb.out.below B6.out (Nat.le_refl _))
  go_enter Tryd.func9, Tryd.ntmps9
  have C9 := Lib.hid (rcAwake ((w.alloc (.cells (rcells a.z a.n a.r (.slice A a.fs.length ca)) 43)).alloc (.cells (rcells b.z b.n b.r (.slice B b.fs.length cb)) 43)) (HLA.out _ B6.out))
  go_wp2_with fail
  refine C9.out.mono ?_
  rintro e w10 ⟨rfl, hb11⟩
  have T12 := Lib.hid (T4.out.below hb11 T4.out.lt)
  have T13 := Lib.hid (T5.out.below hb11 T5.out.lt)
  have F14 := Lib.hid (F7.out.below hb11 (Nat.le_refl _))
  have F15 := Lib.hid (F8.out.below hb11 (Nat.le_refl _))
  have B16 := Lib.hid (B6.out.trans (hb11.mono B6.out.size))
  clear hb11
  have M17 := Lib.hid (load_rec T12.out)
  unfold rv at M17
  have C18 := Lib.hid (fewR_any a A ca w10 OKa.out F14.out)
  unfold Rc.v at C18
  unfold rv at C18
  rw [PA.out] at C18
  go_wp2_with (first | ((with_reducible refine wpList_load_by (o := ⟨some 20, .load 43 (.tmp 3), _, _, _, _⟩) ?e1 43 (.tmp 3) ?e2 ⟨w.heap.size, 0, none⟩ ?e3 _ M17.out ?_); (case e1 => rfl); (case e2 => rfl); (case e3 => rfl)))
  refine C18.out.mono ?_
  rintro e w19 ⟨rfl, hb20⟩
  have T21 := Lib.hid (T12.out.below hb20 T12.out.lt)
  have T22 := Lib.hid (T13.out.below hb20 T13.out.lt)
  have F23 := Lib.hid (F14.out.below hb20 (Nat.le_refl _))
  have F24 := Lib.hid (F15.out.below hb20 (Nat.le_refl _))
  have B25 := Lib.hid (B16.out.trans (hb20.mono B16.out.size))
  clear hb20
  have M26 := Lib.hid (load_rec T22.out)
  unfold rv at M26
  have C27 := Lib.hid (fewR_any b B cb w19 OKb.out F24.out)
  unfold Rc.v at C27
  unfold rv at C27
  rw [PB.out] at C27
  go_wp2_with (first | ((with_reducible refine wpList_load_by (o := ⟨some 22, .load 43 (.tmp 4), _, _, _, _⟩) ?e1 43 (.tmp 4) ?e2 ⟨(w.heap.size + 1), 0, none⟩ ?e3 _ M26.out ?_); (case e1 => rfl); (case e2 => rfl); (case e3 => rfl)))
  refine C27.out.mono ?_
  rintro e w28 ⟨rfl, hb29⟩
  have T30 := Lib.hid (T21.out.below hb29 T21.out.lt)
  have T31 := Lib.hid (T22.out.below hb29 T22.out.lt)
  have F32 := Lib.hid (F23.out.below hb29 (Nat.le_refl _))
  have F33 := Lib.hid (F24.out.below hb29 (Nat.le_refl _))
  have B34 := Lib.hid (B25.out.trans (hb29.mono B25.out.size))
  clear hb29
  have M38 := Lib.hid (load_rec T30.out)
  unfold rv at M38
  have M39 := Lib.hid (load_rec T31.out)
  unfold rv at M39
  have C40 := Lib.hid (join_any a b A B ca cb w28 (HLA.out _ B34.out) OKa.out OKb.out F32.out F33.out)
  unfold JoinPost Rc.v at C40
  unfold rv at C40
  rw [JV.out] at C40
  dsimp only [Option.getD, Option.isSome] at C40
  go_wp2_with (first | ((with_reducible refine wpList_load_by (o := ⟨some 25, .load 43 (.tmp 3), _, _, _, _⟩) ?e1 43 (.tmp 3) ?e2 ⟨w.heap.size, 0, none⟩ ?e3 _ M38.out ?_); (case e1 => rfl); (case e2 => rfl); (case e3 => rfl)) | ((with_reducible refine wpList_load_by (o := ⟨some 26, .load 43 (.tmp 4), _, _, _, _⟩) ?e1 43 (.tmp 4) ?e2 ⟨(w.heap.size + 1), 0, none⟩ ?e3 _ M39.out ?_); (case e1 => rfl); (case e2 => rfl); (case e3 => rfl)))
  refine C40.out.mono ?_
  rintro e w41 ⟨A35, c36, rfl, hf37, hb42⟩
  have T43 := Lib.hid (T30.out.below hb42 T30.out.lt)
  have T44 := Lib.hid (T31.out.below hb42 T31.out.lt)
  have F45 := Lib.hid (F32.out.below hb42 (Nat.le_refl _))
  have F46 := Lib.hid (F33.out.below hb42 (Nat.le_refl _))
  have B47 := Lib.hid (B34.out.trans (hb42.mono B34.out.size))
  clear hb42
  have F48 := Lib.hid (hf37)
  clear hf37
  go_wp2_with (first | ((with_reducible refine wpList_store_new (o := ⟨none, .store 43 (.tmp 10) (.tmp 28), _, _, _, _⟩) (w := w41) ?e1 (.tmp 10) (.tmp 28) ?e2 w41.heap.size rfl ?e3 j.z j.n j.r (.slice A35 j.fs.length c36) ?e4 OKj.out.len ?e5 ?_); (case e1 => rfl); (case e2 => rfl); (case e3 => rfl); (case e4 => rfl); (case e5 => rfl); intro w49 hb50 hRs; have T51 := Lib.hid hRs; clear hRs; have T52 := Lib.hid (T43.out.below hb50 T43.out.lt); have T53 := Lib.hid (T44.out.below hb50 T44.out.lt); have F54 := Lib.hid (F45.out.below hb50 (Nat.le_refl _)); have F55 := Lib.hid (F46.out.below hb50 (Nat.le_refl _)); have F56 := Lib.hid (F48.out.below hb50 (Nat.le_refl _)); have B57 := Lib.hid (B47.out.trans (hb50.mono B47.out.size)); clear hb50; have M58 := Lib.hid (load_rec T52.out); unfold rv at M58; have C59 := Lib.hid (find_any' a A ca no w49 OKa.out F54.out); unfold FindPost Rc.v at C59; unfold rv at C59; rw [FX.out] at C59; dsimp only [Option.getD, Option.isSome, Cel.v, cel00] at C59) | ((with_reducible refine wpList_load_by (o := ⟨some 46, .load 43 (.tmp 3), _, _, _, _⟩) ?e1 43 (.tmp 3) ?e2 ⟨w.heap.size, 0, none⟩ ?e3 _ M58.out ?_); (case e1 => rfl); (case e2 => rfl); (case e3 => rfl)))
  refine C59.out.mono ?_
  rintro e w60 ⟨rfl, hb61⟩
  have T62 := Lib.hid (T52.out.below hb61 T52.out.lt)
  have T63 := Lib.hid (T53.out.below hb61 T53.out.lt)
  have T64 := Lib.hid (T51.out.below hb61 T51.out.lt)
  have F65 := Lib.hid (F54.out.below hb61 (Nat.le_refl _))
  have F66 := Lib.hid (F55.out.below hb61 (Nat.le_refl _))
  have F67 := Lib.hid (F56.out.below hb61 (Nat.le_refl _))
  have B68 := Lib.hid (B57.out.trans (hb61.mono B57.out.size))
  clear hb61
  have hb69 := (Below.refl w60.heap.size w60).alloc (Nat.le_refl _) (.cells #[.int .i64 x.n, .int .i64 x.r, .string x.s] 25)
  have T70 := Lib.hid (ClAt.new w60 x)
  try dsimp only at T70
  have T71 := Lib.hid (T62.out.below hb69 T62.out.lt)
  have T72 := Lib.hid (T63.out.below hb69 T63.out.lt)
  have T73 := Lib.hid (T64.out.below hb69 T64.out.lt)
  have F74 := Lib.hid (F65.out.below hb69 (Nat.le_refl _))
  have F75 := Lib.hid (F66.out.below hb69 (Nat.le_refl _))
  have F76 := Lib.hid (F67.out.below hb69 (Nat.le_refl _))
  have B77 := Lib.hid (B68.out.trans (hb69.mono B68.out.size))
  clear hb69
  have M78 := Lib.hid (load_rec T72.out)
  unfold rv at M78
  have C79 := Lib.hid (find_any' b B cb no (w60.alloc (.cells #[.int .i64 x.n, .int .i64 x.r, .string x.s] 25)) OKb.out F75.out)
  unfold FindPost Rc.v at C79
  unfold rv at C79
  rw [FY.out] at C79
  dsimp only [Option.getD, Option.isSome, Cel.v, cel00] at C79
  go_wp2_with (first | ((with_reducible refine wpList_load_by (o := ⟨some 52, .load 43 (.tmp 4), _, _, _, _⟩) ?e1 43 (.tmp 4) ?e2 ⟨(w.heap.size + 1), 0, none⟩ ?e3 _ M78.out ?_); (case e1 => rfl); (case e2 => rfl); (case e3 => rfl)))
  refine C79.out.mono ?_
  rintro e w80 ⟨rfl, hb81⟩
  have T82 := Lib.hid (T71.out.below hb81 T71.out.lt)
  have T83 := Lib.hid (T72.out.below hb81 T72.out.lt)
  have T84 := Lib.hid (T73.out.below hb81 T73.out.lt)
  have T85 := Lib.hid (T70.out.below hb81 T70.out.lt)
  have F86 := Lib.hid (F74.out.below hb81 (Nat.le_refl _))
  have F87 := Lib.hid (F75.out.below hb81 (Nat.le_refl _))
  have F88 := Lib.hid (F76.out.below hb81 (Nat.le_refl _))
  have B89 := Lib.hid (B77.out.trans (hb81.mono B77.out.size))
  clear hb81
  have hb90 := (Below.refl w80.heap.size w80).alloc (Nat.le_refl _) (.cells #[.int .i64 y.n, .int .i64 y.r, .string y.s] 25)
  have T91 := Lib.hid (ClAt.new w80 y)
  try dsimp only at T91
  have T92 := Lib.hid (T82.out.below hb90 T82.out.lt)
  have T93 := Lib.hid (T83.out.below hb90 T83.out.lt)
  have T94 := Lib.hid (T84.out.below hb90 T84.out.lt)
  have T95 := Lib.hid (T85.out.below hb90 T85.out.lt)
  have F96 := Lib.hid (F86.out.below hb90 (Nat.le_refl _))
  have F97 := Lib.hid (F87.out.below hb90 (Nat.le_refl _))
  have F98 := Lib.hid (F88.out.below hb90 (Nat.le_refl _))
  have B99 := Lib.hid (B89.out.trans (hb90.mono B89.out.size))
  clear hb90
  have M100 := Lib.hid (load_rec T94.out)
  unfold rv at M100
  have C101 := Lib.hid (find_any' j A35 c36 no (w80.alloc (.cells #[.int .i64 y.n, .int .i64 y.r, .string y.s] 25)) OKj.out F98.out)
  unfold FindPost Rc.v at C101
  unfold rv at C101
  rw [FZ.out] at C101
  dsimp only [Option.getD, Option.isSome, Cel.v, cel00] at C101
  go_wp2_with (first | ((with_reducible refine wpList_load_by (o := ⟨some 58, .load 43 (.tmp 10), _, _, _, _⟩) ?e1 43 (.tmp 10) ?e2 ⟨w41.heap.size, 0, none⟩ ?e3 _ M100.out ?_); (case e1 => rfl); (case e2 => rfl); (case e3 => rfl)))
  refine C101.out.mono ?_
  rintro e w102 ⟨rfl, hb103⟩
  have T104 := Lib.hid (T92.out.below hb103 T92.out.lt)
  have T105 := Lib.hid (T93.out.below hb103 T93.out.lt)
  have T106 := Lib.hid (T94.out.below hb103 T94.out.lt)
  have T107 := Lib.hid (T95.out.below hb103 T95.out.lt)
  have T108 := Lib.hid (T91.out.below hb103 T91.out.lt)
  have F109 := Lib.hid (F96.out.below hb103 (Nat.le_refl _))
  have F110 := Lib.hid (F97.out.below hb103 (Nat.le_refl _))
  have F111 := Lib.hid (F98.out.below hb103 (Nat.le_refl _))
  have B112 := Lib.hid (B99.out.trans (hb103.mono B99.out.size))
  clear hb103
  have hb113 := (Below.refl w102.heap.size w102).alloc (Nat.le_refl _) (.cells #[.int .i64 y.n, .int .i64 y.r, .string y.s] 25)
  have T114 := Lib.hid (ClAt.new w102 y)
  try dsimp only at T114
  have T115 := Lib.hid (T104.out.below hb113 T104.out.lt)
  have T116 := Lib.hid (T105.out.below hb113 T105.out.lt)
  have T117 := Lib.hid (T106.out.below hb113 T106.out.lt)
  have T118 := Lib.hid (T107.out.below hb113 T107.out.lt)
  have T119 := Lib.hid (T108.out.below hb113 T108.out.lt)
  have F120 := Lib.hid (F109.out.below hb113 (Nat.le_refl _))
  have F121 := Lib.hid (F110.out.below hb113 (Nat.le_refl _))
  have F122 := Lib.hid (F111.out.below hb113 (Nat.le_refl _))
  have B123 := Lib.hid (B112.out.trans (hb113.mono B112.out.size))
  clear hb113
  have hxy := HXY.out
  have k120 := T118.out.c0
  have k121 := T118.out.c1
  have k122 := T118.out.c2
  have k140 := T119.out.c0
  have k141 := T119.out.c1
  have k142 := T119.out.c2
  have k160 := T114.out.c0
  have k161 := T114.out.c1
  have k162 := T114.out.c2
  have hs := cl_same y
  have hn := cl_ne hxy
  have C124 := Lib.hid (cless_any y x (w102.alloc (.cells #[.int .i64 y.n, .int .i64 y.r, .string y.s] 25)) (HLA.out _ B123.out) SZy.out SZx.out)
  unfold Cel.v at C124
  rw [Lyx.out] at C124
  go_wp2_with fail
  refine C124.out.mono ?_
  rintro e w125 ⟨rfl, hb126⟩
  have T127 := Lib.hid (T115.out.below hb126 T115.out.lt)
  have T128 := Lib.hid (T116.out.below hb126 T116.out.lt)
  have T129 := Lib.hid (T117.out.below hb126 T117.out.lt)
  have T130 := Lib.hid (T118.out.below hb126 T118.out.lt)
  have T131 := Lib.hid (T119.out.below hb126 T119.out.lt)
  have T132 := Lib.hid (T114.out.below hb126 T114.out.lt)
  have F133 := Lib.hid (F120.out.below hb126 (Nat.le_refl _))
  have F134 := Lib.hid (F121.out.below hb126 (Nat.le_refl _))
  have F135 := Lib.hid (F122.out.below hb126 (Nat.le_refl _))
  have B136 := Lib.hid (B123.out.trans (hb126.mono B123.out.size))
  clear hb126
  clear k120 k121 k122 k140 k141 k142 k160 k161 k162 hs hn
  have k120 := T130.out.c0
  have k121 := T130.out.c1
  have k122 := T130.out.c2
  have k140 := T131.out.c0
  have k141 := T131.out.c1
  have k142 := T131.out.c2
  have k160 := T132.out.c0
  have k161 := T132.out.c1
  have k162 := T132.out.c2
  have C137 := Lib.hid (cless_any y y w125 (HLA.out _ B136.out) SZy.out SZy.out)
  unfold Cel.v at C137
  rw [Lyy.out] at C137
  go_wp2_with fail
  refine C137.out.mono ?_
  rintro e w138 ⟨rfl, hb139⟩
  have T140 := Lib.hid (T127.out.below hb139 T127.out.lt)
  have T141 := Lib.hid (T128.out.below hb139 T128.out.lt)
  have T142 := Lib.hid (T129.out.below hb139 T129.out.lt)
  have T143 := Lib.hid (T130.out.below hb139 T130.out.lt)
  have T144 := Lib.hid (T131.out.below hb139 T131.out.lt)
  have T145 := Lib.hid (T132.out.below hb139 T132.out.lt)
  have F146 := Lib.hid (F133.out.below hb139 (Nat.le_refl _))
  have F147 := Lib.hid (F134.out.below hb139 (Nat.le_refl _))
  have F148 := Lib.hid (F135.out.below hb139 (Nat.le_refl _))
  have B149 := Lib.hid (B136.out.trans (hb139.mono B136.out.size))
  clear hb139
  clear k120 k121 k122 k140 k141 k142 k160 k161 k162
  have k120 := T143.out.c0
  have k121 := T143.out.c1
  have k122 := T143.out.c2
  have k140 := T144.out.c0
  have k141 := T144.out.c1
  have k142 := T144.out.c2
  have k160 := T145.out.c0
  have k161 := T145.out.c1
  have k162 := T145.out.c2
  clear k120 k121 k122 k140 k141 k142 k160 k161 k162
  have d6 := T142.out.c16
  have d7 := T142.out.c17
  have k120 := T143.out.c0
  have k121 := T143.out.c1
  have k122 := T143.out.c2
  have k140 := T144.out.c0
  have k141 := T144.out.c1
  have k142 := T144.out.c2
  have C150 := Lib.hid (stLess_any j.n j.r x.n x.r w138)
  unfold st at C150
  rw [Sx.out] at C150
  go_wp2_with fail
  refine C150.out.mono ?_
  rintro e w151 ⟨rfl, hb152⟩
  have T153 := Lib.hid (T140.out.below hb152 T140.out.lt)
  have T154 := Lib.hid (T141.out.below hb152 T141.out.lt)
  have T155 := Lib.hid (T142.out.below hb152 T142.out.lt)
  have T156 := Lib.hid (T143.out.below hb152 T143.out.lt)
  have T157 := Lib.hid (T144.out.below hb152 T144.out.lt)
  have T158 := Lib.hid (T145.out.below hb152 T145.out.lt)
  have F159 := Lib.hid (F146.out.below hb152 (Nat.le_refl _))
  have F160 := Lib.hid (F147.out.below hb152 (Nat.le_refl _))
  have F161 := Lib.hid (F148.out.below hb152 (Nat.le_refl _))
  have B162 := Lib.hid (B149.out.trans (hb152.mono B149.out.size))
  clear hb152
  clear d6 d7 k120 k121 k122 k140 k141 k142
  have U163 := Lib.hid (fun (w9 : World) => max_any (a.n, a.r) (b.n, b.r) w9)
  rw [MXJ.out] at U163
  unfold st at U163
  dsimp only at U163
  go_wp2_with fail
  refine wp_region_G w151 (by kernel_rfl) ?_
  refine wpG_take (i := 0) (oi := ⟨some 118, _, _, _, _, _⟩) (v := ?_) rfl (by kernel_rfl) (by kernel_rfl) (by kernel_rfl) (Or.inl ⟨by rfl, unib_val ?_⟩) ?_; rotate_left; (focus (intro w9 hSw; go_simp; try with_reducible rfl)); simp only [Act.put, List.setIfInBounds_toArray, List.set_cons_zero, List.set_cons_succ]
  refine wpG_take (i := 1) (oi := ⟨some 119, _, _, _, _, _⟩) (v := ?_) rfl (by kernel_rfl) (by kernel_rfl) (by kernel_rfl) (Or.inl ⟨by rfl, unib_val ?_⟩) ?_; rotate_left; (focus (intro w9 hSw; go_simp; try with_reducible rfl)); simp only [Act.put, List.setIfInBounds_toArray, List.set_cons_zero, List.set_cons_succ]
  refine wpG_take (i := 2) (oi := ⟨some 120, _, _, _, _, _⟩) (v := ?_) rfl (by kernel_rfl) (by kernel_rfl) (by kernel_rfl) (Or.inl ⟨by rfl, unib_val ?_⟩) ?_; rotate_left; (focus (intro w9 hSw; go_simp; try with_reducible rfl)); simp only [Act.put, List.setIfInBounds_toArray, List.set_cons_zero, List.set_cons_succ]
  refine wpG_take (i := 3) (oi := ⟨some 121, _, _, _, _, _⟩) (v := ?_) rfl (by kernel_rfl) (by kernel_rfl) (by kernel_rfl) (Or.inl ⟨by rfl, unib_val ?_⟩) ?_; rotate_left; (focus (intro w9 hSw; go_simp; try with_reducible rfl)); simp only [Act.put, List.setIfInBounds_toArray, List.set_cons_zero, List.set_cons_succ]
  refine wpG_take (i := 4) (oi := ⟨some 122, _, _, _, _, _⟩) (v := ?_) rfl (by kernel_rfl) (by kernel_rfl) (by kernel_rfl) (Or.inl ⟨by rfl, unib_val ?_⟩) ?_; rotate_left; (focus (intro w9 hSw; go_simp; try with_reducible rfl)); simp only [Act.put, List.setIfInBounds_toArray, List.set_cons_zero, List.set_cons_succ]
  refine wpG_take (i := 5) (oi := ⟨some 123, _, _, _, _, _⟩) (v := ?_) rfl (by kernel_rfl) (by kernel_rfl) (by kernel_rfl) (Or.inl ⟨by rfl, unib_val ?_⟩) ?_; rotate_left; (focus (intro w9 hSw; have q9 := T155.out.below hSw T155.out.lt; have q0 := q9.c16; have q1 := q9.c17; go_simp; try with_reducible rfl)); simp only [Act.put, List.setIfInBounds_toArray, List.set_cons_zero, List.set_cons_succ]
  refine wpG_take (i := 6) (oi := ⟨some 124, _, _, _, _, _⟩) (v := ?_) rfl (by kernel_rfl) (by kernel_rfl) (by kernel_rfl) (Or.inl ⟨by rfl, unib_val ?_⟩) ?_; rotate_left; (focus (intro w9 hSw; go_simp; try with_reducible rfl)); simp only [Act.put, List.setIfInBounds_toArray, List.set_cons_zero, List.set_cons_succ]
  refine wpG_take (i := 7) (oi := ⟨some 125, _, _, _, _, _⟩) (v := ?_) rfl (by kernel_rfl) (by kernel_rfl) (by kernel_rfl) (Or.inl ⟨by rfl, unib_val ?_⟩) ?_; rotate_left; (focus (intro w9 hSw; have q9 := T153.out.below hSw T153.out.lt; have q0 := q9.c16; have q1 := q9.c17; go_simp; try with_reducible rfl)); simp only [Act.put, List.setIfInBounds_toArray, List.set_cons_zero, List.set_cons_succ]
  refine wpG_take (i := 8) (oi := ⟨some 126, _, _, _, _, _⟩) (v := ?_) rfl (by kernel_rfl) (by kernel_rfl) (by kernel_rfl) (Or.inl ⟨by rfl, unib_val ?_⟩) ?_; rotate_left; (focus (intro w9 hSw; go_simp; try with_reducible rfl)); simp only [Act.put, List.setIfInBounds_toArray, List.set_cons_zero, List.set_cons_succ]
  refine wpG_take (i := 9) (oi := ⟨some 127, _, _, _, _, _⟩) (v := ?_) rfl (by kernel_rfl) (by kernel_rfl) (by kernel_rfl) (Or.inl ⟨by rfl, unib_val ?_⟩) ?_; rotate_left; (focus (intro w9 hSw; have q9 := T154.out.below hSw T154.out.lt; have q0 := q9.c16; have q1 := q9.c17; go_simp; try with_reducible rfl)); simp only [Act.put, List.setIfInBounds_toArray, List.set_cons_zero, List.set_cons_succ]
  refine wpG_take (i := 10) (oi := ⟨some 128, _, _, _, _, _⟩) rfl (by kernel_rfl) (by kernel_rfl) (by kernel_rfl) (Or.inl ⟨by rfl, unib_call ?_ U163.out⟩) ?_; (focus (intro w9 hSw; go_simp; try with_reducible rfl)); simp only [Act.put, List.setIfInBounds_toArray, List.set_cons_zero, List.set_cons_succ]
  refine wpG_take (i := 11) (oi := ⟨some 129, _, _, _, _, _⟩) (v := ?_) rfl (by kernel_rfl) (by kernel_rfl) (by kernel_rfl) (Or.inl ⟨by rfl, unib_val ?_⟩) ?_; rotate_left; (focus (intro w9 hSw; go_simp; try with_reducible rfl)); simp only [Act.put, List.setIfInBounds_toArray, List.set_cons_zero, List.set_cons_succ]
  refine wpG_take (i := 12) (oi := ⟨some 130, _, _, _, _, _⟩) (v := ?_) rfl (by kernel_rfl) (by kernel_rfl) (by kernel_rfl) (Or.inl ⟨by rfl, unib_val ?_⟩) ?_; rotate_left; (focus (intro w9 hSw; go_simp; try with_reducible rfl)); simp only [Act.put, List.setIfInBounds_toArray, List.set_cons_zero, List.set_cons_succ]
  refine wpG_take (i := 13) (oi := ⟨some 131, _, _, _, _, _⟩) (v := ?_) rfl (by kernel_rfl) (by kernel_rfl) (by kernel_rfl) (Or.inl ⟨by rfl, unib_val ?_⟩) ?_; rotate_left; (focus (intro w9 hSw; go_simp; try with_reducible rfl)); simp only [Act.put, List.setIfInBounds_toArray, List.set_cons_zero, List.set_cons_succ]
  refine wpG_take (i := 14) (oi := ⟨some 132, _, _, _, _, _⟩) (v := ?_) rfl (by kernel_rfl) (by kernel_rfl) (by kernel_rfl) (Or.inl ⟨by rfl, unib_val ?_⟩) ?_; rotate_left; (focus (intro w9 hSw; go_simp; try with_reducible rfl)); simp only [Act.put, List.setIfInBounds_toArray, List.set_cons_zero, List.set_cons_succ]
  refine wpG_take (i := 15) (oi := ⟨some 133, _, _, _, _, _⟩) (v := (.agg (bvals j.z))) rfl (by kernel_rfl) (by kernel_rfl) (by kernel_rfl) (Or.inl ⟨by rfl, unib_val ?_⟩) ?_; (focus (intro w9 hSw; exact exec_load_by 40 _ rfl ⟨w41.heap.size, 0, none⟩ rfl (load_id (T155.out.below hSw T155.out.lt)))); simp only [Act.put, List.setIfInBounds_toArray, List.set_cons_zero, List.set_cons_succ]
  refine wpG_take (i := 16) (oi := ⟨some 134, _, _, _, _, _⟩) (v := ?_) rfl (by kernel_rfl) (by kernel_rfl) (by kernel_rfl) (Or.inl ⟨by rfl, unib_val ?_⟩) ?_; rotate_left; (focus (intro w9 hSw; go_simp; try with_reducible rfl)); simp only [Act.put, List.setIfInBounds_toArray, List.set_cons_zero, List.set_cons_succ]
  refine wpG_take (i := 17) (oi := ⟨some 135, _, _, _, _, _⟩) (v := (.agg (bvals a.z))) rfl (by kernel_rfl) (by kernel_rfl) (by kernel_rfl) (Or.inl ⟨by rfl, unib_val ?_⟩) ?_; (focus (intro w9 hSw; exact exec_load_by 40 _ rfl ⟨w.heap.size, 0, none⟩ rfl (load_id (T153.out.below hSw T153.out.lt)))); simp only [Act.put, List.setIfInBounds_toArray, List.set_cons_zero, List.set_cons_succ]
  refine wpG_take (i := 18) (oi := ⟨some 136, _, _, _, _, _⟩) (v := ?_) rfl (by kernel_rfl) (by kernel_rfl) (by kernel_rfl) (Or.inl ⟨by rfl, unib_val ?_⟩) ?_; rotate_left; (focus (intro w9 hSw; have q0 := HE.out w9; go_simp; try with_reducible rfl)); simp only [Act.put, List.setIfInBounds_toArray, List.set_cons_zero, List.set_cons_succ]
  refine wpG_take (i := 19) (oi := ⟨some 137, _, _, _, _, _⟩) (v := ?_) rfl (by kernel_rfl) (by kernel_rfl) (by kernel_rfl) (Or.inl ⟨by rfl, unib_val ?_⟩) ?_; rotate_left; (focus (intro w9 hSw; go_simp; try with_reducible rfl)); simp only [Act.put, List.setIfInBounds_toArray, List.set_cons_zero, List.set_cons_succ]
  refine wpG_take (i := 20) (oi := ⟨some 6, _, _, _, _, _⟩) (v := ?_) rfl (by kernel_rfl) (by kernel_rfl) (by kernel_rfl) (Or.inl ⟨by rfl, unib_val ?_⟩) ?_; rotate_left; (focus (intro w9 hSw; go_simp; try with_reducible rfl)); simp only [Act.put, List.setIfInBounds_toArray, List.set_cons_zero, List.set_cons_succ]
  refine wpG_done (by kernel_rfl) ?_ _
  intro w9 hSw _
  go_wp2
  go_ret
  exact ⟨rfl, B162.out.trans (hSw.mono B162.out.size)⟩
set_option maxHeartbeats 16000000 in
theorem cells_y110 (a : Rc) (A : Option Addr) (ca : Nat) (b : Rc) (B : Option Addr) (cb : Nat) (no : Int) (w : World) (hlaid : Laid w) (wa : IsRec w a A ca) (wb : IsRec w b B cb) (pa : fewR a.fs = true) (pb : fewR b.fs = true) (j : Rc) (jv : a.join b = some j) (mxj : mx (a.n, a.r) (b.n, b.r) = (j.n, j.r)) (jz : j.z = a.z) (x : Cel) (y : Cel) (fx : rfind a.fs no = some x) (fy : rfind b.fs no = some y) (fz : rfind j.fs no = some y) (zx : x.s.size ≤ 300) (zy : y.s.size ≤ 300) (lx : cless y x = false) (ly : cless y y = false) (hxy : ¬ y = x) (sx : stLess j.n j.r x.n x.r = false) (sy : stLess j.n j.r y.n y.r = true) :
    Calls Tryd.prog 9 #[a.v A ca, b.v B cb, .int .i64 no] w fun e w' => e = .returned (.bool true) ∧ Below w.heap.size w w' := by
  have HLA := Lib.hid (fun (X : World) (hX : Below w.heap.size w X) => hlaid.below hX (Nat.le_refl _))
  have OKa := Lib.hid wa.1
  have OKb := Lib.hid wb.1
  have Fa := Lib.hid wa.2.1
  have Fb := Lib.hid wb.2.1
  have hz := zeroRec
  unfold rv at hz
  conv => congr; rfl; rfl; (unfold Rc.v rv)
  have PA := Lib.hid pa
  have PB := Lib.hid pb
  have JV := Lib.hid jv
  have MXJ := Lib.hid mxj
  have OKj := Lib.hid (Rc.join_ok wa.1 jv)
  have HE := Lib.hid (show ∀ w9 : World, (Op.equalIn 10000 40 (.agg (bvals j.z)) (.agg (bvals a.z))).run Tryd.prog w9 = .ok true w9 from fun w9 => by
    have := eq_id (Rc.join_ok wa.1 jv).2 wa.1.2 (Rc.join_ok wa.1 jv).1 wa.1.1 w9
    rwa [show (j.z == a.z) = true by rw [beq_iff_eq]; exact jz] at this)
  clear hlaid wa wb pa pb jv mxj jz
  have FX := Lib.hid fx
  have FY := Lib.hid fy
  have FZ := Lib.hid fz
  have SZx := Lib.hid zx
  have SZy := Lib.hid zy
  have Lyx := Lib.hid lx
  have Lyy := Lib.hid ly
  have HXY := Lib.hid hxy
  have Sx := Lib.hid sx
  have Sy := Lib.hid sy
  clear fx fy fz zx zy lx ly hxy sx sy
  have B1 := Lib.hid (Below.refl w.heap.size w)
  have T2n := RcAt.new w OKa.out.len a.n a.r (.slice A a.fs.length ca)
  have T2 := Lib.hid (T2n)
  clear T2n
  have B3 := Lib.hid (B1.out.alloc B1.out.size (.cells (rcells a.z a.n a.r (.slice A a.fs.length ca)) 43))
  have T4 := Lib.hid (T2.out.old (.cells (rcells b.z b.n b.r (.slice B b.fs.length cb)) 43))
  have T5n := RcAt.new (w.alloc (.cells (rcells a.z a.n a.r (.slice A a.fs.length ca)) 43)) OKb.out.len b.n b.r (.slice B b.fs.length cb)
  simp only [World.size_alloc] at T5n
  have T5 := Lib.hid (T5n)
  clear T5n
  have B6 := Lib.hid (B3.out.alloc B3.out.size (.cells (rcells b.z b.n b.r (.slice B b.fs.length cb)) 43))
  have F7 := Lib.hid (Fa.out.below B6.out (Nat.le_refl _))
  have F8 := Lib.hid (Fb.out.below B6.out (Nat.le_refl _))
  go_enter Tryd.func9, Tryd.ntmps9
  have C9 := Lib.hid (rcAwake ((w.alloc (.cells (rcells a.z a.n a.r (.slice A a.fs.length ca)) 43)).alloc (.cells (rcells b.z b.n b.r (.slice B b.fs.length cb)) 43)) (HLA.out _ B6.out))
  go_wp2_with fail
  refine C9.out.mono ?_
  rintro e w10 ⟨rfl, hb11⟩
  have T12 := Lib.hid (T4.out.below hb11 T4.out.lt)
  have T13 := Lib.hid (T5.out.below hb11 T5.out.lt)
  have F14 := Lib.hid (F7.out.below hb11 (Nat.le_refl _))
  have F15 := Lib.hid (F8.out.below hb11 (Nat.le_refl _))
  have B16 := Lib.hid (B6.out.trans (hb11.mono B6.out.size))
  clear hb11
  have M17 := Lib.hid (load_rec T12.out)
  unfold rv at M17
  have C18 := Lib.hid (fewR_any a A ca w10 OKa.out F14.out)
  unfold Rc.v at C18
  unfold rv at C18
  rw [PA.out] at C18
  go_wp2_with (first | ((with_reducible refine wpList_load_by (o := ⟨some 20, .load 43 (.tmp 3), _, _, _, _⟩) ?e1 43 (.tmp 3) ?e2 ⟨w.heap.size, 0, none⟩ ?e3 _ M17.out ?_); (case e1 => rfl); (case e2 => rfl); (case e3 => rfl)))
  refine C18.out.mono ?_
  rintro e w19 ⟨rfl, hb20⟩
  have T21 := Lib.hid (T12.out.below hb20 T12.out.lt)
  have T22 := Lib.hid (T13.out.below hb20 T13.out.lt)
  have F23 := Lib.hid (F14.out.below hb20 (Nat.le_refl _))
  have F24 := Lib.hid (F15.out.below hb20 (Nat.le_refl _))
  have B25 := Lib.hid (B16.out.trans (hb20.mono B16.out.size))
  clear hb20
  have M26 := Lib.hid (load_rec T22.out)
  unfold rv at M26
  have C27 := Lib.hid (fewR_any b B cb w19 OKb.out F24.out)
  unfold Rc.v at C27
  unfold rv at C27
  rw [PB.out] at C27
  go_wp2_with (first | ((with_reducible refine wpList_load_by (o := ⟨some 22, .load 43 (.tmp 4), _, _, _, _⟩) ?e1 43 (.tmp 4) ?e2 ⟨(w.heap.size + 1), 0, none⟩ ?e3 _ M26.out ?_); (case e1 => rfl); (case e2 => rfl); (case e3 => rfl)))
  refine C27.out.mono ?_
  rintro e w28 ⟨rfl, hb29⟩
  have T30 := Lib.hid (T21.out.below hb29 T21.out.lt)
  have T31 := Lib.hid (T22.out.below hb29 T22.out.lt)
  have F32 := Lib.hid (F23.out.below hb29 (Nat.le_refl _))
  have F33 := Lib.hid (F24.out.below hb29 (Nat.le_refl _))
  have B34 := Lib.hid (B25.out.trans (hb29.mono B25.out.size))
  clear hb29
  have M38 := Lib.hid (load_rec T30.out)
  unfold rv at M38
  have M39 := Lib.hid (load_rec T31.out)
  unfold rv at M39
  have C40 := Lib.hid (join_any a b A B ca cb w28 (HLA.out _ B34.out) OKa.out OKb.out F32.out F33.out)
  unfold JoinPost Rc.v at C40
  unfold rv at C40
  rw [JV.out] at C40
  dsimp only [Option.getD, Option.isSome] at C40
  go_wp2_with (first | ((with_reducible refine wpList_load_by (o := ⟨some 25, .load 43 (.tmp 3), _, _, _, _⟩) ?e1 43 (.tmp 3) ?e2 ⟨w.heap.size, 0, none⟩ ?e3 _ M38.out ?_); (case e1 => rfl); (case e2 => rfl); (case e3 => rfl)) | ((with_reducible refine wpList_load_by (o := ⟨some 26, .load 43 (.tmp 4), _, _, _, _⟩) ?e1 43 (.tmp 4) ?e2 ⟨(w.heap.size + 1), 0, none⟩ ?e3 _ M39.out ?_); (case e1 => rfl); (case e2 => rfl); (case e3 => rfl)))
  refine C40.out.mono ?_
  rintro e w41 ⟨A35, c36, rfl, hf37, hb42⟩
  have T43 := Lib.hid (T30.out.below hb42 T30.out.lt)
  have T44 := Lib.hid (T31.out.below hb42 T31.out.lt)
  have F45 := Lib.hid (F32.out.below hb42 (Nat.le_refl _))
  have F46 := Lib.hid (F33.out.below hb42 (Nat.le_refl _))
  have B47 := Lib.hid (B34.out.trans (hb42.mono B34.out.size))
  clear hb42
  have F48 := Lib.hid (hf37)
  clear hf37
  go_wp2_with (first | ((with_reducible refine wpList_store_new (o := ⟨none, .store 43 (.tmp 10) (.tmp 28), _, _, _, _⟩) (w := w41) ?e1 (.tmp 10) (.tmp 28) ?e2 w41.heap.size rfl ?e3 j.z j.n j.r (.slice A35 j.fs.length c36) ?e4 OKj.out.len ?e5 ?_); (case e1 => rfl); (case e2 => rfl); (case e3 => rfl); (case e4 => rfl); (case e5 => rfl); intro w49 hb50 hRs; have T51 := Lib.hid hRs; clear hRs; have T52 := Lib.hid (T43.out.below hb50 T43.out.lt); have T53 := Lib.hid (T44.out.below hb50 T44.out.lt); have F54 := Lib.hid (F45.out.below hb50 (Nat.le_refl _)); have F55 := Lib.hid (F46.out.below hb50 (Nat.le_refl _)); have F56 := Lib.hid (F48.out.below hb50 (Nat.le_refl _)); have B57 := Lib.hid (B47.out.trans (hb50.mono B47.out.size)); clear hb50; have M58 := Lib.hid (load_rec T52.out); unfold rv at M58; have C59 := Lib.hid (find_any' a A ca no w49 OKa.out F54.out); unfold FindPost Rc.v at C59; unfold rv at C59; rw [FX.out] at C59; dsimp only [Option.getD, Option.isSome, Cel.v, cel00] at C59) | ((with_reducible refine wpList_load_by (o := ⟨some 46, .load 43 (.tmp 3), _, _, _, _⟩) ?e1 43 (.tmp 3) ?e2 ⟨w.heap.size, 0, none⟩ ?e3 _ M58.out ?_); (case e1 => rfl); (case e2 => rfl); (case e3 => rfl)))
  refine C59.out.mono ?_
  rintro e w60 ⟨rfl, hb61⟩
  have T62 := Lib.hid (T52.out.below hb61 T52.out.lt)
  have T63 := Lib.hid (T53.out.below hb61 T53.out.lt)
  have T64 := Lib.hid (T51.out.below hb61 T51.out.lt)
  have F65 := Lib.hid (F54.out.below hb61 (Nat.le_refl _))
  have F66 := Lib.hid (F55.out.below hb61 (Nat.le_refl _))
  have F67 := Lib.hid (F56.out.below hb61 (Nat.le_refl _))
  have B68 := Lib.hid (B57.out.trans (hb61.mono B57.out.size))
  clear hb61
  have hb69 := (Below.refl w60.heap.size w60).alloc (Nat.le_refl _) (.cells #[.int .i64 x.n, .int .i64 x.r, .string x.s] 25)
  have T70 := Lib.hid (ClAt.new w60 x)
  try dsimp only at T70
  have T71 := Lib.hid (T62.out.below hb69 T62.out.lt)
  have T72 := Lib.hid (T63.out.below hb69 T63.out.lt)
  have T73 := Lib.hid (T64.out.below hb69 T64.out.lt)
  have F74 := Lib.hid (F65.out.below hb69 (Nat.le_refl _))
  have F75 := Lib.hid (F66.out.below hb69 (Nat.le_refl _))
  have F76 := Lib.hid (F67.out.below hb69 (Nat.le_refl _))
  have B77 := Lib.hid (B68.out.trans (hb69.mono B68.out.size))
  clear hb69
  have M78 := Lib.hid (load_rec T72.out)
  unfold rv at M78
  have C79 := Lib.hid (find_any' b B cb no (w60.alloc (.cells #[.int .i64 x.n, .int .i64 x.r, .string x.s] 25)) OKb.out F75.out)
  unfold FindPost Rc.v at C79
  unfold rv at C79
  rw [FY.out] at C79
  dsimp only [Option.getD, Option.isSome, Cel.v, cel00] at C79
  go_wp2_with (first | ((with_reducible refine wpList_load_by (o := ⟨some 52, .load 43 (.tmp 4), _, _, _, _⟩) ?e1 43 (.tmp 4) ?e2 ⟨(w.heap.size + 1), 0, none⟩ ?e3 _ M78.out ?_); (case e1 => rfl); (case e2 => rfl); (case e3 => rfl)))
  refine C79.out.mono ?_
  rintro e w80 ⟨rfl, hb81⟩
  have T82 := Lib.hid (T71.out.below hb81 T71.out.lt)
  have T83 := Lib.hid (T72.out.below hb81 T72.out.lt)
  have T84 := Lib.hid (T73.out.below hb81 T73.out.lt)
  have T85 := Lib.hid (T70.out.below hb81 T70.out.lt)
  have F86 := Lib.hid (F74.out.below hb81 (Nat.le_refl _))
  have F87 := Lib.hid (F75.out.below hb81 (Nat.le_refl _))
  have F88 := Lib.hid (F76.out.below hb81 (Nat.le_refl _))
  have B89 := Lib.hid (B77.out.trans (hb81.mono B77.out.size))
  clear hb81
  have hb90 := (Below.refl w80.heap.size w80).alloc (Nat.le_refl _) (.cells #[.int .i64 y.n, .int .i64 y.r, .string y.s] 25)
  have T91 := Lib.hid (ClAt.new w80 y)
  try dsimp only at T91
  have T92 := Lib.hid (T82.out.below hb90 T82.out.lt)
  have T93 := Lib.hid (T83.out.below hb90 T83.out.lt)
  have T94 := Lib.hid (T84.out.below hb90 T84.out.lt)
  have T95 := Lib.hid (T85.out.below hb90 T85.out.lt)
  have F96 := Lib.hid (F86.out.below hb90 (Nat.le_refl _))
  have F97 := Lib.hid (F87.out.below hb90 (Nat.le_refl _))
  have F98 := Lib.hid (F88.out.below hb90 (Nat.le_refl _))
  have B99 := Lib.hid (B89.out.trans (hb90.mono B89.out.size))
  clear hb90
  have M100 := Lib.hid (load_rec T94.out)
  unfold rv at M100
  have C101 := Lib.hid (find_any' j A35 c36 no (w80.alloc (.cells #[.int .i64 y.n, .int .i64 y.r, .string y.s] 25)) OKj.out F98.out)
  unfold FindPost Rc.v at C101
  unfold rv at C101
  rw [FZ.out] at C101
  dsimp only [Option.getD, Option.isSome, Cel.v, cel00] at C101
  go_wp2_with (first | ((with_reducible refine wpList_load_by (o := ⟨some 58, .load 43 (.tmp 10), _, _, _, _⟩) ?e1 43 (.tmp 10) ?e2 ⟨w41.heap.size, 0, none⟩ ?e3 _ M100.out ?_); (case e1 => rfl); (case e2 => rfl); (case e3 => rfl)))
  refine C101.out.mono ?_
  rintro e w102 ⟨rfl, hb103⟩
  have T104 := Lib.hid (T92.out.below hb103 T92.out.lt)
  have T105 := Lib.hid (T93.out.below hb103 T93.out.lt)
  have T106 := Lib.hid (T94.out.below hb103 T94.out.lt)
  have T107 := Lib.hid (T95.out.below hb103 T95.out.lt)
  have T108 := Lib.hid (T91.out.below hb103 T91.out.lt)
  have F109 := Lib.hid (F96.out.below hb103 (Nat.le_refl _))
  have F110 := Lib.hid (F97.out.below hb103 (Nat.le_refl _))
  have F111 := Lib.hid (F98.out.below hb103 (Nat.le_refl _))
  have B112 := Lib.hid (B99.out.trans (hb103.mono B99.out.size))
  clear hb103
  have hb113 := (Below.refl w102.heap.size w102).alloc (Nat.le_refl _) (.cells #[.int .i64 y.n, .int .i64 y.r, .string y.s] 25)
  have T114 := Lib.hid (ClAt.new w102 y)
  try dsimp only at T114
  have T115 := Lib.hid (T104.out.below hb113 T104.out.lt)
  have T116 := Lib.hid (T105.out.below hb113 T105.out.lt)
  have T117 := Lib.hid (T106.out.below hb113 T106.out.lt)
  have T118 := Lib.hid (T107.out.below hb113 T107.out.lt)
  have T119 := Lib.hid (T108.out.below hb113 T108.out.lt)
  have F120 := Lib.hid (F109.out.below hb113 (Nat.le_refl _))
  have F121 := Lib.hid (F110.out.below hb113 (Nat.le_refl _))
  have F122 := Lib.hid (F111.out.below hb113 (Nat.le_refl _))
  have B123 := Lib.hid (B112.out.trans (hb113.mono B112.out.size))
  clear hb113
  have hxy := HXY.out
  have k120 := T118.out.c0
  have k121 := T118.out.c1
  have k122 := T118.out.c2
  have k140 := T119.out.c0
  have k141 := T119.out.c1
  have k142 := T119.out.c2
  have k160 := T114.out.c0
  have k161 := T114.out.c1
  have k162 := T114.out.c2
  have hs := cl_same y
  have hn := cl_ne hxy
  have C124 := Lib.hid (cless_any y x (w102.alloc (.cells #[.int .i64 y.n, .int .i64 y.r, .string y.s] 25)) (HLA.out _ B123.out) SZy.out SZx.out)
  unfold Cel.v at C124
  rw [Lyx.out] at C124
  go_wp2_with fail
  refine C124.out.mono ?_
  rintro e w125 ⟨rfl, hb126⟩
  have T127 := Lib.hid (T115.out.below hb126 T115.out.lt)
  have T128 := Lib.hid (T116.out.below hb126 T116.out.lt)
  have T129 := Lib.hid (T117.out.below hb126 T117.out.lt)
  have T130 := Lib.hid (T118.out.below hb126 T118.out.lt)
  have T131 := Lib.hid (T119.out.below hb126 T119.out.lt)
  have T132 := Lib.hid (T114.out.below hb126 T114.out.lt)
  have F133 := Lib.hid (F120.out.below hb126 (Nat.le_refl _))
  have F134 := Lib.hid (F121.out.below hb126 (Nat.le_refl _))
  have F135 := Lib.hid (F122.out.below hb126 (Nat.le_refl _))
  have B136 := Lib.hid (B123.out.trans (hb126.mono B123.out.size))
  clear hb126
  clear k120 k121 k122 k140 k141 k142 k160 k161 k162 hs hn
  have k120 := T130.out.c0
  have k121 := T130.out.c1
  have k122 := T130.out.c2
  have k140 := T131.out.c0
  have k141 := T131.out.c1
  have k142 := T131.out.c2
  have k160 := T132.out.c0
  have k161 := T132.out.c1
  have k162 := T132.out.c2
  have C137 := Lib.hid (cless_any y y w125 (HLA.out _ B136.out) SZy.out SZy.out)
  unfold Cel.v at C137
  rw [Lyy.out] at C137
  go_wp2_with fail
  refine C137.out.mono ?_
  rintro e w138 ⟨rfl, hb139⟩
  have T140 := Lib.hid (T127.out.below hb139 T127.out.lt)
  have T141 := Lib.hid (T128.out.below hb139 T128.out.lt)
  have T142 := Lib.hid (T129.out.below hb139 T129.out.lt)
  have T143 := Lib.hid (T130.out.below hb139 T130.out.lt)
  have T144 := Lib.hid (T131.out.below hb139 T131.out.lt)
  have T145 := Lib.hid (T132.out.below hb139 T132.out.lt)
  have F146 := Lib.hid (F133.out.below hb139 (Nat.le_refl _))
  have F147 := Lib.hid (F134.out.below hb139 (Nat.le_refl _))
  have F148 := Lib.hid (F135.out.below hb139 (Nat.le_refl _))
  have B149 := Lib.hid (B136.out.trans (hb139.mono B136.out.size))
  clear hb139
  clear k120 k121 k122 k140 k141 k142 k160 k161 k162
  have k120 := T143.out.c0
  have k121 := T143.out.c1
  have k122 := T143.out.c2
  have k140 := T144.out.c0
  have k141 := T144.out.c1
  have k142 := T144.out.c2
  have k160 := T145.out.c0
  have k161 := T145.out.c1
  have k162 := T145.out.c2
  clear k120 k121 k122 k140 k141 k142 k160 k161 k162
  have d6 := T142.out.c16
  have d7 := T142.out.c17
  have k120 := T143.out.c0
  have k121 := T143.out.c1
  have k122 := T143.out.c2
  have k140 := T144.out.c0
  have k141 := T144.out.c1
  have k142 := T144.out.c2
  have C150 := Lib.hid (stLess_any j.n j.r x.n x.r w138)
  unfold st at C150
  rw [Sx.out] at C150
  go_wp2_with fail
  refine C150.out.mono ?_
  rintro e w151 ⟨rfl, hb152⟩
  have T153 := Lib.hid (T140.out.below hb152 T140.out.lt)
  have T154 := Lib.hid (T141.out.below hb152 T141.out.lt)
  have T155 := Lib.hid (T142.out.below hb152 T142.out.lt)
  have T156 := Lib.hid (T143.out.below hb152 T143.out.lt)
  have T157 := Lib.hid (T144.out.below hb152 T144.out.lt)
  have T158 := Lib.hid (T145.out.below hb152 T145.out.lt)
  have F159 := Lib.hid (F146.out.below hb152 (Nat.le_refl _))
  have F160 := Lib.hid (F147.out.below hb152 (Nat.le_refl _))
  have F161 := Lib.hid (F148.out.below hb152 (Nat.le_refl _))
  have B162 := Lib.hid (B149.out.trans (hb152.mono B149.out.size))
  clear hb152
  clear d6 d7 k120 k121 k122 k140 k141 k142
  have d6 := T155.out.c16
  have d7 := T155.out.c17
  have k120 := T156.out.c0
  have k121 := T156.out.c1
  have k122 := T156.out.c2
  have k140 := T157.out.c0
  have k141 := T157.out.c1
  have k142 := T157.out.c2
  have C163 := Lib.hid (stLess_any j.n j.r y.n y.r w151)
  unfold st at C163
  rw [Sy.out] at C163
  go_wp2_with fail
  refine C163.out.mono ?_
  rintro e w164 ⟨rfl, hb165⟩
  have T166 := Lib.hid (T153.out.below hb165 T153.out.lt)
  have T167 := Lib.hid (T154.out.below hb165 T154.out.lt)
  have T168 := Lib.hid (T155.out.below hb165 T155.out.lt)
  have T169 := Lib.hid (T156.out.below hb165 T156.out.lt)
  have T170 := Lib.hid (T157.out.below hb165 T157.out.lt)
  have T171 := Lib.hid (T158.out.below hb165 T158.out.lt)
  have F172 := Lib.hid (F159.out.below hb165 (Nat.le_refl _))
  have F173 := Lib.hid (F160.out.below hb165 (Nat.le_refl _))
  have F174 := Lib.hid (F161.out.below hb165 (Nat.le_refl _))
  have B175 := Lib.hid (B162.out.trans (hb165.mono B162.out.size))
  clear hb165
  clear d6 d7 k120 k121 k122 k140 k141 k142
  have U176 := Lib.hid (fun (w9 : World) => max_any (a.n, a.r) (b.n, b.r) w9)
  rw [MXJ.out] at U176
  unfold st at U176
  dsimp only at U176
  go_wp2_with fail
  refine wp_region_G w164 (by kernel_rfl) ?_
  refine wpG_take (i := 0) (oi := ⟨some 118, _, _, _, _, _⟩) (v := ?_) rfl (by kernel_rfl) (by kernel_rfl) (by kernel_rfl) (Or.inl ⟨by rfl, unib_val ?_⟩) ?_; rotate_left; (focus (intro w9 hSw; go_simp; try with_reducible rfl)); simp only [Act.put, List.setIfInBounds_toArray, List.set_cons_zero, List.set_cons_succ]
  refine wpG_take (i := 1) (oi := ⟨some 119, _, _, _, _, _⟩) (v := ?_) rfl (by kernel_rfl) (by kernel_rfl) (by kernel_rfl) (Or.inl ⟨by rfl, unib_val ?_⟩) ?_; rotate_left; (focus (intro w9 hSw; go_simp; try with_reducible rfl)); simp only [Act.put, List.setIfInBounds_toArray, List.set_cons_zero, List.set_cons_succ]
  refine wpG_take (i := 2) (oi := ⟨some 120, _, _, _, _, _⟩) (v := ?_) rfl (by kernel_rfl) (by kernel_rfl) (by kernel_rfl) (Or.inl ⟨by rfl, unib_val ?_⟩) ?_; rotate_left; (focus (intro w9 hSw; go_simp; try with_reducible rfl)); simp only [Act.put, List.setIfInBounds_toArray, List.set_cons_zero, List.set_cons_succ]
  refine wpG_take (i := 3) (oi := ⟨some 121, _, _, _, _, _⟩) (v := ?_) rfl (by kernel_rfl) (by kernel_rfl) (by kernel_rfl) (Or.inl ⟨by rfl, unib_val ?_⟩) ?_; rotate_left; (focus (intro w9 hSw; go_simp; try with_reducible rfl)); simp only [Act.put, List.setIfInBounds_toArray, List.set_cons_zero, List.set_cons_succ]
  refine wpG_take (i := 4) (oi := ⟨some 122, _, _, _, _, _⟩) (v := ?_) rfl (by kernel_rfl) (by kernel_rfl) (by kernel_rfl) (Or.inl ⟨by rfl, unib_val ?_⟩) ?_; rotate_left; (focus (intro w9 hSw; go_simp; try with_reducible rfl)); simp only [Act.put, List.setIfInBounds_toArray, List.set_cons_zero, List.set_cons_succ]
  refine wpG_take (i := 5) (oi := ⟨some 123, _, _, _, _, _⟩) (v := ?_) rfl (by kernel_rfl) (by kernel_rfl) (by kernel_rfl) (Or.inl ⟨by rfl, unib_val ?_⟩) ?_; rotate_left; (focus (intro w9 hSw; have q9 := T168.out.below hSw T168.out.lt; have q0 := q9.c16; have q1 := q9.c17; go_simp; try with_reducible rfl)); simp only [Act.put, List.setIfInBounds_toArray, List.set_cons_zero, List.set_cons_succ]
  refine wpG_take (i := 6) (oi := ⟨some 124, _, _, _, _, _⟩) (v := ?_) rfl (by kernel_rfl) (by kernel_rfl) (by kernel_rfl) (Or.inl ⟨by rfl, unib_val ?_⟩) ?_; rotate_left; (focus (intro w9 hSw; go_simp; try with_reducible rfl)); simp only [Act.put, List.setIfInBounds_toArray, List.set_cons_zero, List.set_cons_succ]
  refine wpG_take (i := 7) (oi := ⟨some 125, _, _, _, _, _⟩) (v := ?_) rfl (by kernel_rfl) (by kernel_rfl) (by kernel_rfl) (Or.inl ⟨by rfl, unib_val ?_⟩) ?_; rotate_left; (focus (intro w9 hSw; have q9 := T166.out.below hSw T166.out.lt; have q0 := q9.c16; have q1 := q9.c17; go_simp; try with_reducible rfl)); simp only [Act.put, List.setIfInBounds_toArray, List.set_cons_zero, List.set_cons_succ]
  refine wpG_take (i := 8) (oi := ⟨some 126, _, _, _, _, _⟩) (v := ?_) rfl (by kernel_rfl) (by kernel_rfl) (by kernel_rfl) (Or.inl ⟨by rfl, unib_val ?_⟩) ?_; rotate_left; (focus (intro w9 hSw; go_simp; try with_reducible rfl)); simp only [Act.put, List.setIfInBounds_toArray, List.set_cons_zero, List.set_cons_succ]
  refine wpG_take (i := 9) (oi := ⟨some 127, _, _, _, _, _⟩) (v := ?_) rfl (by kernel_rfl) (by kernel_rfl) (by kernel_rfl) (Or.inl ⟨by rfl, unib_val ?_⟩) ?_; rotate_left; (focus (intro w9 hSw; have q9 := T167.out.below hSw T167.out.lt; have q0 := q9.c16; have q1 := q9.c17; go_simp; try with_reducible rfl)); simp only [Act.put, List.setIfInBounds_toArray, List.set_cons_zero, List.set_cons_succ]
  refine wpG_take (i := 10) (oi := ⟨some 128, _, _, _, _, _⟩) rfl (by kernel_rfl) (by kernel_rfl) (by kernel_rfl) (Or.inl ⟨by rfl, unib_call ?_ U176.out⟩) ?_; (focus (intro w9 hSw; go_simp; try with_reducible rfl)); simp only [Act.put, List.setIfInBounds_toArray, List.set_cons_zero, List.set_cons_succ]
  refine wpG_take (i := 11) (oi := ⟨some 129, _, _, _, _, _⟩) (v := ?_) rfl (by kernel_rfl) (by kernel_rfl) (by kernel_rfl) (Or.inl ⟨by rfl, unib_val ?_⟩) ?_; rotate_left; (focus (intro w9 hSw; go_simp; try with_reducible rfl)); simp only [Act.put, List.setIfInBounds_toArray, List.set_cons_zero, List.set_cons_succ]
  refine wpG_take (i := 12) (oi := ⟨some 130, _, _, _, _, _⟩) (v := ?_) rfl (by kernel_rfl) (by kernel_rfl) (by kernel_rfl) (Or.inl ⟨by rfl, unib_val ?_⟩) ?_; rotate_left; (focus (intro w9 hSw; go_simp; try with_reducible rfl)); simp only [Act.put, List.setIfInBounds_toArray, List.set_cons_zero, List.set_cons_succ]
  refine wpG_take (i := 13) (oi := ⟨some 131, _, _, _, _, _⟩) (v := ?_) rfl (by kernel_rfl) (by kernel_rfl) (by kernel_rfl) (Or.inl ⟨by rfl, unib_val ?_⟩) ?_; rotate_left; (focus (intro w9 hSw; go_simp; try with_reducible rfl)); simp only [Act.put, List.setIfInBounds_toArray, List.set_cons_zero, List.set_cons_succ]
  refine wpG_take (i := 14) (oi := ⟨some 132, _, _, _, _, _⟩) (v := ?_) rfl (by kernel_rfl) (by kernel_rfl) (by kernel_rfl) (Or.inl ⟨by rfl, unib_val ?_⟩) ?_; rotate_left; (focus (intro w9 hSw; go_simp; try with_reducible rfl)); simp only [Act.put, List.setIfInBounds_toArray, List.set_cons_zero, List.set_cons_succ]
  refine wpG_take (i := 15) (oi := ⟨some 133, _, _, _, _, _⟩) (v := (.agg (bvals j.z))) rfl (by kernel_rfl) (by kernel_rfl) (by kernel_rfl) (Or.inl ⟨by rfl, unib_val ?_⟩) ?_; (focus (intro w9 hSw; exact exec_load_by 40 _ rfl ⟨w41.heap.size, 0, none⟩ rfl (load_id (T168.out.below hSw T168.out.lt)))); simp only [Act.put, List.setIfInBounds_toArray, List.set_cons_zero, List.set_cons_succ]
  refine wpG_take (i := 16) (oi := ⟨some 134, _, _, _, _, _⟩) (v := ?_) rfl (by kernel_rfl) (by kernel_rfl) (by kernel_rfl) (Or.inl ⟨by rfl, unib_val ?_⟩) ?_; rotate_left; (focus (intro w9 hSw; go_simp; try with_reducible rfl)); simp only [Act.put, List.setIfInBounds_toArray, List.set_cons_zero, List.set_cons_succ]
  refine wpG_take (i := 17) (oi := ⟨some 135, _, _, _, _, _⟩) (v := (.agg (bvals a.z))) rfl (by kernel_rfl) (by kernel_rfl) (by kernel_rfl) (Or.inl ⟨by rfl, unib_val ?_⟩) ?_; (focus (intro w9 hSw; exact exec_load_by 40 _ rfl ⟨w.heap.size, 0, none⟩ rfl (load_id (T166.out.below hSw T166.out.lt)))); simp only [Act.put, List.setIfInBounds_toArray, List.set_cons_zero, List.set_cons_succ]
  refine wpG_take (i := 18) (oi := ⟨some 136, _, _, _, _, _⟩) (v := ?_) rfl (by kernel_rfl) (by kernel_rfl) (by kernel_rfl) (Or.inl ⟨by rfl, unib_val ?_⟩) ?_; rotate_left; (focus (intro w9 hSw; have q0 := HE.out w9; go_simp; try with_reducible rfl)); simp only [Act.put, List.setIfInBounds_toArray, List.set_cons_zero, List.set_cons_succ]
  refine wpG_take (i := 19) (oi := ⟨some 137, _, _, _, _, _⟩) (v := ?_) rfl (by kernel_rfl) (by kernel_rfl) (by kernel_rfl) (Or.inl ⟨by rfl, unib_val ?_⟩) ?_; rotate_left; (focus (intro w9 hSw; go_simp; try with_reducible rfl)); simp only [Act.put, List.setIfInBounds_toArray, List.set_cons_zero, List.set_cons_succ]
  refine wpG_take (i := 20) (oi := ⟨some 6, _, _, _, _, _⟩) (v := ?_) rfl (by kernel_rfl) (by kernel_rfl) (by kernel_rfl) (Or.inl ⟨by rfl, unib_val ?_⟩) ?_; rotate_left; (focus (intro w9 hSw; go_simp; try with_reducible rfl)); simp only [Act.put, List.setIfInBounds_toArray, List.set_cons_zero, List.set_cons_succ]
  refine wpG_done (by kernel_rfl) ?_ _
  intro w9 hSw _
  go_wp2
  go_ret
  exact ⟨rfl, B175.out.trans (hSw.mono B175.out.size)⟩
theorem walk_recCells (a : Rc) (A : Option Addr) (ca : Nat) (b : Rc) (B : Option Addr) (cb : Nat) (no : Int) (w : World) (hlaid : Laid w) (wa : IsRec w a A ca) (wb : IsRec w b B cb) :
    Calls Tryd.prog 9 #[a.v A ca, b.v B cb, .int .i64 no] w fun e w' => e = .returned (.bool true) ∧ Below w.heap.size w w' := by
  cases p : (fewR a.fs && fewR b.fs && (a.join b).isSome)
  · exact cells_few a A ca b B cb no w hlaid wa wb p
  · simp only [Bool.and_eq_true] at p
    obtain ⟨⟨pa, pb⟩, pj⟩ := p
    have hab : a.may = true ∧ b.may = true ∧ a.z = b.z := by
      have h3 : ((a.z == b.z) && a.may && b.may) = true := by
        cases h : ((a.z == b.z) && a.may && b.may)
        · unfold Rc.join rjoin at pj
          unfold Rc.may at h
          rw [h] at pj
          simp at pj
        · rfl
      simp only [Bool.and_eq_true, beq_iff_eq] at h3
      exact ⟨h3.1.2, h3.2, h3.1.1⟩
    obtain ⟨ma, mb, hz⟩ := hab
    have jv := join_eq ma mb hz
    have hfj := rfind_jn ma mb no
    have mxj : mx (a.n, a.r) (b.n, b.r) = ((jn a b).n, (jn a b).r) := rfl
    have jz : (jn a b).z = a.z := rfl
    have hd : ∀ c, sl (mx a.d b.d) c = stLess (jn a b).n (jn a b).r c.n c.r := fun _ => rfl
    have hsx : ∀ c, rfind a.fs no = some c → c.s.size ≤ 300 := fun c hc => size_may ma hc
    have hsy : ∀ c, rfind b.fs no = some c → c.s.size ≤ 300 := fun c hc => size_may mb hc
    generalize jn a b = j at *
    cases fx : rfind a.fs no with
    | none =>
      cases fy : rfind b.fs no with
      | none =>
        rw [fx, fy] at hfj
        exact cells_n00 a A ca b B cb no w hlaid wa wb pa pb j jv mxj jz fx fy hfj
      | some y =>
        rw [fx, fy] at hfj
        change rfind j.fs no = ofilt _ (some y) at hfj
        cases hs : sl (mx a.d b.d) y
        · rw [ofilt_no hs] at hfj
          exact cells_n01 a A ca b B cb no w hlaid wa wb pa pb j jv mxj jz y fx fy hfj (hsy y fy) ((hd y).symm.trans hs)
        · rw [ofilt_some hs] at hfj
          exact cells_y01 a A ca b B cb no w hlaid wa wb pa pb j jv mxj jz y fx fy hfj (hsy y fy) (cless_self y) ((hd y).symm.trans hs)
    | some x =>
      cases fy : rfind b.fs no with
      | none =>
        rw [fx, fy] at hfj
        change rfind j.fs no = ofilt _ (some x) at hfj
        cases hs : sl (mx a.d b.d) x
        · rw [ofilt_no hs] at hfj
          exact cells_n10 a A ca b B cb no w hlaid wa wb pa pb j jv mxj jz x fx fy hfj (hsx x fx) ((hd x).symm.trans hs)
        · rw [ofilt_some hs] at hfj
          exact cells_x10 a A ca b B cb no w hlaid wa wb pa pb j jv mxj jz x fx fy hfj (hsx x fx) (cless_self x) ((hd x).symm.trans hs)
      | some y =>
        rw [fx, fy] at hfj
        change rfind j.fs no = ofilt _ (some (cjoin x y)) at hfj
        have hsl := sl_cjoin (mx a.d b.d) x y
        cases hs : sl (mx a.d b.d) (cjoin x y)
        · rw [ofilt_no hs] at hfj
          rw [hs] at hsl
          have hx : sl (mx a.d b.d) x = false := by cases h : sl (mx a.d b.d) x <;> simp_all
          have hy : sl (mx a.d b.d) y = false := by cases h : sl (mx a.d b.d) y <;> simp_all
          exact cells_n11 a A ca b B cb no w hlaid wa wb pa pb j jv mxj jz x y fx fy hfj (hsx x fx) (hsy y fy) ((hd x).symm.trans hx) ((hd y).symm.trans hy)
        · rw [ofilt_some hs] at hfj
          rw [hs] at hsl
          have l1 := cjoin_not1 x y
          have l2 := cjoin_not2 x y
          by_cases he : cjoin x y = x
          · rw [he] at hfj l1 l2
            cases hx : sl (mx a.d b.d) x
            · have hy : sl (mx a.d b.d) y = true := by rw [hx] at hsl; simpa using hsl.symm
              exact cells_x110 a A ca b B cb no w hlaid wa wb pa pb j jv mxj jz x y fx fy hfj (hsx x fx) (hsy y fy) l1 l2 ((hd x).symm.trans hx) ((hd y).symm.trans hy)
            · exact cells_x111 a A ca b B cb no w hlaid wa wb pa pb j jv mxj jz x y fx fy hfj (hsx x fx) (hsy y fy) l1 l2 ((hd x).symm.trans hx)
          · have he2 : cjoin x y = y := (cjoin_one x y).resolve_left he
            rw [he2] at hfj l1 l2 he
            cases hx : sl (mx a.d b.d) x
            · have hy : sl (mx a.d b.d) y = true := by rw [hx] at hsl; simpa using hsl.symm
              exact cells_y110 a A ca b B cb no w hlaid wa wb pa pb j jv mxj jz x y fx fy hfj (hsx x fx) (hsy y fy) l1 l2 he ((hd x).symm.trans hx) ((hd y).symm.trans hy)
            · exact cells_y111 a A ca b B cb no w hlaid wa wb pa pb j jv mxj jz x y fx fy hfj (hsx x fx) (hsy y fy) l1 l2 he ((hd x).symm.trans hx)
end Go.Proofs.YtonbhcbkelmhgaaDoor
