/-
  The law RecJoins: for every three records it answers true, and nothing that was there is written.
-/
import Derived.Test.YtonbhcbkelmhgaaDoorRcAwake
import Derived.Test.YtonbhcbkelmhgaaDoorRcArgs
import Derived.Test.YtonbhcbkelmhgaaDoorRcMath
import Derived.Test.YtonbhcbkelmhgaaDoorRcId
namespace Go.Proofs.YtonbhcbkelmhgaaDoor
open Go.RowKit WM
set_option linter.unusedVariables false
set_option maxRecDepth 100000
set_option maxHeartbeats 16000000 in
theorem joins_few (a : Rc) (A : Option Addr) (ca : Nat) (b : Rc) (B : Option Addr) (cb : Nat) (c : Rc) (C : Option Addr) (cc : Nat) (w : World) (hlaid : Laid w) (wa : IsRec w a A ca) (wb : IsRec w b B cb) (wc : IsRec w c C cc) (h : (fewR a.fs && fewR b.fs && fewR c.fs) = false) :
    Calls Tryd.prog 7 #[a.v A ca, b.v B cb, c.v C cc] w fun e w' => e = .returned (.bool true) ∧ Below w.heap.size w w' := by
  have HLA := Lib.hid (fun (X : World) (hX : Below w.heap.size w X) => hlaid.below hX (Nat.le_refl _))
  have OKa := Lib.hid wa.1
  have OKb := Lib.hid wb.1
  have OKc := Lib.hid wc.1
  have OKb2 := Lib.hid (named_ok (R := b) wa.1.1 wa.1.2)
  have OKc2 := Lib.hid (named_ok (R := c) wa.1.1 wa.1.2)
  have Fa := Lib.hid wa.2.1
  have Fb := Lib.hid wb.2.1
  have Fc := Lib.hid wc.2.1
  have hz := zeroRec
  unfold rv at hz
  conv => congr; rfl; rfl; (unfold Rc.v rv)
  clear hlaid wa wb wc
  cases pa : fewR a.fs
  · have PA := Lib.hid pa
    clear pa h
    have B1 := Lib.hid (Below.refl w.heap.size w)
    have T2n := RcAt.new w OKa.out.len a.n a.r (.slice A a.fs.length ca)
    have T2 := Lib.hid (T2n)
    clear T2n
    have B3 := Lib.hid (B1.out.alloc B1.out.size (.cells (rcells a.z a.n a.r (.slice A a.fs.length ca)) 43))
    have T4 := Lib.hid (T2.out.old (.cells (rcells b.z b.n b.r (.slice B b.fs.length cb)) 43))
    have T5n := RcAt.new (w.alloc (.cells (rcells a.z a.n a.r (.slice A a.fs.length ca)) 43)) OKb.out.len b.n b.r (.slice B b.fs.length cb)
    simp only [World.size_alloc] at T5n
    have T5 := Lib.hid (T5n)
    clear T5n
    have B6 := Lib.hid (B3.out.alloc B3.out.size (.cells (rcells b.z b.n b.r (.slice B b.fs.length cb)) 43))
    have T7 := Lib.hid (T4.out.old (.cells (rcells c.z c.n c.r (.slice C c.fs.length cc)) 43))
    have T8 := Lib.hid (T5.out.old (.cells (rcells c.z c.n c.r (.slice C c.fs.length cc)) 43))
    have T9n := RcAt.new ((w.alloc (.cells (rcells a.z a.n a.r (.slice A a.fs.length ca)) 43)).alloc (.cells (rcells b.z b.n b.r (.slice B b.fs.length cb)) 43)) OKc.out.len c.n c.r (.slice C c.fs.length cc)
    simp only [World.size_alloc] at T9n
    have T9 := Lib.hid (T9n)
    clear T9n
    have B10 := Lib.hid (B6.out.alloc B6.out.size (.cells (rcells c.z c.n c.r (.slice C c.fs.length cc)) 43))
    have F11 := Lib.hid (Fa.out.below B10.out (Nat.le_refl _))
    have F12 := Lib.hid (Fb.out.below B10.out (Nat.le_refl _))
    have F13 := Lib.hid (Fc.out.below B10.out (Nat.le_refl _))
    go_enter Tryd.func7, Tryd.ntmps7
    have C14 := Lib.hid (rcAwake (((w.alloc (.cells (rcells a.z a.n a.r (.slice A a.fs.length ca)) 43)).alloc (.cells (rcells b.z b.n b.r (.slice B b.fs.length cb)) 43)).alloc (.cells (rcells c.z c.n c.r (.slice C c.fs.length cc)) 43)) (HLA.out _ B10.out))
    go_wp2_with fail
    refine C14.out.mono ?_
    rintro e w15 ⟨rfl, hb16⟩
    have T17 := Lib.hid (T7.out.below hb16 T7.out.lt)
    have T18 := Lib.hid (T8.out.below hb16 T8.out.lt)
    have T19 := Lib.hid (T9.out.below hb16 T9.out.lt)
    have F20 := Lib.hid (F11.out.below hb16 (Nat.le_refl _))
    have F21 := Lib.hid (F12.out.below hb16 (Nat.le_refl _))
    have F22 := Lib.hid (F13.out.below hb16 (Nat.le_refl _))
    have B23 := Lib.hid (B10.out.trans (hb16.mono B10.out.size))
    clear hb16
    have M24 := Lib.hid (load_rec T17.out)
    unfold rv at M24
    have C25 := Lib.hid (fewR_any a A ca w15 OKa.out F20.out)
    unfold Rc.v at C25
    unfold rv at C25
    rw [PA.out] at C25
    go_wp2_with (first | ((with_reducible refine wpList_load_by (o := ⟨some 24, .load 43 (.tmp 3), _, _, _, _⟩) ?e1 43 (.tmp 3) ?e2 ⟨w.heap.size, 0, none⟩ ?e3 _ M24.out ?_); (case e1 => rfl); (case e2 => rfl); (case e3 => rfl)))
    refine C25.out.mono ?_
    rintro e w26 ⟨rfl, hb27⟩
    have T28 := Lib.hid (T17.out.below hb27 T17.out.lt)
    have T29 := Lib.hid (T18.out.below hb27 T18.out.lt)
    have T30 := Lib.hid (T19.out.below hb27 T19.out.lt)
    have F31 := Lib.hid (F20.out.below hb27 (Nat.le_refl _))
    have F32 := Lib.hid (F21.out.below hb27 (Nat.le_refl _))
    have F33 := Lib.hid (F22.out.below hb27 (Nat.le_refl _))
    have B34 := Lib.hid (B23.out.trans (hb27.mono B23.out.size))
    clear hb27
    have M35 := Lib.hid (load_rec T29.out)
    unfold rv at M35
    have C36 := Lib.hid (fewR_any b B cb w26 OKb.out F32.out)
    unfold Rc.v at C36
    unfold rv at C36
    go_wp2_with (first | ((with_reducible refine wpList_load_by (o := ⟨some 26, .load 43 (.tmp 4), _, _, _, _⟩) ?e1 43 (.tmp 4) ?e2 ⟨(w.heap.size + 1), 0, none⟩ ?e3 _ M35.out ?_); (case e1 => rfl); (case e2 => rfl); (case e3 => rfl)))
    refine C36.out.mono ?_
    rintro e w37 ⟨rfl, hb38⟩
    have T39 := Lib.hid (T28.out.below hb38 T28.out.lt)
    have T40 := Lib.hid (T29.out.below hb38 T29.out.lt)
    have T41 := Lib.hid (T30.out.below hb38 T30.out.lt)
    have F42 := Lib.hid (F31.out.below hb38 (Nat.le_refl _))
    have F43 := Lib.hid (F32.out.below hb38 (Nat.le_refl _))
    have F44 := Lib.hid (F33.out.below hb38 (Nat.le_refl _))
    have B45 := Lib.hid (B34.out.trans (hb38.mono B34.out.size))
    clear hb38
    have M46 := Lib.hid (load_rec T41.out)
    unfold rv at M46
    have C47 := Lib.hid (fewR_any c C cc w37 OKc.out F44.out)
    unfold Rc.v at C47
    unfold rv at C47
    go_wp2_with (first | ((with_reducible refine wpList_load_by (o := ⟨some 28, .load 43 (.tmp 5), _, _, _, _⟩) ?e1 43 (.tmp 5) ?e2 ⟨(w.heap.size + 1 + 1), 0, none⟩ ?e3 _ M46.out ?_); (case e1 => rfl); (case e2 => rfl); (case e3 => rfl)))
    refine C47.out.mono ?_
    rintro e w48 ⟨rfl, hb49⟩
    have T50 := Lib.hid (T39.out.below hb49 T39.out.lt)
    have T51 := Lib.hid (T40.out.below hb49 T40.out.lt)
    have T52 := Lib.hid (T41.out.below hb49 T41.out.lt)
    have F53 := Lib.hid (F42.out.below hb49 (Nat.le_refl _))
    have F54 := Lib.hid (F43.out.below hb49 (Nat.le_refl _))
    have F55 := Lib.hid (F44.out.below hb49 (Nat.le_refl _))
    have B56 := Lib.hid (B45.out.trans (hb49.mono B45.out.size))
    clear hb49
    have M57 := Lib.hid (load_id T50.out)
    go_wp2_with (first | ((with_reducible refine wpList_load_by (o := ⟨some 31, .load 40 (.tmp 30), _, _, _, _⟩) ?e1 40 (.tmp 30) ?e2 ⟨w.heap.size, 0, none⟩ ?e3 _ M57.out ?_); (case e1 => rfl); (case e2 => rfl); (case e3 => rfl)) | ((with_reducible refine wpList_store_id (o := ⟨none, .store 40 (.tmp 32) (.tmp 31), _, _, _, _⟩) ?e1 (.tmp 32) (.tmp 31) ?e2 (w.heap.size + 1) ?e3 a.z ?e4 b.z b.n b.r (.slice B b.fs.length cb) T51.out OKa.out.len ?_); (case e1 => rfl); (case e2 => rfl); (case e3 => rfl); (case e4 => rfl); intro w58 hg59 hRs; have T60 : Hid (RcAt w58 (w.heap.size + 1) (b.named a.z).z (b.named a.z).n (b.named a.z).r (.slice B (b.named a.z).fs.length cb)) := Lib.hid hRs; clear hRs; have T61 := Lib.hid (T50.out.kept hg59 (fun e => by have := Option.some.inj e; omega)); have T62 := Lib.hid (T52.out.kept hg59 (fun e => by have := Option.some.inj e; omega)); have B63 := Lib.hid (B56.out.grown hg59 B56.out.size (fun k e => by have := Option.some.inj e; omega)); have F64 := Lib.hid (Fa.out.below B63.out (Nat.le_refl _)); have F65 := Lib.hid (Fb.out.below B63.out (Nat.le_refl _)); have F66 := Lib.hid (Fc.out.below B63.out (Nat.le_refl _)); have F67 := Lib.hid (Fb.out.below B63.out (Nat.le_refl _)); clear hg59; have M68 := Lib.hid (load_id T61.out)) | ((with_reducible refine wpList_load_by (o := ⟨some 34, .load 40 (.tmp 33), _, _, _, _⟩) ?e1 40 (.tmp 33) ?e2 ⟨w.heap.size, 0, none⟩ ?e3 _ M68.out ?_); (case e1 => rfl); (case e2 => rfl); (case e3 => rfl)) | ((with_reducible refine wpList_store_id (o := ⟨none, .store 40 (.tmp 35) (.tmp 34), _, _, _, _⟩) ?e1 (.tmp 35) (.tmp 34) ?e2 (w.heap.size + 1 + 1) ?e3 a.z ?e4 c.z c.n c.r (.slice C c.fs.length cc) T62.out OKa.out.len ?_); (case e1 => rfl); (case e2 => rfl); (case e3 => rfl); (case e4 => rfl); intro w69 hg70 hRs; have T71 : Hid (RcAt w69 (w.heap.size + 1 + 1) (c.named a.z).z (c.named a.z).n (c.named a.z).r (.slice C (c.named a.z).fs.length cc)) := Lib.hid hRs; clear hRs; have T72 := Lib.hid (T61.out.kept hg70 (fun e => by have := Option.some.inj e; omega)); have T73 := Lib.hid (T60.out.kept hg70 (fun e => by have := Option.some.inj e; omega)); have B74 := Lib.hid (B63.out.grown hg70 B63.out.size (fun k e => by have := Option.some.inj e; omega)); have F75 := Lib.hid (Fa.out.below B74.out (Nat.le_refl _)); have F76 := Lib.hid (Fb.out.below B74.out (Nat.le_refl _)); have F77 := Lib.hid (Fc.out.below B74.out (Nat.le_refl _)); have F78 := Lib.hid (Fb.out.below B74.out (Nat.le_refl _)); have F79 := Lib.hid (Fc.out.below B74.out (Nat.le_refl _)); clear hg70))
    go_ret
    exact ⟨rfl, B74.out⟩
  · cases pb : fewR b.fs
    · have PA := Lib.hid pa
      have PB := Lib.hid pb
      clear pa pb h
      have B1 := Lib.hid (Below.refl w.heap.size w)
      have T2n := RcAt.new w OKa.out.len a.n a.r (.slice A a.fs.length ca)
      have T2 := Lib.hid (T2n)
      clear T2n
      have B3 := Lib.hid (B1.out.alloc B1.out.size (.cells (rcells a.z a.n a.r (.slice A a.fs.length ca)) 43))
      have T4 := Lib.hid (T2.out.old (.cells (rcells b.z b.n b.r (.slice B b.fs.length cb)) 43))
      have T5n := RcAt.new (w.alloc (.cells (rcells a.z a.n a.r (.slice A a.fs.length ca)) 43)) OKb.out.len b.n b.r (.slice B b.fs.length cb)
      simp only [World.size_alloc] at T5n
      have T5 := Lib.hid (T5n)
      clear T5n
      have B6 := Lib.hid (B3.out.alloc B3.out.size (.cells (rcells b.z b.n b.r (.slice B b.fs.length cb)) 43))
      have T7 := Lib.hid (T4.out.old (.cells (rcells c.z c.n c.r (.slice C c.fs.length cc)) 43))
      have T8 := Lib.hid (T5.out.old (.cells (rcells c.z c.n c.r (.slice C c.fs.length cc)) 43))
      have T9n := RcAt.new ((w.alloc (.cells (rcells a.z a.n a.r (.slice A a.fs.length ca)) 43)).alloc (.cells (rcells b.z b.n b.r (.slice B b.fs.length cb)) 43)) OKc.out.len c.n c.r (.slice C c.fs.length cc)
      simp only [World.size_alloc] at T9n
      have T9 := Lib.hid (T9n)
      clear T9n
      have B10 := Lib.hid (B6.out.alloc B6.out.size (.cells (rcells c.z c.n c.r (.slice C c.fs.length cc)) 43))
      have F11 := Lib.hid (Fa.out.below B10.out (Nat.le_refl _))
      have F12 := Lib.hid (Fb.out.below B10.out (Nat.le_refl _))
      have F13 := Lib.hid (Fc.out.below B10.out (Nat.le_refl _))
      go_enter Tryd.func7, Tryd.ntmps7
      have C14 := Lib.hid (rcAwake (((w.alloc (.cells (rcells a.z a.n a.r (.slice A a.fs.length ca)) 43)).alloc (.cells (rcells b.z b.n b.r (.slice B b.fs.length cb)) 43)).alloc (.cells (rcells c.z c.n c.r (.slice C c.fs.length cc)) 43)) (HLA.out _ B10.out))
      go_wp2_with fail
      refine C14.out.mono ?_
      rintro e w15 ⟨rfl, hb16⟩
      have T17 := Lib.hid (T7.out.below hb16 T7.out.lt)
      have T18 := Lib.hid (T8.out.below hb16 T8.out.lt)
      have T19 := Lib.hid (T9.out.below hb16 T9.out.lt)
      have F20 := Lib.hid (F11.out.below hb16 (Nat.le_refl _))
      have F21 := Lib.hid (F12.out.below hb16 (Nat.le_refl _))
      have F22 := Lib.hid (F13.out.below hb16 (Nat.le_refl _))
      have B23 := Lib.hid (B10.out.trans (hb16.mono B10.out.size))
      clear hb16
      have M24 := Lib.hid (load_rec T17.out)
      unfold rv at M24
      have C25 := Lib.hid (fewR_any a A ca w15 OKa.out F20.out)
      unfold Rc.v at C25
      unfold rv at C25
      rw [PA.out] at C25
      go_wp2_with (first | ((with_reducible refine wpList_load_by (o := ⟨some 24, .load 43 (.tmp 3), _, _, _, _⟩) ?e1 43 (.tmp 3) ?e2 ⟨w.heap.size, 0, none⟩ ?e3 _ M24.out ?_); (case e1 => rfl); (case e2 => rfl); (case e3 => rfl)))
      refine C25.out.mono ?_
      rintro e w26 ⟨rfl, hb27⟩
      have T28 := Lib.hid (T17.out.below hb27 T17.out.lt)
      have T29 := Lib.hid (T18.out.below hb27 T18.out.lt)
      have T30 := Lib.hid (T19.out.below hb27 T19.out.lt)
      have F31 := Lib.hid (F20.out.below hb27 (Nat.le_refl _))
      have F32 := Lib.hid (F21.out.below hb27 (Nat.le_refl _))
      have F33 := Lib.hid (F22.out.below hb27 (Nat.le_refl _))
      have B34 := Lib.hid (B23.out.trans (hb27.mono B23.out.size))
      clear hb27
      have M35 := Lib.hid (load_rec T29.out)
      unfold rv at M35
      have C36 := Lib.hid (fewR_any b B cb w26 OKb.out F32.out)
      unfold Rc.v at C36
      unfold rv at C36
      rw [PB.out] at C36
      go_wp2_with (first | ((with_reducible refine wpList_load_by (o := ⟨some 26, .load 43 (.tmp 4), _, _, _, _⟩) ?e1 43 (.tmp 4) ?e2 ⟨(w.heap.size + 1), 0, none⟩ ?e3 _ M35.out ?_); (case e1 => rfl); (case e2 => rfl); (case e3 => rfl)))
      refine C36.out.mono ?_
      rintro e w37 ⟨rfl, hb38⟩
      have T39 := Lib.hid (T28.out.below hb38 T28.out.lt)
      have T40 := Lib.hid (T29.out.below hb38 T29.out.lt)
      have T41 := Lib.hid (T30.out.below hb38 T30.out.lt)
      have F42 := Lib.hid (F31.out.below hb38 (Nat.le_refl _))
      have F43 := Lib.hid (F32.out.below hb38 (Nat.le_refl _))
      have F44 := Lib.hid (F33.out.below hb38 (Nat.le_refl _))
      have B45 := Lib.hid (B34.out.trans (hb38.mono B34.out.size))
      clear hb38
      have M46 := Lib.hid (load_rec T41.out)
      unfold rv at M46
      have C47 := Lib.hid (fewR_any c C cc w37 OKc.out F44.out)
      unfold Rc.v at C47
      unfold rv at C47
      go_wp2_with (first | ((with_reducible refine wpList_load_by (o := ⟨some 28, .load 43 (.tmp 5), _, _, _, _⟩) ?e1 43 (.tmp 5) ?e2 ⟨(w.heap.size + 1 + 1), 0, none⟩ ?e3 _ M46.out ?_); (case e1 => rfl); (case e2 => rfl); (case e3 => rfl)))
      refine C47.out.mono ?_
      rintro e w48 ⟨rfl, hb49⟩
      have T50 := Lib.hid (T39.out.below hb49 T39.out.lt)
      have T51 := Lib.hid (T40.out.below hb49 T40.out.lt)
      have T52 := Lib.hid (T41.out.below hb49 T41.out.lt)
      have F53 := Lib.hid (F42.out.below hb49 (Nat.le_refl _))
      have F54 := Lib.hid (F43.out.below hb49 (Nat.le_refl _))
      have F55 := Lib.hid (F44.out.below hb49 (Nat.le_refl _))
      have B56 := Lib.hid (B45.out.trans (hb49.mono B45.out.size))
      clear hb49
      have M57 := Lib.hid (load_id T50.out)
      go_wp2_with (first | ((with_reducible refine wpList_load_by (o := ⟨some 31, .load 40 (.tmp 30), _, _, _, _⟩) ?e1 40 (.tmp 30) ?e2 ⟨w.heap.size, 0, none⟩ ?e3 _ M57.out ?_); (case e1 => rfl); (case e2 => rfl); (case e3 => rfl)) | ((with_reducible refine wpList_store_id (o := ⟨none, .store 40 (.tmp 32) (.tmp 31), _, _, _, _⟩) ?e1 (.tmp 32) (.tmp 31) ?e2 (w.heap.size + 1) ?e3 a.z ?e4 b.z b.n b.r (.slice B b.fs.length cb) T51.out OKa.out.len ?_); (case e1 => rfl); (case e2 => rfl); (case e3 => rfl); (case e4 => rfl); intro w58 hg59 hRs; have T60 : Hid (RcAt w58 (w.heap.size + 1) (b.named a.z).z (b.named a.z).n (b.named a.z).r (.slice B (b.named a.z).fs.length cb)) := Lib.hid hRs; clear hRs; have T61 := Lib.hid (T50.out.kept hg59 (fun e => by have := Option.some.inj e; omega)); have T62 := Lib.hid (T52.out.kept hg59 (fun e => by have := Option.some.inj e; omega)); have B63 := Lib.hid (B56.out.grown hg59 B56.out.size (fun k e => by have := Option.some.inj e; omega)); have F64 := Lib.hid (Fa.out.below B63.out (Nat.le_refl _)); have F65 := Lib.hid (Fb.out.below B63.out (Nat.le_refl _)); have F66 := Lib.hid (Fc.out.below B63.out (Nat.le_refl _)); have F67 := Lib.hid (Fb.out.below B63.out (Nat.le_refl _)); clear hg59; have M68 := Lib.hid (load_id T61.out)) | ((with_reducible refine wpList_load_by (o := ⟨some 34, .load 40 (.tmp 33), _, _, _, _⟩) ?e1 40 (.tmp 33) ?e2 ⟨w.heap.size, 0, none⟩ ?e3 _ M68.out ?_); (case e1 => rfl); (case e2 => rfl); (case e3 => rfl)) | ((with_reducible refine wpList_store_id (o := ⟨none, .store 40 (.tmp 35) (.tmp 34), _, _, _, _⟩) ?e1 (.tmp 35) (.tmp 34) ?e2 (w.heap.size + 1 + 1) ?e3 a.z ?e4 c.z c.n c.r (.slice C c.fs.length cc) T62.out OKa.out.len ?_); (case e1 => rfl); (case e2 => rfl); (case e3 => rfl); (case e4 => rfl); intro w69 hg70 hRs; have T71 : Hid (RcAt w69 (w.heap.size + 1 + 1) (c.named a.z).z (c.named a.z).n (c.named a.z).r (.slice C (c.named a.z).fs.length cc)) := Lib.hid hRs; clear hRs; have T72 := Lib.hid (T61.out.kept hg70 (fun e => by have := Option.some.inj e; omega)); have T73 := Lib.hid (T60.out.kept hg70 (fun e => by have := Option.some.inj e; omega)); have B74 := Lib.hid (B63.out.grown hg70 B63.out.size (fun k e => by have := Option.some.inj e; omega)); have F75 := Lib.hid (Fa.out.below B74.out (Nat.le_refl _)); have F76 := Lib.hid (Fb.out.below B74.out (Nat.le_refl _)); have F77 := Lib.hid (Fc.out.below B74.out (Nat.le_refl _)); have F78 := Lib.hid (Fb.out.below B74.out (Nat.le_refl _)); have F79 := Lib.hid (Fc.out.below B74.out (Nat.le_refl _)); clear hg70))
      go_ret
      exact ⟨rfl, B74.out⟩
    · rw [pa, pb] at h
      have PA := Lib.hid pa
      have PB := Lib.hid pb
      have PC := Lib.hid (show fewR c.fs = false by simpa using h)
      clear pa pb h
      have B1 := Lib.hid (Below.refl w.heap.size w)
      have T2n := RcAt.new w OKa.out.len a.n a.r (.slice A a.fs.length ca)
      have T2 := Lib.hid (T2n)
      clear T2n
      have B3 := Lib.hid (B1.out.alloc B1.out.size (.cells (rcells a.z a.n a.r (.slice A a.fs.length ca)) 43))
      have T4 := Lib.hid (T2.out.old (.cells (rcells b.z b.n b.r (.slice B b.fs.length cb)) 43))
      have T5n := RcAt.new (w.alloc (.cells (rcells a.z a.n a.r (.slice A a.fs.length ca)) 43)) OKb.out.len b.n b.r (.slice B b.fs.length cb)
      simp only [World.size_alloc] at T5n
      have T5 := Lib.hid (T5n)
      clear T5n
      have B6 := Lib.hid (B3.out.alloc B3.out.size (.cells (rcells b.z b.n b.r (.slice B b.fs.length cb)) 43))
      have T7 := Lib.hid (T4.out.old (.cells (rcells c.z c.n c.r (.slice C c.fs.length cc)) 43))
      have T8 := Lib.hid (T5.out.old (.cells (rcells c.z c.n c.r (.slice C c.fs.length cc)) 43))
      have T9n := RcAt.new ((w.alloc (.cells (rcells a.z a.n a.r (.slice A a.fs.length ca)) 43)).alloc (.cells (rcells b.z b.n b.r (.slice B b.fs.length cb)) 43)) OKc.out.len c.n c.r (.slice C c.fs.length cc)
      simp only [World.size_alloc] at T9n
      have T9 := Lib.hid (T9n)
      clear T9n
      have B10 := Lib.hid (B6.out.alloc B6.out.size (.cells (rcells c.z c.n c.r (.slice C c.fs.length cc)) 43))
      have F11 := Lib.hid (Fa.out.below B10.out (Nat.le_refl _))
      have F12 := Lib.hid (Fb.out.below B10.out (Nat.le_refl _))
      have F13 := Lib.hid (Fc.out.below B10.out (Nat.le_refl _))
      go_enter Tryd.func7, Tryd.ntmps7
      have C14 := Lib.hid (rcAwake (((w.alloc (.cells (rcells a.z a.n a.r (.slice A a.fs.length ca)) 43)).alloc (.cells (rcells b.z b.n b.r (.slice B b.fs.length cb)) 43)).alloc (.cells (rcells c.z c.n c.r (.slice C c.fs.length cc)) 43)) (HLA.out _ B10.out))
      go_wp2_with fail
      refine C14.out.mono ?_
      rintro e w15 ⟨rfl, hb16⟩
      have T17 := Lib.hid (T7.out.below hb16 T7.out.lt)
      have T18 := Lib.hid (T8.out.below hb16 T8.out.lt)
      have T19 := Lib.hid (T9.out.below hb16 T9.out.lt)
      have F20 := Lib.hid (F11.out.below hb16 (Nat.le_refl _))
      have F21 := Lib.hid (F12.out.below hb16 (Nat.le_refl _))
      have F22 := Lib.hid (F13.out.below hb16 (Nat.le_refl _))
      have B23 := Lib.hid (B10.out.trans (hb16.mono B10.out.size))
      clear hb16
      have M24 := Lib.hid (load_rec T17.out)
      unfold rv at M24
      have C25 := Lib.hid (fewR_any a A ca w15 OKa.out F20.out)
      unfold Rc.v at C25
      unfold rv at C25
      rw [PA.out] at C25
      go_wp2_with (first | ((with_reducible refine wpList_load_by (o := ⟨some 24, .load 43 (.tmp 3), _, _, _, _⟩) ?e1 43 (.tmp 3) ?e2 ⟨w.heap.size, 0, none⟩ ?e3 _ M24.out ?_); (case e1 => rfl); (case e2 => rfl); (case e3 => rfl)))
      refine C25.out.mono ?_
      rintro e w26 ⟨rfl, hb27⟩
      have T28 := Lib.hid (T17.out.below hb27 T17.out.lt)
      have T29 := Lib.hid (T18.out.below hb27 T18.out.lt)
      have T30 := Lib.hid (T19.out.below hb27 T19.out.lt)
      have F31 := Lib.hid (F20.out.below hb27 (Nat.le_refl _))
      have F32 := Lib.hid (F21.out.below hb27 (Nat.le_refl _))
      have F33 := Lib.hid (F22.out.below hb27 (Nat.le_refl _))
      have B34 := Lib.hid (B23.out.trans (hb27.mono B23.out.size))
      clear hb27
      have M35 := Lib.hid (load_rec T29.out)
      unfold rv at M35
      have C36 := Lib.hid (fewR_any b B cb w26 OKb.out F32.out)
      unfold Rc.v at C36
      unfold rv at C36
      rw [PB.out] at C36
      go_wp2_with (first | ((with_reducible refine wpList_load_by (o := ⟨some 26, .load 43 (.tmp 4), _, _, _, _⟩) ?e1 43 (.tmp 4) ?e2 ⟨(w.heap.size + 1), 0, none⟩ ?e3 _ M35.out ?_); (case e1 => rfl); (case e2 => rfl); (case e3 => rfl)))
      refine C36.out.mono ?_
      rintro e w37 ⟨rfl, hb38⟩
      have T39 := Lib.hid (T28.out.below hb38 T28.out.lt)
      have T40 := Lib.hid (T29.out.below hb38 T29.out.lt)
      have T41 := Lib.hid (T30.out.below hb38 T30.out.lt)
      have F42 := Lib.hid (F31.out.below hb38 (Nat.le_refl _))
      have F43 := Lib.hid (F32.out.below hb38 (Nat.le_refl _))
      have F44 := Lib.hid (F33.out.below hb38 (Nat.le_refl _))
      have B45 := Lib.hid (B34.out.trans (hb38.mono B34.out.size))
      clear hb38
      have M46 := Lib.hid (load_rec T41.out)
      unfold rv at M46
      have C47 := Lib.hid (fewR_any c C cc w37 OKc.out F44.out)
      unfold Rc.v at C47
      unfold rv at C47
      rw [PC.out] at C47
      go_wp2_with (first | ((with_reducible refine wpList_load_by (o := ⟨some 28, .load 43 (.tmp 5), _, _, _, _⟩) ?e1 43 (.tmp 5) ?e2 ⟨(w.heap.size + 1 + 1), 0, none⟩ ?e3 _ M46.out ?_); (case e1 => rfl); (case e2 => rfl); (case e3 => rfl)))
      refine C47.out.mono ?_
      rintro e w48 ⟨rfl, hb49⟩
      have T50 := Lib.hid (T39.out.below hb49 T39.out.lt)
      have T51 := Lib.hid (T40.out.below hb49 T40.out.lt)
      have T52 := Lib.hid (T41.out.below hb49 T41.out.lt)
      have F53 := Lib.hid (F42.out.below hb49 (Nat.le_refl _))
      have F54 := Lib.hid (F43.out.below hb49 (Nat.le_refl _))
      have F55 := Lib.hid (F44.out.below hb49 (Nat.le_refl _))
      have B56 := Lib.hid (B45.out.trans (hb49.mono B45.out.size))
      clear hb49
      have M57 := Lib.hid (load_id T50.out)
      go_wp2_with (first | ((with_reducible refine wpList_load_by (o := ⟨some 31, .load 40 (.tmp 30), _, _, _, _⟩) ?e1 40 (.tmp 30) ?e2 ⟨w.heap.size, 0, none⟩ ?e3 _ M57.out ?_); (case e1 => rfl); (case e2 => rfl); (case e3 => rfl)) | ((with_reducible refine wpList_store_id (o := ⟨none, .store 40 (.tmp 32) (.tmp 31), _, _, _, _⟩) ?e1 (.tmp 32) (.tmp 31) ?e2 (w.heap.size + 1) ?e3 a.z ?e4 b.z b.n b.r (.slice B b.fs.length cb) T51.out OKa.out.len ?_); (case e1 => rfl); (case e2 => rfl); (case e3 => rfl); (case e4 => rfl); intro w58 hg59 hRs; have T60 : Hid (RcAt w58 (w.heap.size + 1) (b.named a.z).z (b.named a.z).n (b.named a.z).r (.slice B (b.named a.z).fs.length cb)) := Lib.hid hRs; clear hRs; have T61 := Lib.hid (T50.out.kept hg59 (fun e => by have := Option.some.inj e; omega)); have T62 := Lib.hid (T52.out.kept hg59 (fun e => by have := Option.some.inj e; omega)); have B63 := Lib.hid (B56.out.grown hg59 B56.out.size (fun k e => by have := Option.some.inj e; omega)); have F64 := Lib.hid (Fa.out.below B63.out (Nat.le_refl _)); have F65 := Lib.hid (Fb.out.below B63.out (Nat.le_refl _)); have F66 := Lib.hid (Fc.out.below B63.out (Nat.le_refl _)); have F67 := Lib.hid (Fb.out.below B63.out (Nat.le_refl _)); clear hg59; have M68 := Lib.hid (load_id T61.out)) | ((with_reducible refine wpList_load_by (o := ⟨some 34, .load 40 (.tmp 33), _, _, _, _⟩) ?e1 40 (.tmp 33) ?e2 ⟨w.heap.size, 0, none⟩ ?e3 _ M68.out ?_); (case e1 => rfl); (case e2 => rfl); (case e3 => rfl)) | ((with_reducible refine wpList_store_id (o := ⟨none, .store 40 (.tmp 35) (.tmp 34), _, _, _, _⟩) ?e1 (.tmp 35) (.tmp 34) ?e2 (w.heap.size + 1 + 1) ?e3 a.z ?e4 c.z c.n c.r (.slice C c.fs.length cc) T62.out OKa.out.len ?_); (case e1 => rfl); (case e2 => rfl); (case e3 => rfl); (case e4 => rfl); intro w69 hg70 hRs; have T71 : Hid (RcAt w69 (w.heap.size + 1 + 1) (c.named a.z).z (c.named a.z).n (c.named a.z).r (.slice C (c.named a.z).fs.length cc)) := Lib.hid hRs; clear hRs; have T72 := Lib.hid (T61.out.kept hg70 (fun e => by have := Option.some.inj e; omega)); have T73 := Lib.hid (T60.out.kept hg70 (fun e => by have := Option.some.inj e; omega)); have B74 := Lib.hid (B63.out.grown hg70 B63.out.size (fun k e => by have := Option.some.inj e; omega)); have F75 := Lib.hid (Fa.out.below B74.out (Nat.le_refl _)); have F76 := Lib.hid (Fb.out.below B74.out (Nat.le_refl _)); have F77 := Lib.hid (Fc.out.below B74.out (Nat.le_refl _)); have F78 := Lib.hid (Fb.out.below B74.out (Nat.le_refl _)); have F79 := Lib.hid (Fc.out.below B74.out (Nat.le_refl _)); clear hg70))
      go_ret
      exact ⟨rfl, B74.out⟩
set_option maxHeartbeats 16000000 in
theorem joins_may (a : Rc) (A : Option Addr) (ca : Nat) (b : Rc) (B : Option Addr) (cb : Nat) (c : Rc) (C : Option Addr) (cc : Nat) (w : World) (hlaid : Laid w) (wa : IsRec w a A ca) (wb : IsRec w b B cb) (wc : IsRec w c C cc) (p : (fewR a.fs && fewR b.fs && fewR c.fs) = true) (h : (a.may && (b.named a.z).may && (c.named a.z).may) = false) :
    Calls Tryd.prog 7 #[a.v A ca, b.v B cb, c.v C cc] w fun e w' => e = .returned (.bool true) ∧ Below w.heap.size w w' := by
  have HLA := Lib.hid (fun (X : World) (hX : Below w.heap.size w X) => hlaid.below hX (Nat.le_refl _))
  have OKa := Lib.hid wa.1
  have OKb := Lib.hid wb.1
  have OKc := Lib.hid wc.1
  have OKb2 := Lib.hid (named_ok (R := b) wa.1.1 wa.1.2)
  have OKc2 := Lib.hid (named_ok (R := c) wa.1.1 wa.1.2)
  have Fa := Lib.hid wa.2.1
  have Fb := Lib.hid wb.2.1
  have Fc := Lib.hid wc.2.1
  have hz := zeroRec
  unfold rv at hz
  conv => congr; rfl; rfl; (unfold Rc.v rv)
  clear hlaid wa wb wc
  simp only [Bool.and_eq_true] at p
  have PA := Lib.hid p.1.1
  have PB := Lib.hid p.1.2
  have PC := Lib.hid p.2
  clear p
  cases ma : a.may
  · have MA := Lib.hid ma
    clear ma h
    have B1 := Lib.hid (Below.refl w.heap.size w)
    have T2n := RcAt.new w OKa.out.len a.n a.r (.slice A a.fs.length ca)
    have T2 := Lib.hid (T2n)
    clear T2n
    have B3 := Lib.hid (B1.out.alloc B1.out.size (.cells (rcells a.z a.n a.r (.slice A a.fs.length ca)) 43))
    have T4 := Lib.hid (T2.out.old (.cells (rcells b.z b.n b.r (.slice B b.fs.length cb)) 43))
    have T5n := RcAt.new (w.alloc (.cells (rcells a.z a.n a.r (.slice A a.fs.length ca)) 43)) OKb.out.len b.n b.r (.slice B b.fs.length cb)
    simp only [World.size_alloc] at T5n
    have T5 := Lib.hid (T5n)
    clear T5n
    have B6 := Lib.hid (B3.out.alloc B3.out.size (.cells (rcells b.z b.n b.r (.slice B b.fs.length cb)) 43))
    have T7 := Lib.hid (T4.out.old (.cells (rcells c.z c.n c.r (.slice C c.fs.length cc)) 43))
    have T8 := Lib.hid (T5.out.old (.cells (rcells c.z c.n c.r (.slice C c.fs.length cc)) 43))
    have T9n := RcAt.new ((w.alloc (.cells (rcells a.z a.n a.r (.slice A a.fs.length ca)) 43)).alloc (.cells (rcells b.z b.n b.r (.slice B b.fs.length cb)) 43)) OKc.out.len c.n c.r (.slice C c.fs.length cc)
    simp only [World.size_alloc] at T9n
    have T9 := Lib.hid (T9n)
    clear T9n
    have B10 := Lib.hid (B6.out.alloc B6.out.size (.cells (rcells c.z c.n c.r (.slice C c.fs.length cc)) 43))
    have F11 := Lib.hid (Fa.out.below B10.out (Nat.le_refl _))
    have F12 := Lib.hid (Fb.out.below B10.out (Nat.le_refl _))
    have F13 := Lib.hid (Fc.out.below B10.out (Nat.le_refl _))
    go_enter Tryd.func7, Tryd.ntmps7
    have C14 := Lib.hid (rcAwake (((w.alloc (.cells (rcells a.z a.n a.r (.slice A a.fs.length ca)) 43)).alloc (.cells (rcells b.z b.n b.r (.slice B b.fs.length cb)) 43)).alloc (.cells (rcells c.z c.n c.r (.slice C c.fs.length cc)) 43)) (HLA.out _ B10.out))
    go_wp2_with fail
    refine C14.out.mono ?_
    rintro e w15 ⟨rfl, hb16⟩
    have T17 := Lib.hid (T7.out.below hb16 T7.out.lt)
    have T18 := Lib.hid (T8.out.below hb16 T8.out.lt)
    have T19 := Lib.hid (T9.out.below hb16 T9.out.lt)
    have F20 := Lib.hid (F11.out.below hb16 (Nat.le_refl _))
    have F21 := Lib.hid (F12.out.below hb16 (Nat.le_refl _))
    have F22 := Lib.hid (F13.out.below hb16 (Nat.le_refl _))
    have B23 := Lib.hid (B10.out.trans (hb16.mono B10.out.size))
    clear hb16
    have M24 := Lib.hid (load_rec T17.out)
    unfold rv at M24
    have C25 := Lib.hid (fewR_any a A ca w15 OKa.out F20.out)
    unfold Rc.v at C25
    unfold rv at C25
    rw [PA.out] at C25
    go_wp2_with (first | ((with_reducible refine wpList_load_by (o := ⟨some 24, .load 43 (.tmp 3), _, _, _, _⟩) ?e1 43 (.tmp 3) ?e2 ⟨w.heap.size, 0, none⟩ ?e3 _ M24.out ?_); (case e1 => rfl); (case e2 => rfl); (case e3 => rfl)))
    refine C25.out.mono ?_
    rintro e w26 ⟨rfl, hb27⟩
    have T28 := Lib.hid (T17.out.below hb27 T17.out.lt)
    have T29 := Lib.hid (T18.out.below hb27 T18.out.lt)
    have T30 := Lib.hid (T19.out.below hb27 T19.out.lt)
    have F31 := Lib.hid (F20.out.below hb27 (Nat.le_refl _))
    have F32 := Lib.hid (F21.out.below hb27 (Nat.le_refl _))
    have F33 := Lib.hid (F22.out.below hb27 (Nat.le_refl _))
    have B34 := Lib.hid (B23.out.trans (hb27.mono B23.out.size))
    clear hb27
    have M35 := Lib.hid (load_rec T29.out)
    unfold rv at M35
    have C36 := Lib.hid (fewR_any b B cb w26 OKb.out F32.out)
    unfold Rc.v at C36
    unfold rv at C36
    rw [PB.out] at C36
    go_wp2_with (first | ((with_reducible refine wpList_load_by (o := ⟨some 26, .load 43 (.tmp 4), _, _, _, _⟩) ?e1 43 (.tmp 4) ?e2 ⟨(w.heap.size + 1), 0, none⟩ ?e3 _ M35.out ?_); (case e1 => rfl); (case e2 => rfl); (case e3 => rfl)))
    refine C36.out.mono ?_
    rintro e w37 ⟨rfl, hb38⟩
    have T39 := Lib.hid (T28.out.below hb38 T28.out.lt)
    have T40 := Lib.hid (T29.out.below hb38 T29.out.lt)
    have T41 := Lib.hid (T30.out.below hb38 T30.out.lt)
    have F42 := Lib.hid (F31.out.below hb38 (Nat.le_refl _))
    have F43 := Lib.hid (F32.out.below hb38 (Nat.le_refl _))
    have F44 := Lib.hid (F33.out.below hb38 (Nat.le_refl _))
    have B45 := Lib.hid (B34.out.trans (hb38.mono B34.out.size))
    clear hb38
    have M46 := Lib.hid (load_rec T41.out)
    unfold rv at M46
    have C47 := Lib.hid (fewR_any c C cc w37 OKc.out F44.out)
    unfold Rc.v at C47
    unfold rv at C47
    rw [PC.out] at C47
    go_wp2_with (first | ((with_reducible refine wpList_load_by (o := ⟨some 28, .load 43 (.tmp 5), _, _, _, _⟩) ?e1 43 (.tmp 5) ?e2 ⟨(w.heap.size + 1 + 1), 0, none⟩ ?e3 _ M46.out ?_); (case e1 => rfl); (case e2 => rfl); (case e3 => rfl)))
    refine C47.out.mono ?_
    rintro e w48 ⟨rfl, hb49⟩
    have T50 := Lib.hid (T39.out.below hb49 T39.out.lt)
    have T51 := Lib.hid (T40.out.below hb49 T40.out.lt)
    have T52 := Lib.hid (T41.out.below hb49 T41.out.lt)
    have F53 := Lib.hid (F42.out.below hb49 (Nat.le_refl _))
    have F54 := Lib.hid (F43.out.below hb49 (Nat.le_refl _))
    have F55 := Lib.hid (F44.out.below hb49 (Nat.le_refl _))
    have B56 := Lib.hid (B45.out.trans (hb49.mono B45.out.size))
    clear hb49
    have M57 := Lib.hid (load_id T50.out)
    go_wp2_with (first | ((with_reducible refine wpList_load_by (o := ⟨some 31, .load 40 (.tmp 30), _, _, _, _⟩) ?e1 40 (.tmp 30) ?e2 ⟨w.heap.size, 0, none⟩ ?e3 _ M57.out ?_); (case e1 => rfl); (case e2 => rfl); (case e3 => rfl)) | ((with_reducible refine wpList_store_id (o := ⟨none, .store 40 (.tmp 32) (.tmp 31), _, _, _, _⟩) ?e1 (.tmp 32) (.tmp 31) ?e2 (w.heap.size + 1) ?e3 a.z ?e4 b.z b.n b.r (.slice B b.fs.length cb) T51.out OKa.out.len ?_); (case e1 => rfl); (case e2 => rfl); (case e3 => rfl); (case e4 => rfl); intro w58 hg59 hRs; have T60 : Hid (RcAt w58 (w.heap.size + 1) (b.named a.z).z (b.named a.z).n (b.named a.z).r (.slice B (b.named a.z).fs.length cb)) := Lib.hid hRs; clear hRs; have T61 := Lib.hid (T50.out.kept hg59 (fun e => by have := Option.some.inj e; omega)); have T62 := Lib.hid (T52.out.kept hg59 (fun e => by have := Option.some.inj e; omega)); have B63 := Lib.hid (B56.out.grown hg59 B56.out.size (fun k e => by have := Option.some.inj e; omega)); have F64 := Lib.hid (Fa.out.below B63.out (Nat.le_refl _)); have F65 := Lib.hid (Fb.out.below B63.out (Nat.le_refl _)); have F66 := Lib.hid (Fc.out.below B63.out (Nat.le_refl _)); have F67 := Lib.hid (Fb.out.below B63.out (Nat.le_refl _)); clear hg59; have M68 := Lib.hid (load_id T61.out)) | ((with_reducible refine wpList_load_by (o := ⟨some 34, .load 40 (.tmp 33), _, _, _, _⟩) ?e1 40 (.tmp 33) ?e2 ⟨w.heap.size, 0, none⟩ ?e3 _ M68.out ?_); (case e1 => rfl); (case e2 => rfl); (case e3 => rfl)) | ((with_reducible refine wpList_store_id (o := ⟨none, .store 40 (.tmp 35) (.tmp 34), _, _, _, _⟩) ?e1 (.tmp 35) (.tmp 34) ?e2 (w.heap.size + 1 + 1) ?e3 a.z ?e4 c.z c.n c.r (.slice C c.fs.length cc) T62.out OKa.out.len ?_); (case e1 => rfl); (case e2 => rfl); (case e3 => rfl); (case e4 => rfl); intro w69 hg70 hRs; have T71 : Hid (RcAt w69 (w.heap.size + 1 + 1) (c.named a.z).z (c.named a.z).n (c.named a.z).r (.slice C (c.named a.z).fs.length cc)) := Lib.hid hRs; clear hRs; have T72 := Lib.hid (T61.out.kept hg70 (fun e => by have := Option.some.inj e; omega)); have T73 := Lib.hid (T60.out.kept hg70 (fun e => by have := Option.some.inj e; omega)); have B74 := Lib.hid (B63.out.grown hg70 B63.out.size (fun k e => by have := Option.some.inj e; omega)); have F75 := Lib.hid (Fa.out.below B74.out (Nat.le_refl _)); have F76 := Lib.hid (Fb.out.below B74.out (Nat.le_refl _)); have F77 := Lib.hid (Fc.out.below B74.out (Nat.le_refl _)); have F78 := Lib.hid (Fb.out.below B74.out (Nat.le_refl _)); have F79 := Lib.hid (Fc.out.below B74.out (Nat.le_refl _)); clear hg70; have M80 := Lib.hid (load_rec T72.out); unfold rv at M80; have C81 := Lib.hid (may_any' a A ca w69 OKa.out F75.out); unfold Rc.v at C81; unfold rv at C81; rw [MA.out] at C81) | ((with_reducible refine wpList_load_by (o := ⟨some 51, .load 43 (.tmp 3), _, _, _, _⟩) ?e1 43 (.tmp 3) ?e2 ⟨w.heap.size, 0, none⟩ ?e3 _ M80.out ?_); (case e1 => rfl); (case e2 => rfl); (case e3 => rfl)))
    refine C81.out.mono ?_
    rintro e w82 ⟨rfl, hb83⟩
    have T84 := Lib.hid (T72.out.below hb83 T72.out.lt)
    have T85 := Lib.hid (T73.out.below hb83 T73.out.lt)
    have T86 := Lib.hid (T71.out.below hb83 T71.out.lt)
    have F87 := Lib.hid (F75.out.below hb83 (Nat.le_refl _))
    have F88 := Lib.hid (F76.out.below hb83 (Nat.le_refl _))
    have F89 := Lib.hid (F77.out.below hb83 (Nat.le_refl _))
    have F90 := Lib.hid (F78.out.below hb83 (Nat.le_refl _))
    have F91 := Lib.hid (F79.out.below hb83 (Nat.le_refl _))
    have B92 := Lib.hid (B74.out.trans (hb83.mono B74.out.size))
    clear hb83
    go_wp2
    go_ret
    exact ⟨rfl, B92.out⟩
  · cases mb : (b.named a.z).may
    · have MA := Lib.hid ma
      have MB := Lib.hid mb
      clear ma mb h
      have B1 := Lib.hid (Below.refl w.heap.size w)
      have T2n := RcAt.new w OKa.out.len a.n a.r (.slice A a.fs.length ca)
      have T2 := Lib.hid (T2n)
      clear T2n
      have B3 := Lib.hid (B1.out.alloc B1.out.size (.cells (rcells a.z a.n a.r (.slice A a.fs.length ca)) 43))
      have T4 := Lib.hid (T2.out.old (.cells (rcells b.z b.n b.r (.slice B b.fs.length cb)) 43))
      have T5n := RcAt.new (w.alloc (.cells (rcells a.z a.n a.r (.slice A a.fs.length ca)) 43)) OKb.out.len b.n b.r (.slice B b.fs.length cb)
      simp only [World.size_alloc] at T5n
      have T5 := Lib.hid (T5n)
      clear T5n
      have B6 := Lib.hid (B3.out.alloc B3.out.size (.cells (rcells b.z b.n b.r (.slice B b.fs.length cb)) 43))
      have T7 := Lib.hid (T4.out.old (.cells (rcells c.z c.n c.r (.slice C c.fs.length cc)) 43))
      have T8 := Lib.hid (T5.out.old (.cells (rcells c.z c.n c.r (.slice C c.fs.length cc)) 43))
      have T9n := RcAt.new ((w.alloc (.cells (rcells a.z a.n a.r (.slice A a.fs.length ca)) 43)).alloc (.cells (rcells b.z b.n b.r (.slice B b.fs.length cb)) 43)) OKc.out.len c.n c.r (.slice C c.fs.length cc)
      simp only [World.size_alloc] at T9n
      have T9 := Lib.hid (T9n)
      clear T9n
      have B10 := Lib.hid (B6.out.alloc B6.out.size (.cells (rcells c.z c.n c.r (.slice C c.fs.length cc)) 43))
      have F11 := Lib.hid (Fa.out.below B10.out (Nat.le_refl _))
      have F12 := Lib.hid (Fb.out.below B10.out (Nat.le_refl _))
      have F13 := Lib.hid (Fc.out.below B10.out (Nat.le_refl _))
      go_enter Tryd.func7, Tryd.ntmps7
      have C14 := Lib.hid (rcAwake (((w.alloc (.cells (rcells a.z a.n a.r (.slice A a.fs.length ca)) 43)).alloc (.cells (rcells b.z b.n b.r (.slice B b.fs.length cb)) 43)).alloc (.cells (rcells c.z c.n c.r (.slice C c.fs.length cc)) 43)) (HLA.out _ B10.out))
      go_wp2_with fail
      refine C14.out.mono ?_
      rintro e w15 ⟨rfl, hb16⟩
      have T17 := Lib.hid (T7.out.below hb16 T7.out.lt)
      have T18 := Lib.hid (T8.out.below hb16 T8.out.lt)
      have T19 := Lib.hid (T9.out.below hb16 T9.out.lt)
      have F20 := Lib.hid (F11.out.below hb16 (Nat.le_refl _))
      have F21 := Lib.hid (F12.out.below hb16 (Nat.le_refl _))
      have F22 := Lib.hid (F13.out.below hb16 (Nat.le_refl _))
      have B23 := Lib.hid (B10.out.trans (hb16.mono B10.out.size))
      clear hb16
      have M24 := Lib.hid (load_rec T17.out)
      unfold rv at M24
      have C25 := Lib.hid (fewR_any a A ca w15 OKa.out F20.out)
      unfold Rc.v at C25
      unfold rv at C25
      rw [PA.out] at C25
      go_wp2_with (first | ((with_reducible refine wpList_load_by (o := ⟨some 24, .load 43 (.tmp 3), _, _, _, _⟩) ?e1 43 (.tmp 3) ?e2 ⟨w.heap.size, 0, none⟩ ?e3 _ M24.out ?_); (case e1 => rfl); (case e2 => rfl); (case e3 => rfl)))
      refine C25.out.mono ?_
      rintro e w26 ⟨rfl, hb27⟩
      have T28 := Lib.hid (T17.out.below hb27 T17.out.lt)
      have T29 := Lib.hid (T18.out.below hb27 T18.out.lt)
      have T30 := Lib.hid (T19.out.below hb27 T19.out.lt)
      have F31 := Lib.hid (F20.out.below hb27 (Nat.le_refl _))
      have F32 := Lib.hid (F21.out.below hb27 (Nat.le_refl _))
      have F33 := Lib.hid (F22.out.below hb27 (Nat.le_refl _))
      have B34 := Lib.hid (B23.out.trans (hb27.mono B23.out.size))
      clear hb27
      have M35 := Lib.hid (load_rec T29.out)
      unfold rv at M35
      have C36 := Lib.hid (fewR_any b B cb w26 OKb.out F32.out)
      unfold Rc.v at C36
      unfold rv at C36
      rw [PB.out] at C36
      go_wp2_with (first | ((with_reducible refine wpList_load_by (o := ⟨some 26, .load 43 (.tmp 4), _, _, _, _⟩) ?e1 43 (.tmp 4) ?e2 ⟨(w.heap.size + 1), 0, none⟩ ?e3 _ M35.out ?_); (case e1 => rfl); (case e2 => rfl); (case e3 => rfl)))
      refine C36.out.mono ?_
      rintro e w37 ⟨rfl, hb38⟩
      have T39 := Lib.hid (T28.out.below hb38 T28.out.lt)
      have T40 := Lib.hid (T29.out.below hb38 T29.out.lt)
      have T41 := Lib.hid (T30.out.below hb38 T30.out.lt)
      have F42 := Lib.hid (F31.out.below hb38 (Nat.le_refl _))
      have F43 := Lib.hid (F32.out.below hb38 (Nat.le_refl _))
      have F44 := Lib.hid (F33.out.below hb38 (Nat.le_refl _))
      have B45 := Lib.hid (B34.out.trans (hb38.mono B34.out.size))
      clear hb38
      have M46 := Lib.hid (load_rec T41.out)
      unfold rv at M46
      have C47 := Lib.hid (fewR_any c C cc w37 OKc.out F44.out)
      unfold Rc.v at C47
      unfold rv at C47
      rw [PC.out] at C47
      go_wp2_with (first | ((with_reducible refine wpList_load_by (o := ⟨some 28, .load 43 (.tmp 5), _, _, _, _⟩) ?e1 43 (.tmp 5) ?e2 ⟨(w.heap.size + 1 + 1), 0, none⟩ ?e3 _ M46.out ?_); (case e1 => rfl); (case e2 => rfl); (case e3 => rfl)))
      refine C47.out.mono ?_
      rintro e w48 ⟨rfl, hb49⟩
      have T50 := Lib.hid (T39.out.below hb49 T39.out.lt)
      have T51 := Lib.hid (T40.out.below hb49 T40.out.lt)
      have T52 := Lib.hid (T41.out.below hb49 T41.out.lt)
      have F53 := Lib.hid (F42.out.below hb49 (Nat.le_refl _))
      have F54 := Lib.hid (F43.out.below hb49 (Nat.le_refl _))
      have F55 := Lib.hid (F44.out.below hb49 (Nat.le_refl _))
      have B56 := Lib.hid (B45.out.trans (hb49.mono B45.out.size))
      clear hb49
      have M57 := Lib.hid (load_id T50.out)
      go_wp2_with (first | ((with_reducible refine wpList_load_by (o := ⟨some 31, .load 40 (.tmp 30), _, _, _, _⟩) ?e1 40 (.tmp 30) ?e2 ⟨w.heap.size, 0, none⟩ ?e3 _ M57.out ?_); (case e1 => rfl); (case e2 => rfl); (case e3 => rfl)) | ((with_reducible refine wpList_store_id (o := ⟨none, .store 40 (.tmp 32) (.tmp 31), _, _, _, _⟩) ?e1 (.tmp 32) (.tmp 31) ?e2 (w.heap.size + 1) ?e3 a.z ?e4 b.z b.n b.r (.slice B b.fs.length cb) T51.out OKa.out.len ?_); (case e1 => rfl); (case e2 => rfl); (case e3 => rfl); (case e4 => rfl); intro w58 hg59 hRs; have T60 : Hid (RcAt w58 (w.heap.size + 1) (b.named a.z).z (b.named a.z).n (b.named a.z).r (.slice B (b.named a.z).fs.length cb)) := Lib.hid hRs; clear hRs; have T61 := Lib.hid (T50.out.kept hg59 (fun e => by have := Option.some.inj e; omega)); have T62 := Lib.hid (T52.out.kept hg59 (fun e => by have := Option.some.inj e; omega)); have B63 := Lib.hid (B56.out.grown hg59 B56.out.size (fun k e => by have := Option.some.inj e; omega)); have F64 := Lib.hid (Fa.out.below B63.out (Nat.le_refl _)); have F65 := Lib.hid (Fb.out.below B63.out (Nat.le_refl _)); have F66 := Lib.hid (Fc.out.below B63.out (Nat.le_refl _)); have F67 := Lib.hid (Fb.out.below B63.out (Nat.le_refl _)); clear hg59; have M68 := Lib.hid (load_id T61.out)) | ((with_reducible refine wpList_load_by (o := ⟨some 34, .load 40 (.tmp 33), _, _, _, _⟩) ?e1 40 (.tmp 33) ?e2 ⟨w.heap.size, 0, none⟩ ?e3 _ M68.out ?_); (case e1 => rfl); (case e2 => rfl); (case e3 => rfl)) | ((with_reducible refine wpList_store_id (o := ⟨none, .store 40 (.tmp 35) (.tmp 34), _, _, _, _⟩) ?e1 (.tmp 35) (.tmp 34) ?e2 (w.heap.size + 1 + 1) ?e3 a.z ?e4 c.z c.n c.r (.slice C c.fs.length cc) T62.out OKa.out.len ?_); (case e1 => rfl); (case e2 => rfl); (case e3 => rfl); (case e4 => rfl); intro w69 hg70 hRs; have T71 : Hid (RcAt w69 (w.heap.size + 1 + 1) (c.named a.z).z (c.named a.z).n (c.named a.z).r (.slice C (c.named a.z).fs.length cc)) := Lib.hid hRs; clear hRs; have T72 := Lib.hid (T61.out.kept hg70 (fun e => by have := Option.some.inj e; omega)); have T73 := Lib.hid (T60.out.kept hg70 (fun e => by have := Option.some.inj e; omega)); have B74 := Lib.hid (B63.out.grown hg70 B63.out.size (fun k e => by have := Option.some.inj e; omega)); have F75 := Lib.hid (Fa.out.below B74.out (Nat.le_refl _)); have F76 := Lib.hid (Fb.out.below B74.out (Nat.le_refl _)); have F77 := Lib.hid (Fc.out.below B74.out (Nat.le_refl _)); have F78 := Lib.hid (Fb.out.below B74.out (Nat.le_refl _)); have F79 := Lib.hid (Fc.out.below B74.out (Nat.le_refl _)); clear hg70; have M80 := Lib.hid (load_rec T72.out); unfold rv at M80; have C81 := Lib.hid (may_any' a A ca w69 OKa.out F75.out); unfold Rc.v at C81; unfold rv at C81; rw [MA.out] at C81) | ((with_reducible refine wpList_load_by (o := ⟨some 51, .load 43 (.tmp 3), _, _, _, _⟩) ?e1 43 (.tmp 3) ?e2 ⟨w.heap.size, 0, none⟩ ?e3 _ M80.out ?_); (case e1 => rfl); (case e2 => rfl); (case e3 => rfl)))
      refine C81.out.mono ?_
      rintro e w82 ⟨rfl, hb83⟩
      have T84 := Lib.hid (T72.out.below hb83 T72.out.lt)
      have T85 := Lib.hid (T73.out.below hb83 T73.out.lt)
      have T86 := Lib.hid (T71.out.below hb83 T71.out.lt)
      have F87 := Lib.hid (F75.out.below hb83 (Nat.le_refl _))
      have F88 := Lib.hid (F76.out.below hb83 (Nat.le_refl _))
      have F89 := Lib.hid (F77.out.below hb83 (Nat.le_refl _))
      have F90 := Lib.hid (F78.out.below hb83 (Nat.le_refl _))
      have F91 := Lib.hid (F79.out.below hb83 (Nat.le_refl _))
      have B92 := Lib.hid (B74.out.trans (hb83.mono B74.out.size))
      clear hb83
      have M93 := Lib.hid (load_rec T85.out)
      unfold rv at M93
      have C94 := Lib.hid (may_any' (b.named a.z) B cb w82 OKb2.out F90.out)
      unfold Rc.v at C94
      unfold rv at C94
      rw [MB.out] at C94
      go_wp2_with (first | ((with_reducible refine wpList_load_by (o := ⟨some 56, .load 43 (.tmp 4), _, _, _, _⟩) ?e1 43 (.tmp 4) ?e2 ⟨(w.heap.size + 1), 0, none⟩ ?e3 _ M93.out ?_); (case e1 => rfl); (case e2 => rfl); (case e3 => rfl)))
      refine C94.out.mono ?_
      rintro e w95 ⟨rfl, hb96⟩
      have T97 := Lib.hid (T84.out.below hb96 T84.out.lt)
      have T98 := Lib.hid (T85.out.below hb96 T85.out.lt)
      have T99 := Lib.hid (T86.out.below hb96 T86.out.lt)
      have F100 := Lib.hid (F87.out.below hb96 (Nat.le_refl _))
      have F101 := Lib.hid (F88.out.below hb96 (Nat.le_refl _))
      have F102 := Lib.hid (F89.out.below hb96 (Nat.le_refl _))
      have F103 := Lib.hid (F90.out.below hb96 (Nat.le_refl _))
      have F104 := Lib.hid (F91.out.below hb96 (Nat.le_refl _))
      have B105 := Lib.hid (B92.out.trans (hb96.mono B92.out.size))
      clear hb96
      go_wp2
      go_ret
      exact ⟨rfl, B105.out⟩
    · rw [ma, mb] at h
      have MA := Lib.hid ma
      have MB := Lib.hid mb
      have MC := Lib.hid (show (c.named a.z).may = false by simpa using h)
      clear ma mb h
      have B1 := Lib.hid (Below.refl w.heap.size w)
      have T2n := RcAt.new w OKa.out.len a.n a.r (.slice A a.fs.length ca)
      have T2 := Lib.hid (T2n)
      clear T2n
      have B3 := Lib.hid (B1.out.alloc B1.out.size (.cells (rcells a.z a.n a.r (.slice A a.fs.length ca)) 43))
      have T4 := Lib.hid (T2.out.old (.cells (rcells b.z b.n b.r (.slice B b.fs.length cb)) 43))
      have T5n := RcAt.new (w.alloc (.cells (rcells a.z a.n a.r (.slice A a.fs.length ca)) 43)) OKb.out.len b.n b.r (.slice B b.fs.length cb)
      simp only [World.size_alloc] at T5n
      have T5 := Lib.hid (T5n)
      clear T5n
      have B6 := Lib.hid (B3.out.alloc B3.out.size (.cells (rcells b.z b.n b.r (.slice B b.fs.length cb)) 43))
      have T7 := Lib.hid (T4.out.old (.cells (rcells c.z c.n c.r (.slice C c.fs.length cc)) 43))
      have T8 := Lib.hid (T5.out.old (.cells (rcells c.z c.n c.r (.slice C c.fs.length cc)) 43))
      have T9n := RcAt.new ((w.alloc (.cells (rcells a.z a.n a.r (.slice A a.fs.length ca)) 43)).alloc (.cells (rcells b.z b.n b.r (.slice B b.fs.length cb)) 43)) OKc.out.len c.n c.r (.slice C c.fs.length cc)
      simp only [World.size_alloc] at T9n
      have T9 := Lib.hid (T9n)
      clear T9n
      have B10 := Lib.hid (B6.out.alloc B6.out.size (.cells (rcells c.z c.n c.r (.slice C c.fs.length cc)) 43))
      have F11 := Lib.hid (Fa.out.below B10.out (Nat.le_refl _))
      have F12 := Lib.hid (Fb.out.below B10.out (Nat.le_refl _))
      have F13 := Lib.hid (Fc.out.below B10.out (Nat.le_refl _))
      go_enter Tryd.func7, Tryd.ntmps7
      have C14 := Lib.hid (rcAwake (((w.alloc (.cells (rcells a.z a.n a.r (.slice A a.fs.length ca)) 43)).alloc (.cells (rcells b.z b.n b.r (.slice B b.fs.length cb)) 43)).alloc (.cells (rcells c.z c.n c.r (.slice C c.fs.length cc)) 43)) (HLA.out _ B10.out))
      go_wp2_with fail
      refine C14.out.mono ?_
      rintro e w15 ⟨rfl, hb16⟩
      have T17 := Lib.hid (T7.out.below hb16 T7.out.lt)
      have T18 := Lib.hid (T8.out.below hb16 T8.out.lt)
      have T19 := Lib.hid (T9.out.below hb16 T9.out.lt)
      have F20 := Lib.hid (F11.out.below hb16 (Nat.le_refl _))
      have F21 := Lib.hid (F12.out.below hb16 (Nat.le_refl _))
      have F22 := Lib.hid (F13.out.below hb16 (Nat.le_refl _))
      have B23 := Lib.hid (B10.out.trans (hb16.mono B10.out.size))
      clear hb16
      have M24 := Lib.hid (load_rec T17.out)
      unfold rv at M24
      have C25 := Lib.hid (fewR_any a A ca w15 OKa.out F20.out)
      unfold Rc.v at C25
      unfold rv at C25
      rw [PA.out] at C25
      go_wp2_with (first | ((with_reducible refine wpList_load_by (o := ⟨some 24, .load 43 (.tmp 3), _, _, _, _⟩) ?e1 43 (.tmp 3) ?e2 ⟨w.heap.size, 0, none⟩ ?e3 _ M24.out ?_); (case e1 => rfl); (case e2 => rfl); (case e3 => rfl)))
      refine C25.out.mono ?_
      rintro e w26 ⟨rfl, hb27⟩
      have T28 := Lib.hid (T17.out.below hb27 T17.out.lt)
      have T29 := Lib.hid (T18.out.below hb27 T18.out.lt)
      have T30 := Lib.hid (T19.out.below hb27 T19.out.lt)
      have F31 := Lib.hid (F20.out.below hb27 (Nat.le_refl _))
      have F32 := Lib.hid (F21.out.below hb27 (Nat.le_refl _))
      have F33 := Lib.hid (F22.out.below hb27 (Nat.le_refl _))
      have B34 := Lib.hid (B23.out.trans (hb27.mono B23.out.size))
      clear hb27
      have M35 := Lib.hid (load_rec T29.out)
      unfold rv at M35
      have C36 := Lib.hid (fewR_any b B cb w26 OKb.out F32.out)
      unfold Rc.v at C36
      unfold rv at C36
      rw [PB.out] at C36
      go_wp2_with (first | ((with_reducible refine wpList_load_by (o := ⟨some 26, .load 43 (.tmp 4), _, _, _, _⟩) ?e1 43 (.tmp 4) ?e2 ⟨(w.heap.size + 1), 0, none⟩ ?e3 _ M35.out ?_); (case e1 => rfl); (case e2 => rfl); (case e3 => rfl)))
      refine C36.out.mono ?_
      rintro e w37 ⟨rfl, hb38⟩
      have T39 := Lib.hid (T28.out.below hb38 T28.out.lt)
      have T40 := Lib.hid (T29.out.below hb38 T29.out.lt)
      have T41 := Lib.hid (T30.out.below hb38 T30.out.lt)
      have F42 := Lib.hid (F31.out.below hb38 (Nat.le_refl _))
      have F43 := Lib.hid (F32.out.below hb38 (Nat.le_refl _))
      have F44 := Lib.hid (F33.out.below hb38 (Nat.le_refl _))
      have B45 := Lib.hid (B34.out.trans (hb38.mono B34.out.size))
      clear hb38
      have M46 := Lib.hid (load_rec T41.out)
      unfold rv at M46
      have C47 := Lib.hid (fewR_any c C cc w37 OKc.out F44.out)
      unfold Rc.v at C47
      unfold rv at C47
      rw [PC.out] at C47
      go_wp2_with (first | ((with_reducible refine wpList_load_by (o := ⟨some 28, .load 43 (.tmp 5), _, _, _, _⟩) ?e1 43 (.tmp 5) ?e2 ⟨(w.heap.size + 1 + 1), 0, none⟩ ?e3 _ M46.out ?_); (case e1 => rfl); (case e2 => rfl); (case e3 => rfl)))
      refine C47.out.mono ?_
      rintro e w48 ⟨rfl, hb49⟩
      have T50 := Lib.hid (T39.out.below hb49 T39.out.lt)
      have T51 := Lib.hid (T40.out.below hb49 T40.out.lt)
      have T52 := Lib.hid (T41.out.below hb49 T41.out.lt)
      have F53 := Lib.hid (F42.out.below hb49 (Nat.le_refl _))
      have F54 := Lib.hid (F43.out.below hb49 (Nat.le_refl _))
      have F55 := Lib.hid (F44.out.below hb49 (Nat.le_refl _))
      have B56 := Lib.hid (B45.out.trans (hb49.mono B45.out.size))
      clear hb49
      have M57 := Lib.hid (load_id T50.out)
      go_wp2_with (first | ((with_reducible refine wpList_load_by (o := ⟨some 31, .load 40 (.tmp 30), _, _, _, _⟩) ?e1 40 (.tmp 30) ?e2 ⟨w.heap.size, 0, none⟩ ?e3 _ M57.out ?_); (case e1 => rfl); (case e2 => rfl); (case e3 => rfl)) | ((with_reducible refine wpList_store_id (o := ⟨none, .store 40 (.tmp 32) (.tmp 31), _, _, _, _⟩) ?e1 (.tmp 32) (.tmp 31) ?e2 (w.heap.size + 1) ?e3 a.z ?e4 b.z b.n b.r (.slice B b.fs.length cb) T51.out OKa.out.len ?_); (case e1 => rfl); (case e2 => rfl); (case e3 => rfl); (case e4 => rfl); intro w58 hg59 hRs; have T60 : Hid (RcAt w58 (w.heap.size + 1) (b.named a.z).z (b.named a.z).n (b.named a.z).r (.slice B (b.named a.z).fs.length cb)) := Lib.hid hRs; clear hRs; have T61 := Lib.hid (T50.out.kept hg59 (fun e => by have := Option.some.inj e; omega)); have T62 := Lib.hid (T52.out.kept hg59 (fun e => by have := Option.some.inj e; omega)); have B63 := Lib.hid (B56.out.grown hg59 B56.out.size (fun k e => by have := Option.some.inj e; omega)); have F64 := Lib.hid (Fa.out.below B63.out (Nat.le_refl _)); have F65 := Lib.hid (Fb.out.below B63.out (Nat.le_refl _)); have F66 := Lib.hid (Fc.out.below B63.out (Nat.le_refl _)); have F67 := Lib.hid (Fb.out.below B63.out (Nat.le_refl _)); clear hg59; have M68 := Lib.hid (load_id T61.out)) | ((with_reducible refine wpList_load_by (o := ⟨some 34, .load 40 (.tmp 33), _, _, _, _⟩) ?e1 40 (.tmp 33) ?e2 ⟨w.heap.size, 0, none⟩ ?e3 _ M68.out ?_); (case e1 => rfl); (case e2 => rfl); (case e3 => rfl)) | ((with_reducible refine wpList_store_id (o := ⟨none, .store 40 (.tmp 35) (.tmp 34), _, _, _, _⟩) ?e1 (.tmp 35) (.tmp 34) ?e2 (w.heap.size + 1 + 1) ?e3 a.z ?e4 c.z c.n c.r (.slice C c.fs.length cc) T62.out OKa.out.len ?_); (case e1 => rfl); (case e2 => rfl); (case e3 => rfl); (case e4 => rfl); intro w69 hg70 hRs; have T71 : Hid (RcAt w69 (w.heap.size + 1 + 1) (c.named a.z).z (c.named a.z).n (c.named a.z).r (.slice C (c.named a.z).fs.length cc)) := Lib.hid hRs; clear hRs; have T72 := Lib.hid (T61.out.kept hg70 (fun e => by have := Option.some.inj e; omega)); have T73 := Lib.hid (T60.out.kept hg70 (fun e => by have := Option.some.inj e; omega)); have B74 := Lib.hid (B63.out.grown hg70 B63.out.size (fun k e => by have := Option.some.inj e; omega)); have F75 := Lib.hid (Fa.out.below B74.out (Nat.le_refl _)); have F76 := Lib.hid (Fb.out.below B74.out (Nat.le_refl _)); have F77 := Lib.hid (Fc.out.below B74.out (Nat.le_refl _)); have F78 := Lib.hid (Fb.out.below B74.out (Nat.le_refl _)); have F79 := Lib.hid (Fc.out.below B74.out (Nat.le_refl _)); clear hg70; have M80 := Lib.hid (load_rec T72.out); unfold rv at M80; have C81 := Lib.hid (may_any' a A ca w69 OKa.out F75.out); unfold Rc.v at C81; unfold rv at C81; rw [MA.out] at C81) | ((with_reducible refine wpList_load_by (o := ⟨some 51, .load 43 (.tmp 3), _, _, _, _⟩) ?e1 43 (.tmp 3) ?e2 ⟨w.heap.size, 0, none⟩ ?e3 _ M80.out ?_); (case e1 => rfl); (case e2 => rfl); (case e3 => rfl)))
      refine C81.out.mono ?_
      rintro e w82 ⟨rfl, hb83⟩
      have T84 := Lib.hid (T72.out.below hb83 T72.out.lt)
      have T85 := Lib.hid (T73.out.below hb83 T73.out.lt)
      have T86 := Lib.hid (T71.out.below hb83 T71.out.lt)
      have F87 := Lib.hid (F75.out.below hb83 (Nat.le_refl _))
      have F88 := Lib.hid (F76.out.below hb83 (Nat.le_refl _))
      have F89 := Lib.hid (F77.out.below hb83 (Nat.le_refl _))
      have F90 := Lib.hid (F78.out.below hb83 (Nat.le_refl _))
      have F91 := Lib.hid (F79.out.below hb83 (Nat.le_refl _))
      have B92 := Lib.hid (B74.out.trans (hb83.mono B74.out.size))
      clear hb83
      have M93 := Lib.hid (load_rec T85.out)
      unfold rv at M93
      have C94 := Lib.hid (may_any' (b.named a.z) B cb w82 OKb2.out F90.out)
      unfold Rc.v at C94
      unfold rv at C94
      rw [MB.out] at C94
      go_wp2_with (first | ((with_reducible refine wpList_load_by (o := ⟨some 56, .load 43 (.tmp 4), _, _, _, _⟩) ?e1 43 (.tmp 4) ?e2 ⟨(w.heap.size + 1), 0, none⟩ ?e3 _ M93.out ?_); (case e1 => rfl); (case e2 => rfl); (case e3 => rfl)))
      refine C94.out.mono ?_
      rintro e w95 ⟨rfl, hb96⟩
      have T97 := Lib.hid (T84.out.below hb96 T84.out.lt)
      have T98 := Lib.hid (T85.out.below hb96 T85.out.lt)
      have T99 := Lib.hid (T86.out.below hb96 T86.out.lt)
      have F100 := Lib.hid (F87.out.below hb96 (Nat.le_refl _))
      have F101 := Lib.hid (F88.out.below hb96 (Nat.le_refl _))
      have F102 := Lib.hid (F89.out.below hb96 (Nat.le_refl _))
      have F103 := Lib.hid (F90.out.below hb96 (Nat.le_refl _))
      have F104 := Lib.hid (F91.out.below hb96 (Nat.le_refl _))
      have B105 := Lib.hid (B92.out.trans (hb96.mono B92.out.size))
      clear hb96
      have M106 := Lib.hid (load_rec T99.out)
      unfold rv at M106
      have C107 := Lib.hid (may_any' (c.named a.z) C cc w95 OKc2.out F104.out)
      unfold Rc.v at C107
      unfold rv at C107
      rw [MC.out] at C107
      go_wp2_with (first | ((with_reducible refine wpList_load_by (o := ⟨some 61, .load 43 (.tmp 5), _, _, _, _⟩) ?e1 43 (.tmp 5) ?e2 ⟨(w.heap.size + 1 + 1), 0, none⟩ ?e3 _ M106.out ?_); (case e1 => rfl); (case e2 => rfl); (case e3 => rfl)))
      refine C107.out.mono ?_
      rintro e w108 ⟨rfl, hb109⟩
      have T110 := Lib.hid (T97.out.below hb109 T97.out.lt)
      have T111 := Lib.hid (T98.out.below hb109 T98.out.lt)
      have T112 := Lib.hid (T99.out.below hb109 T99.out.lt)
      have F113 := Lib.hid (F100.out.below hb109 (Nat.le_refl _))
      have F114 := Lib.hid (F101.out.below hb109 (Nat.le_refl _))
      have F115 := Lib.hid (F102.out.below hb109 (Nat.le_refl _))
      have F116 := Lib.hid (F103.out.below hb109 (Nat.le_refl _))
      have F117 := Lib.hid (F104.out.below hb109 (Nat.le_refl _))
      have B118 := Lib.hid (B105.out.trans (hb109.mono B105.out.size))
      clear hb109
      go_wp2
      go_ret
      exact ⟨rfl, B118.out⟩
set_option maxHeartbeats 16000000 in
theorem joins_yes (a : Rc) (A : Option Addr) (ca : Nat) (b : Rc) (B : Option Addr) (cb : Nat) (c : Rc) (C : Option Addr) (cc : Nat) (w : World) (hlaid : Laid w) (wa : IsRec w a A ca) (wb : IsRec w b B cb) (wc : IsRec w c C cc) (p : (fewR a.fs && fewR b.fs && fewR c.fs) = true) (ma : a.may = true) (mb : (b.named a.z).may = true) (mc : (c.named a.z).may = true) :
    Calls Tryd.prog 7 #[a.v A ca, b.v B cb, c.v C cc] w fun e w' => e = .returned (.bool true) ∧ Below w.heap.size w w' := by
  have HLA := Lib.hid (fun (X : World) (hX : Below w.heap.size w X) => hlaid.below hX (Nat.le_refl _))
  have OKa := Lib.hid wa.1
  have OKb := Lib.hid wb.1
  have OKc := Lib.hid wc.1
  have OKb2 := Lib.hid (named_ok (R := b) wa.1.1 wa.1.2)
  have OKc2 := Lib.hid (named_ok (R := c) wa.1.1 wa.1.2)
  have Fa := Lib.hid wa.2.1
  have Fb := Lib.hid wb.2.1
  have Fc := Lib.hid wc.2.1
  have hz := zeroRec
  unfold rv at hz
  conv => congr; rfl; rfl; (unfold Rc.v rv)
  clear hlaid wa wb wc
  simp only [Bool.and_eq_true] at p
  have PA := Lib.hid p.1.1
  have PB := Lib.hid p.1.2
  have PC := Lib.hid p.2
  clear p
  have hzb : a.z = (b.named a.z).z := rfl
  have hzc : (b.named a.z).z = (c.named a.z).z := rfl
  have MA := Lib.hid ma
  have MB := Lib.hid mb
  have MC := Lib.hid mc
  have mx := jn_may ma mb
  have JX := join_eq ma mb hzb
  have JY := join_eq mb ma hzb.symm
  have JZ := join_eq mb mc hzc
  have JV := join_eq mx mc (hzb.trans hzc)
  have JW := join_eq ma (jn_may mb mc) hzb
  have JO := join_eq ma ma rfl
  rw [← jn_comm ma mb hzb] at JY
  rw [← jn_assoc ma mb mc hzb hzc] at JW
  rw [jn_self ma] at JO
  have LAX := leq_jn1 ma mb hzb
  have LBX := leq_jn2 ma mb hzb
  have LXV := leq_jn1 mx mc (hzb.trans hzc)
  have LCV := leq_jn2 mx mc (hzb.trans hzc)
  have LAV := leq_trans LAX LXV
  have OKx := Rc.join_ok OKa.out JX
  have OKz := Rc.join_ok OKb2.out JZ
  have OKv := Rc.join_ok OKx JV
  generalize jn (b.named a.z) (c.named a.z) = z at *
  generalize jn (jn a (b.named a.z)) (c.named a.z) = v at *
  generalize jn a (b.named a.z) = x at *
  have JX := Lib.hid JX
  have JY := Lib.hid JY
  have JZ := Lib.hid JZ
  have JV := Lib.hid JV
  have JW := Lib.hid JW
  have JO := Lib.hid JO
  have LAX := Lib.hid LAX
  have LBX := Lib.hid LBX
  have LCV := Lib.hid LCV
  have LAV := Lib.hid LAV
  have OKx := Lib.hid OKx
  have OKz := Lib.hid OKz
  have OKv := Lib.hid OKv
  have MX := Lib.hid mx
  have SX := Lib.hid (Rc.same_iff.2 (rfl : x = x))
  have SV := Lib.hid (Rc.same_iff.2 (rfl : v = v))
  have SA := Lib.hid (Rc.same_iff.2 (rfl : a = a))
  clear hzb hzc ma mb mc mx LXV
  have B1 := Lib.hid (Below.refl w.heap.size w)
  have T2n := RcAt.new w OKa.out.len a.n a.r (.slice A a.fs.length ca)
  have T2 := Lib.hid (T2n)
  clear T2n
  have B3 := Lib.hid (B1.out.alloc B1.out.size (.cells (rcells a.z a.n a.r (.slice A a.fs.length ca)) 43))
  have T4 := Lib.hid (T2.out.old (.cells (rcells b.z b.n b.r (.slice B b.fs.length cb)) 43))
  have T5n := RcAt.new (w.alloc (.cells (rcells a.z a.n a.r (.slice A a.fs.length ca)) 43)) OKb.out.len b.n b.r (.slice B b.fs.length cb)
  simp only [World.size_alloc] at T5n
  have T5 := Lib.hid (T5n)
  clear T5n
  have B6 := Lib.hid (B3.out.alloc B3.out.size (.cells (rcells b.z b.n b.r (.slice B b.fs.length cb)) 43))
  have T7 := Lib.hid (T4.out.old (.cells (rcells c.z c.n c.r (.slice C c.fs.length cc)) 43))
  have T8 := Lib.hid (T5.out.old (.cells (rcells c.z c.n c.r (.slice C c.fs.length cc)) 43))
  have T9n := RcAt.new ((w.alloc (.cells (rcells a.z a.n a.r (.slice A a.fs.length ca)) 43)).alloc (.cells (rcells b.z b.n b.r (.slice B b.fs.length cb)) 43)) OKc.out.len c.n c.r (.slice C c.fs.length cc)
  simp only [World.size_alloc] at T9n
  have T9 := Lib.hid (T9n)
  clear T9n
  have B10 := Lib.hid (B6.out.alloc B6.out.size (.cells (rcells c.z c.n c.r (.slice C c.fs.length cc)) 43))
  have F11 := Lib.hid (Fa.out.below B10.out (Nat.le_refl _))
  have F12 := Lib.hid (Fb.out.below B10.out (Nat.le_refl _))
  have F13 := Lib.hid (Fc.out.below B10.out (Nat.le_refl _))
  go_enter Tryd.func7, Tryd.ntmps7
  have C14 := Lib.hid (rcAwake (((w.alloc (.cells (rcells a.z a.n a.r (.slice A a.fs.length ca)) 43)).alloc (.cells (rcells b.z b.n b.r (.slice B b.fs.length cb)) 43)).alloc (.cells (rcells c.z c.n c.r (.slice C c.fs.length cc)) 43)) (HLA.out _ B10.out))
  go_wp2_with fail
  refine C14.out.mono ?_
  rintro e w15 ⟨rfl, hb16⟩
  have T17 := Lib.hid (T7.out.below hb16 T7.out.lt)
  have T18 := Lib.hid (T8.out.below hb16 T8.out.lt)
  have T19 := Lib.hid (T9.out.below hb16 T9.out.lt)
  have F20 := Lib.hid (F11.out.below hb16 (Nat.le_refl _))
  have F21 := Lib.hid (F12.out.below hb16 (Nat.le_refl _))
  have F22 := Lib.hid (F13.out.below hb16 (Nat.le_refl _))
  have B23 := Lib.hid (B10.out.trans (hb16.mono B10.out.size))
  clear hb16
  have M24 := Lib.hid (load_rec T17.out)
  unfold rv at M24
  have C25 := Lib.hid (fewR_any a A ca w15 OKa.out F20.out)
  unfold Rc.v at C25
  unfold rv at C25
  rw [PA.out] at C25
  go_wp2_with (first | ((with_reducible refine wpList_load_by (o := ⟨some 24, .load 43 (.tmp 3), _, _, _, _⟩) ?e1 43 (.tmp 3) ?e2 ⟨w.heap.size, 0, none⟩ ?e3 _ M24.out ?_); (case e1 => rfl); (case e2 => rfl); (case e3 => rfl)))
  refine C25.out.mono ?_
  rintro e w26 ⟨rfl, hb27⟩
  have T28 := Lib.hid (T17.out.below hb27 T17.out.lt)
  have T29 := Lib.hid (T18.out.below hb27 T18.out.lt)
  have T30 := Lib.hid (T19.out.below hb27 T19.out.lt)
  have F31 := Lib.hid (F20.out.below hb27 (Nat.le_refl _))
  have F32 := Lib.hid (F21.out.below hb27 (Nat.le_refl _))
  have F33 := Lib.hid (F22.out.below hb27 (Nat.le_refl _))
  have B34 := Lib.hid (B23.out.trans (hb27.mono B23.out.size))
  clear hb27
  have M35 := Lib.hid (load_rec T29.out)
  unfold rv at M35
  have C36 := Lib.hid (fewR_any b B cb w26 OKb.out F32.out)
  unfold Rc.v at C36
  unfold rv at C36
  rw [PB.out] at C36
  go_wp2_with (first | ((with_reducible refine wpList_load_by (o := ⟨some 26, .load 43 (.tmp 4), _, _, _, _⟩) ?e1 43 (.tmp 4) ?e2 ⟨(w.heap.size + 1), 0, none⟩ ?e3 _ M35.out ?_); (case e1 => rfl); (case e2 => rfl); (case e3 => rfl)))
  refine C36.out.mono ?_
  rintro e w37 ⟨rfl, hb38⟩
  have T39 := Lib.hid (T28.out.below hb38 T28.out.lt)
  have T40 := Lib.hid (T29.out.below hb38 T29.out.lt)
  have T41 := Lib.hid (T30.out.below hb38 T30.out.lt)
  have F42 := Lib.hid (F31.out.below hb38 (Nat.le_refl _))
  have F43 := Lib.hid (F32.out.below hb38 (Nat.le_refl _))
  have F44 := Lib.hid (F33.out.below hb38 (Nat.le_refl _))
  have B45 := Lib.hid (B34.out.trans (hb38.mono B34.out.size))
  clear hb38
  have M46 := Lib.hid (load_rec T41.out)
  unfold rv at M46
  have C47 := Lib.hid (fewR_any c C cc w37 OKc.out F44.out)
  unfold Rc.v at C47
  unfold rv at C47
  rw [PC.out] at C47
  go_wp2_with (first | ((with_reducible refine wpList_load_by (o := ⟨some 28, .load 43 (.tmp 5), _, _, _, _⟩) ?e1 43 (.tmp 5) ?e2 ⟨(w.heap.size + 1 + 1), 0, none⟩ ?e3 _ M46.out ?_); (case e1 => rfl); (case e2 => rfl); (case e3 => rfl)))
  refine C47.out.mono ?_
  rintro e w48 ⟨rfl, hb49⟩
  have T50 := Lib.hid (T39.out.below hb49 T39.out.lt)
  have T51 := Lib.hid (T40.out.below hb49 T40.out.lt)
  have T52 := Lib.hid (T41.out.below hb49 T41.out.lt)
  have F53 := Lib.hid (F42.out.below hb49 (Nat.le_refl _))
  have F54 := Lib.hid (F43.out.below hb49 (Nat.le_refl _))
  have F55 := Lib.hid (F44.out.below hb49 (Nat.le_refl _))
  have B56 := Lib.hid (B45.out.trans (hb49.mono B45.out.size))
  clear hb49
  have M57 := Lib.hid (load_id T50.out)
  go_wp2_with (first | ((with_reducible refine wpList_load_by (o := ⟨some 31, .load 40 (.tmp 30), _, _, _, _⟩) ?e1 40 (.tmp 30) ?e2 ⟨w.heap.size, 0, none⟩ ?e3 _ M57.out ?_); (case e1 => rfl); (case e2 => rfl); (case e3 => rfl)) | ((with_reducible refine wpList_store_id (o := ⟨none, .store 40 (.tmp 32) (.tmp 31), _, _, _, _⟩) ?e1 (.tmp 32) (.tmp 31) ?e2 (w.heap.size + 1) ?e3 a.z ?e4 b.z b.n b.r (.slice B b.fs.length cb) T51.out OKa.out.len ?_); (case e1 => rfl); (case e2 => rfl); (case e3 => rfl); (case e4 => rfl); intro w58 hg59 hRs; have T60 : Hid (RcAt w58 (w.heap.size + 1) (b.named a.z).z (b.named a.z).n (b.named a.z).r (.slice B (b.named a.z).fs.length cb)) := Lib.hid hRs; clear hRs; have T61 := Lib.hid (T50.out.kept hg59 (fun e => by have := Option.some.inj e; omega)); have T62 := Lib.hid (T52.out.kept hg59 (fun e => by have := Option.some.inj e; omega)); have B63 := Lib.hid (B56.out.grown hg59 B56.out.size (fun k e => by have := Option.some.inj e; omega)); have F64 := Lib.hid (Fa.out.below B63.out (Nat.le_refl _)); have F65 := Lib.hid (Fb.out.below B63.out (Nat.le_refl _)); have F66 := Lib.hid (Fc.out.below B63.out (Nat.le_refl _)); have F67 := Lib.hid (Fb.out.below B63.out (Nat.le_refl _)); clear hg59; have M68 := Lib.hid (load_id T61.out)) | ((with_reducible refine wpList_load_by (o := ⟨some 34, .load 40 (.tmp 33), _, _, _, _⟩) ?e1 40 (.tmp 33) ?e2 ⟨w.heap.size, 0, none⟩ ?e3 _ M68.out ?_); (case e1 => rfl); (case e2 => rfl); (case e3 => rfl)) | ((with_reducible refine wpList_store_id (o := ⟨none, .store 40 (.tmp 35) (.tmp 34), _, _, _, _⟩) ?e1 (.tmp 35) (.tmp 34) ?e2 (w.heap.size + 1 + 1) ?e3 a.z ?e4 c.z c.n c.r (.slice C c.fs.length cc) T62.out OKa.out.len ?_); (case e1 => rfl); (case e2 => rfl); (case e3 => rfl); (case e4 => rfl); intro w69 hg70 hRs; have T71 : Hid (RcAt w69 (w.heap.size + 1 + 1) (c.named a.z).z (c.named a.z).n (c.named a.z).r (.slice C (c.named a.z).fs.length cc)) := Lib.hid hRs; clear hRs; have T72 := Lib.hid (T61.out.kept hg70 (fun e => by have := Option.some.inj e; omega)); have T73 := Lib.hid (T60.out.kept hg70 (fun e => by have := Option.some.inj e; omega)); have B74 := Lib.hid (B63.out.grown hg70 B63.out.size (fun k e => by have := Option.some.inj e; omega)); have F75 := Lib.hid (Fa.out.below B74.out (Nat.le_refl _)); have F76 := Lib.hid (Fb.out.below B74.out (Nat.le_refl _)); have F77 := Lib.hid (Fc.out.below B74.out (Nat.le_refl _)); have F78 := Lib.hid (Fb.out.below B74.out (Nat.le_refl _)); have F79 := Lib.hid (Fc.out.below B74.out (Nat.le_refl _)); clear hg70; have M80 := Lib.hid (load_rec T72.out); unfold rv at M80; have C81 := Lib.hid (may_any' a A ca w69 OKa.out F75.out); unfold Rc.v at C81; unfold rv at C81; rw [MA.out] at C81) | ((with_reducible refine wpList_load_by (o := ⟨some 51, .load 43 (.tmp 3), _, _, _, _⟩) ?e1 43 (.tmp 3) ?e2 ⟨w.heap.size, 0, none⟩ ?e3 _ M80.out ?_); (case e1 => rfl); (case e2 => rfl); (case e3 => rfl)))
  refine C81.out.mono ?_
  rintro e w82 ⟨rfl, hb83⟩
  have T84 := Lib.hid (T72.out.below hb83 T72.out.lt)
  have T85 := Lib.hid (T73.out.below hb83 T73.out.lt)
  have T86 := Lib.hid (T71.out.below hb83 T71.out.lt)
  have F87 := Lib.hid (F75.out.below hb83 (Nat.le_refl _))
  have F88 := Lib.hid (F76.out.below hb83 (Nat.le_refl _))
  have F89 := Lib.hid (F77.out.below hb83 (Nat.le_refl _))
  have F90 := Lib.hid (F78.out.below hb83 (Nat.le_refl _))
  have F91 := Lib.hid (F79.out.below hb83 (Nat.le_refl _))
  have B92 := Lib.hid (B74.out.trans (hb83.mono B74.out.size))
  clear hb83
  have M93 := Lib.hid (load_rec T85.out)
  unfold rv at M93
  have C94 := Lib.hid (may_any' (b.named a.z) B cb w82 OKb2.out F90.out)
  unfold Rc.v at C94
  unfold rv at C94
  rw [MB.out] at C94
  go_wp2_with (first | ((with_reducible refine wpList_load_by (o := ⟨some 56, .load 43 (.tmp 4), _, _, _, _⟩) ?e1 43 (.tmp 4) ?e2 ⟨(w.heap.size + 1), 0, none⟩ ?e3 _ M93.out ?_); (case e1 => rfl); (case e2 => rfl); (case e3 => rfl)))
  refine C94.out.mono ?_
  rintro e w95 ⟨rfl, hb96⟩
  have T97 := Lib.hid (T84.out.below hb96 T84.out.lt)
  have T98 := Lib.hid (T85.out.below hb96 T85.out.lt)
  have T99 := Lib.hid (T86.out.below hb96 T86.out.lt)
  have F100 := Lib.hid (F87.out.below hb96 (Nat.le_refl _))
  have F101 := Lib.hid (F88.out.below hb96 (Nat.le_refl _))
  have F102 := Lib.hid (F89.out.below hb96 (Nat.le_refl _))
  have F103 := Lib.hid (F90.out.below hb96 (Nat.le_refl _))
  have F104 := Lib.hid (F91.out.below hb96 (Nat.le_refl _))
  have B105 := Lib.hid (B92.out.trans (hb96.mono B92.out.size))
  clear hb96
  have M106 := Lib.hid (load_rec T99.out)
  unfold rv at M106
  have C107 := Lib.hid (may_any' (c.named a.z) C cc w95 OKc2.out F104.out)
  unfold Rc.v at C107
  unfold rv at C107
  rw [MC.out] at C107
  go_wp2_with (first | ((with_reducible refine wpList_load_by (o := ⟨some 61, .load 43 (.tmp 5), _, _, _, _⟩) ?e1 43 (.tmp 5) ?e2 ⟨(w.heap.size + 1 + 1), 0, none⟩ ?e3 _ M106.out ?_); (case e1 => rfl); (case e2 => rfl); (case e3 => rfl)))
  refine C107.out.mono ?_
  rintro e w108 ⟨rfl, hb109⟩
  have T110 := Lib.hid (T97.out.below hb109 T97.out.lt)
  have T111 := Lib.hid (T98.out.below hb109 T98.out.lt)
  have T112 := Lib.hid (T99.out.below hb109 T99.out.lt)
  have F113 := Lib.hid (F100.out.below hb109 (Nat.le_refl _))
  have F114 := Lib.hid (F101.out.below hb109 (Nat.le_refl _))
  have F115 := Lib.hid (F102.out.below hb109 (Nat.le_refl _))
  have F116 := Lib.hid (F103.out.below hb109 (Nat.le_refl _))
  have F117 := Lib.hid (F104.out.below hb109 (Nat.le_refl _))
  have B118 := Lib.hid (B105.out.trans (hb109.mono B105.out.size))
  clear hb109
  have M122 := Lib.hid (load_rec T110.out)
  unfold rv at M122
  have M123 := Lib.hid (load_rec T111.out)
  unfold rv at M123
  have C124 := Lib.hid (join_any a (b.named a.z) A B ca cb w108 (HLA.out _ B118.out) OKa.out OKb2.out F113.out F116.out)
  unfold JoinPost Rc.v at C124
  unfold rv at C124
  rw [JX.out] at C124
  dsimp only [Option.getD, Option.isSome] at C124
  go_wp2_with (first | ((with_reducible refine wpList_load_by (o := ⟨some 67, .load 43 (.tmp 3), _, _, _, _⟩) ?e1 43 (.tmp 3) ?e2 ⟨w.heap.size, 0, none⟩ ?e3 _ M122.out ?_); (case e1 => rfl); (case e2 => rfl); (case e3 => rfl)) | ((with_reducible refine wpList_load_by (o := ⟨some 68, .load 43 (.tmp 4), _, _, _, _⟩) ?e1 43 (.tmp 4) ?e2 ⟨(w.heap.size + 1), 0, none⟩ ?e3 _ M123.out ?_); (case e1 => rfl); (case e2 => rfl); (case e3 => rfl)))
  refine C124.out.mono ?_
  rintro e w125 ⟨A119, c120, rfl, hf121, hb126⟩
  have T127 := Lib.hid (T110.out.below hb126 T110.out.lt)
  have T128 := Lib.hid (T111.out.below hb126 T111.out.lt)
  have T129 := Lib.hid (T112.out.below hb126 T112.out.lt)
  have F130 := Lib.hid (F113.out.below hb126 (Nat.le_refl _))
  have F131 := Lib.hid (F114.out.below hb126 (Nat.le_refl _))
  have F132 := Lib.hid (F115.out.below hb126 (Nat.le_refl _))
  have F133 := Lib.hid (F116.out.below hb126 (Nat.le_refl _))
  have F134 := Lib.hid (F117.out.below hb126 (Nat.le_refl _))
  have B135 := Lib.hid (B118.out.trans (hb126.mono B118.out.size))
  clear hb126
  have F136 := Lib.hid (hf121)
  clear hf121
  go_wp2_with (first | ((with_reducible refine wpList_store_new (o := ⟨none, .store 43 (.tmp 11) (.tmp 70), _, _, _, _⟩) (w := w125) ?e1 (.tmp 11) (.tmp 70) ?e2 w125.heap.size rfl ?e3 x.z x.n x.r (.slice A119 x.fs.length c120) ?e4 OKx.out.len ?e5 ?_); (case e1 => rfl); (case e2 => rfl); (case e3 => rfl); (case e4 => rfl); (case e5 => rfl); intro w140 hb141 hRs; have T142 := Lib.hid hRs; clear hRs; have T143 := Lib.hid (T127.out.below hb141 T127.out.lt); have T144 := Lib.hid (T128.out.below hb141 T128.out.lt); have T145 := Lib.hid (T129.out.below hb141 T129.out.lt); have F146 := Lib.hid (F130.out.below hb141 (Nat.le_refl _)); have F147 := Lib.hid (F131.out.below hb141 (Nat.le_refl _)); have F148 := Lib.hid (F132.out.below hb141 (Nat.le_refl _)); have F149 := Lib.hid (F133.out.below hb141 (Nat.le_refl _)); have F150 := Lib.hid (F134.out.below hb141 (Nat.le_refl _)); have F151 := Lib.hid (F136.out.below hb141 (Nat.le_refl _)); have B152 := Lib.hid (B135.out.trans (hb141.mono B135.out.size)); clear hb141; have M153 := Lib.hid (load_rec T144.out); unfold rv at M153; have M154 := Lib.hid (load_rec T143.out); unfold rv at M154; have C155 := Lib.hid (join_any (b.named a.z) a B A cb ca w140 (HLA.out _ B152.out) OKb2.out OKa.out F149.out F146.out); unfold JoinPost Rc.v at C155; unfold rv at C155; rw [JY.out] at C155; dsimp only [Option.getD, Option.isSome] at C155) | ((with_reducible refine wpList_load_by (o := ⟨some 73, .load 43 (.tmp 4), _, _, _, _⟩) ?e1 43 (.tmp 4) ?e2 ⟨(w.heap.size + 1), 0, none⟩ ?e3 _ M153.out ?_); (case e1 => rfl); (case e2 => rfl); (case e3 => rfl)) | ((with_reducible refine wpList_load_by (o := ⟨some 74, .load 43 (.tmp 3), _, _, _, _⟩) ?e1 43 (.tmp 3) ?e2 ⟨w.heap.size, 0, none⟩ ?e3 _ M154.out ?_); (case e1 => rfl); (case e2 => rfl); (case e3 => rfl)))
  refine C155.out.mono ?_
  rintro e w156 ⟨A137, c138, rfl, hf139, hb157⟩
  have T158 := Lib.hid (T143.out.below hb157 T143.out.lt)
  have T159 := Lib.hid (T144.out.below hb157 T144.out.lt)
  have T160 := Lib.hid (T145.out.below hb157 T145.out.lt)
  have T161 := Lib.hid (T142.out.below hb157 T142.out.lt)
  have F162 := Lib.hid (F146.out.below hb157 (Nat.le_refl _))
  have F163 := Lib.hid (F147.out.below hb157 (Nat.le_refl _))
  have F164 := Lib.hid (F148.out.below hb157 (Nat.le_refl _))
  have F165 := Lib.hid (F149.out.below hb157 (Nat.le_refl _))
  have F166 := Lib.hid (F150.out.below hb157 (Nat.le_refl _))
  have F167 := Lib.hid (F151.out.below hb157 (Nat.le_refl _))
  have B168 := Lib.hid (B152.out.trans (hb157.mono B152.out.size))
  clear hb157
  have F169 := Lib.hid (hf139)
  clear hf139
  go_wp2_with (first | ((with_reducible refine wpList_store_new (o := ⟨none, .store 43 (.tmp 13) (.tmp 76), _, _, _, _⟩) (w := w156) ?e1 (.tmp 13) (.tmp 76) ?e2 w156.heap.size rfl ?e3 x.z x.n x.r (.slice A137 x.fs.length c138) ?e4 OKx.out.len ?e5 ?_); (case e1 => rfl); (case e2 => rfl); (case e3 => rfl); (case e4 => rfl); (case e5 => rfl); intro w173 hb174 hRs; have T175 := Lib.hid hRs; clear hRs; have T176 := Lib.hid (T158.out.below hb174 T158.out.lt); have T177 := Lib.hid (T159.out.below hb174 T159.out.lt); have T178 := Lib.hid (T160.out.below hb174 T160.out.lt); have T179 := Lib.hid (T161.out.below hb174 T161.out.lt); have F180 := Lib.hid (F162.out.below hb174 (Nat.le_refl _)); have F181 := Lib.hid (F163.out.below hb174 (Nat.le_refl _)); have F182 := Lib.hid (F164.out.below hb174 (Nat.le_refl _)); have F183 := Lib.hid (F165.out.below hb174 (Nat.le_refl _)); have F184 := Lib.hid (F166.out.below hb174 (Nat.le_refl _)); have F185 := Lib.hid (F167.out.below hb174 (Nat.le_refl _)); have F186 := Lib.hid (F169.out.below hb174 (Nat.le_refl _)); have B187 := Lib.hid (B168.out.trans (hb174.mono B168.out.size)); clear hb174; have M188 := Lib.hid (load_rec T177.out); unfold rv at M188; have M189 := Lib.hid (load_rec T178.out); unfold rv at M189; have C190 := Lib.hid (join_any (b.named a.z) (c.named a.z) B C cb cc w173 (HLA.out _ B187.out) OKb2.out OKc2.out F183.out F184.out); unfold JoinPost Rc.v at C190; unfold rv at C190; rw [JZ.out] at C190; dsimp only [Option.getD, Option.isSome] at C190) | ((with_reducible refine wpList_load_by (o := ⟨some 79, .load 43 (.tmp 4), _, _, _, _⟩) ?e1 43 (.tmp 4) ?e2 ⟨(w.heap.size + 1), 0, none⟩ ?e3 _ M188.out ?_); (case e1 => rfl); (case e2 => rfl); (case e3 => rfl)) | ((with_reducible refine wpList_load_by (o := ⟨some 80, .load 43 (.tmp 5), _, _, _, _⟩) ?e1 43 (.tmp 5) ?e2 ⟨(w.heap.size + 1 + 1), 0, none⟩ ?e3 _ M189.out ?_); (case e1 => rfl); (case e2 => rfl); (case e3 => rfl)))
  refine C190.out.mono ?_
  rintro e w191 ⟨A170, c171, rfl, hf172, hb192⟩
  have T193 := Lib.hid (T176.out.below hb192 T176.out.lt)
  have T194 := Lib.hid (T177.out.below hb192 T177.out.lt)
  have T195 := Lib.hid (T178.out.below hb192 T178.out.lt)
  have T196 := Lib.hid (T179.out.below hb192 T179.out.lt)
  have T197 := Lib.hid (T175.out.below hb192 T175.out.lt)
  have F198 := Lib.hid (F180.out.below hb192 (Nat.le_refl _))
  have F199 := Lib.hid (F181.out.below hb192 (Nat.le_refl _))
  have F200 := Lib.hid (F182.out.below hb192 (Nat.le_refl _))
  have F201 := Lib.hid (F183.out.below hb192 (Nat.le_refl _))
  have F202 := Lib.hid (F184.out.below hb192 (Nat.le_refl _))
  have F203 := Lib.hid (F185.out.below hb192 (Nat.le_refl _))
  have F204 := Lib.hid (F186.out.below hb192 (Nat.le_refl _))
  have B205 := Lib.hid (B187.out.trans (hb192.mono B187.out.size))
  clear hb192
  have F206 := Lib.hid (hf172)
  clear hf172
  go_wp2_with (first | ((with_reducible refine wpList_store_new (o := ⟨none, .store 43 (.tmp 15) (.tmp 82), _, _, _, _⟩) (w := w191) ?e1 (.tmp 15) (.tmp 82) ?e2 w191.heap.size rfl ?e3 z.z z.n z.r (.slice A170 z.fs.length c171) ?e4 OKz.out.len ?e5 ?_); (case e1 => rfl); (case e2 => rfl); (case e3 => rfl); (case e4 => rfl); (case e5 => rfl); intro w210 hb211 hRs; have T212 := Lib.hid hRs; clear hRs; have T213 := Lib.hid (T193.out.below hb211 T193.out.lt); have T214 := Lib.hid (T194.out.below hb211 T194.out.lt); have T215 := Lib.hid (T195.out.below hb211 T195.out.lt); have T216 := Lib.hid (T196.out.below hb211 T196.out.lt); have T217 := Lib.hid (T197.out.below hb211 T197.out.lt); have F218 := Lib.hid (F198.out.below hb211 (Nat.le_refl _)); have F219 := Lib.hid (F199.out.below hb211 (Nat.le_refl _)); have F220 := Lib.hid (F200.out.below hb211 (Nat.le_refl _)); have F221 := Lib.hid (F201.out.below hb211 (Nat.le_refl _)); have F222 := Lib.hid (F202.out.below hb211 (Nat.le_refl _)); have F223 := Lib.hid (F203.out.below hb211 (Nat.le_refl _)); have F224 := Lib.hid (F204.out.below hb211 (Nat.le_refl _)); have F225 := Lib.hid (F206.out.below hb211 (Nat.le_refl _)); have B226 := Lib.hid (B205.out.trans (hb211.mono B205.out.size)); clear hb211; have M227 := Lib.hid (load_rec T216.out); unfold rv at M227; have M228 := Lib.hid (load_rec T215.out); unfold rv at M228; have C229 := Lib.hid (join_any x (c.named a.z) A119 C c120 cc w210 (HLA.out _ B226.out) OKx.out OKc2.out F223.out F222.out); unfold JoinPost Rc.v at C229; unfold rv at C229; rw [JV.out] at C229; dsimp only [Option.getD, Option.isSome] at C229) | ((with_reducible refine wpList_load_by (o := ⟨some 85, .load 43 (.tmp 11), _, _, _, _⟩) ?e1 43 (.tmp 11) ?e2 ⟨w125.heap.size, 0, none⟩ ?e3 _ M227.out ?_); (case e1 => rfl); (case e2 => rfl); (case e3 => rfl)) | ((with_reducible refine wpList_load_by (o := ⟨some 86, .load 43 (.tmp 5), _, _, _, _⟩) ?e1 43 (.tmp 5) ?e2 ⟨(w.heap.size + 1 + 1), 0, none⟩ ?e3 _ M228.out ?_); (case e1 => rfl); (case e2 => rfl); (case e3 => rfl)))
  refine C229.out.mono ?_
  rintro e w230 ⟨A207, c208, rfl, hf209, hb231⟩
  have T232 := Lib.hid (T213.out.below hb231 T213.out.lt)
  have T233 := Lib.hid (T214.out.below hb231 T214.out.lt)
  have T234 := Lib.hid (T215.out.below hb231 T215.out.lt)
  have T235 := Lib.hid (T216.out.below hb231 T216.out.lt)
  have T236 := Lib.hid (T217.out.below hb231 T217.out.lt)
  have T237 := Lib.hid (T212.out.below hb231 T212.out.lt)
  have F238 := Lib.hid (F218.out.below hb231 (Nat.le_refl _))
  have F239 := Lib.hid (F219.out.below hb231 (Nat.le_refl _))
  have F240 := Lib.hid (F220.out.below hb231 (Nat.le_refl _))
  have F241 := Lib.hid (F221.out.below hb231 (Nat.le_refl _))
  have F242 := Lib.hid (F222.out.below hb231 (Nat.le_refl _))
  have F243 := Lib.hid (F223.out.below hb231 (Nat.le_refl _))
  have F244 := Lib.hid (F224.out.below hb231 (Nat.le_refl _))
  have F245 := Lib.hid (F225.out.below hb231 (Nat.le_refl _))
  have B246 := Lib.hid (B226.out.trans (hb231.mono B226.out.size))
  clear hb231
  have F247 := Lib.hid (hf209)
  clear hf209
  go_wp2_with (first | ((with_reducible refine wpList_store_new (o := ⟨none, .store 43 (.tmp 17) (.tmp 88), _, _, _, _⟩) (w := w230) ?e1 (.tmp 17) (.tmp 88) ?e2 w230.heap.size rfl ?e3 v.z v.n v.r (.slice A207 v.fs.length c208) ?e4 OKv.out.len ?e5 ?_); (case e1 => rfl); (case e2 => rfl); (case e3 => rfl); (case e4 => rfl); (case e5 => rfl); intro w251 hb252 hRs; have T253 := Lib.hid hRs; clear hRs; have T254 := Lib.hid (T232.out.below hb252 T232.out.lt); have T255 := Lib.hid (T233.out.below hb252 T233.out.lt); have T256 := Lib.hid (T234.out.below hb252 T234.out.lt); have T257 := Lib.hid (T235.out.below hb252 T235.out.lt); have T258 := Lib.hid (T236.out.below hb252 T236.out.lt); have T259 := Lib.hid (T237.out.below hb252 T237.out.lt); have F260 := Lib.hid (F238.out.below hb252 (Nat.le_refl _)); have F261 := Lib.hid (F239.out.below hb252 (Nat.le_refl _)); have F262 := Lib.hid (F240.out.below hb252 (Nat.le_refl _)); have F263 := Lib.hid (F241.out.below hb252 (Nat.le_refl _)); have F264 := Lib.hid (F242.out.below hb252 (Nat.le_refl _)); have F265 := Lib.hid (F243.out.below hb252 (Nat.le_refl _)); have F266 := Lib.hid (F244.out.below hb252 (Nat.le_refl _)); have F267 := Lib.hid (F245.out.below hb252 (Nat.le_refl _)); have F268 := Lib.hid (F247.out.below hb252 (Nat.le_refl _)); have B269 := Lib.hid (B246.out.trans (hb252.mono B246.out.size)); clear hb252; have M270 := Lib.hid (load_rec T254.out); unfold rv at M270; have M271 := Lib.hid (load_rec T259.out); unfold rv at M271; have C272 := Lib.hid (join_any a z A A170 ca c171 w251 (HLA.out _ B269.out) OKa.out OKz.out F260.out F267.out); unfold JoinPost Rc.v at C272; unfold rv at C272; rw [JW.out] at C272; dsimp only [Option.getD, Option.isSome] at C272) | ((with_reducible refine wpList_load_by (o := ⟨some 91, .load 43 (.tmp 3), _, _, _, _⟩) ?e1 43 (.tmp 3) ?e2 ⟨w.heap.size, 0, none⟩ ?e3 _ M270.out ?_); (case e1 => rfl); (case e2 => rfl); (case e3 => rfl)) | ((with_reducible refine wpList_load_by (o := ⟨some 92, .load 43 (.tmp 15), _, _, _, _⟩) ?e1 43 (.tmp 15) ?e2 ⟨w191.heap.size, 0, none⟩ ?e3 _ M271.out ?_); (case e1 => rfl); (case e2 => rfl); (case e3 => rfl)))
  refine C272.out.mono ?_
  rintro e w273 ⟨A248, c249, rfl, hf250, hb274⟩
  have T275 := Lib.hid (T254.out.below hb274 T254.out.lt)
  have T276 := Lib.hid (T255.out.below hb274 T255.out.lt)
  have T277 := Lib.hid (T256.out.below hb274 T256.out.lt)
  have T278 := Lib.hid (T257.out.below hb274 T257.out.lt)
  have T279 := Lib.hid (T258.out.below hb274 T258.out.lt)
  have T280 := Lib.hid (T259.out.below hb274 T259.out.lt)
  have T281 := Lib.hid (T253.out.below hb274 T253.out.lt)
  have F282 := Lib.hid (F260.out.below hb274 (Nat.le_refl _))
  have F283 := Lib.hid (F261.out.below hb274 (Nat.le_refl _))
  have F284 := Lib.hid (F262.out.below hb274 (Nat.le_refl _))
  have F285 := Lib.hid (F263.out.below hb274 (Nat.le_refl _))
  have F286 := Lib.hid (F264.out.below hb274 (Nat.le_refl _))
  have F287 := Lib.hid (F265.out.below hb274 (Nat.le_refl _))
  have F288 := Lib.hid (F266.out.below hb274 (Nat.le_refl _))
  have F289 := Lib.hid (F267.out.below hb274 (Nat.le_refl _))
  have F290 := Lib.hid (F268.out.below hb274 (Nat.le_refl _))
  have B291 := Lib.hid (B269.out.trans (hb274.mono B269.out.size))
  clear hb274
  have F292 := Lib.hid (hf250)
  clear hf250
  go_wp2_with (first | ((with_reducible refine wpList_store_new (o := ⟨none, .store 43 (.tmp 19) (.tmp 94), _, _, _, _⟩) (w := w273) ?e1 (.tmp 19) (.tmp 94) ?e2 w273.heap.size rfl ?e3 v.z v.n v.r (.slice A248 v.fs.length c249) ?e4 OKv.out.len ?e5 ?_); (case e1 => rfl); (case e2 => rfl); (case e3 => rfl); (case e4 => rfl); (case e5 => rfl); intro w296 hb297 hRs; have T298 := Lib.hid hRs; clear hRs; have T299 := Lib.hid (T275.out.below hb297 T275.out.lt); have T300 := Lib.hid (T276.out.below hb297 T276.out.lt); have T301 := Lib.hid (T277.out.below hb297 T277.out.lt); have T302 := Lib.hid (T278.out.below hb297 T278.out.lt); have T303 := Lib.hid (T279.out.below hb297 T279.out.lt); have T304 := Lib.hid (T280.out.below hb297 T280.out.lt); have T305 := Lib.hid (T281.out.below hb297 T281.out.lt); have F306 := Lib.hid (F282.out.below hb297 (Nat.le_refl _)); have F307 := Lib.hid (F283.out.below hb297 (Nat.le_refl _)); have F308 := Lib.hid (F284.out.below hb297 (Nat.le_refl _)); have F309 := Lib.hid (F285.out.below hb297 (Nat.le_refl _)); have F310 := Lib.hid (F286.out.below hb297 (Nat.le_refl _)); have F311 := Lib.hid (F287.out.below hb297 (Nat.le_refl _)); have F312 := Lib.hid (F288.out.below hb297 (Nat.le_refl _)); have F313 := Lib.hid (F289.out.below hb297 (Nat.le_refl _)); have F314 := Lib.hid (F290.out.below hb297 (Nat.le_refl _)); have F315 := Lib.hid (F292.out.below hb297 (Nat.le_refl _)); have B316 := Lib.hid (B291.out.trans (hb297.mono B291.out.size)); clear hb297; have M317 := Lib.hid (load_rec T299.out); unfold rv at M317; have M318 := Lib.hid (load_rec T299.out); unfold rv at M318; have C319 := Lib.hid (join_any a a A A ca ca w296 (HLA.out _ B316.out) OKa.out OKa.out F306.out F306.out); unfold JoinPost Rc.v at C319; unfold rv at C319; rw [JO.out] at C319; dsimp only [Option.getD, Option.isSome] at C319) | ((with_reducible refine wpList_load_by (o := ⟨some 97, .load 43 (.tmp 3), _, _, _, _⟩) ?e1 43 (.tmp 3) ?e2 ⟨w.heap.size, 0, none⟩ ?e3 _ M317.out ?_); (case e1 => rfl); (case e2 => rfl); (case e3 => rfl)) | ((with_reducible refine wpList_load_by (o := ⟨some 98, .load 43 (.tmp 3), _, _, _, _⟩) ?e1 43 (.tmp 3) ?e2 ⟨w.heap.size, 0, none⟩ ?e3 _ M318.out ?_); (case e1 => rfl); (case e2 => rfl); (case e3 => rfl)))
  refine C319.out.mono ?_
  rintro e w320 ⟨A293, c294, rfl, hf295, hb321⟩
  have T322 := Lib.hid (T299.out.below hb321 T299.out.lt)
  have T323 := Lib.hid (T300.out.below hb321 T300.out.lt)
  have T324 := Lib.hid (T301.out.below hb321 T301.out.lt)
  have T325 := Lib.hid (T302.out.below hb321 T302.out.lt)
  have T326 := Lib.hid (T303.out.below hb321 T303.out.lt)
  have T327 := Lib.hid (T304.out.below hb321 T304.out.lt)
  have T328 := Lib.hid (T305.out.below hb321 T305.out.lt)
  have T329 := Lib.hid (T298.out.below hb321 T298.out.lt)
  have F330 := Lib.hid (F306.out.below hb321 (Nat.le_refl _))
  have F331 := Lib.hid (F307.out.below hb321 (Nat.le_refl _))
  have F332 := Lib.hid (F308.out.below hb321 (Nat.le_refl _))
  have F333 := Lib.hid (F309.out.below hb321 (Nat.le_refl _))
  have F334 := Lib.hid (F310.out.below hb321 (Nat.le_refl _))
  have F335 := Lib.hid (F311.out.below hb321 (Nat.le_refl _))
  have F336 := Lib.hid (F312.out.below hb321 (Nat.le_refl _))
  have F337 := Lib.hid (F313.out.below hb321 (Nat.le_refl _))
  have F338 := Lib.hid (F314.out.below hb321 (Nat.le_refl _))
  have F339 := Lib.hid (F315.out.below hb321 (Nat.le_refl _))
  have B340 := Lib.hid (B316.out.trans (hb321.mono B316.out.size))
  clear hb321
  have F341 := Lib.hid (hf295)
  clear hf295
  go_wp2_with (first | ((with_reducible refine wpList_store_new (o := ⟨none, .store 43 (.tmp 21) (.tmp 100), _, _, _, _⟩) (w := w320) ?e1 (.tmp 21) (.tmp 100) ?e2 w320.heap.size rfl ?e3 a.z a.n a.r (.slice A293 a.fs.length c294) ?e4 OKa.out.len ?e5 ?_); (case e1 => rfl); (case e2 => rfl); (case e3 => rfl); (case e4 => rfl); (case e5 => rfl); intro w342 hb343 hRs; have T344 := Lib.hid hRs; clear hRs; have T345 := Lib.hid (T322.out.below hb343 T322.out.lt); have T346 := Lib.hid (T323.out.below hb343 T323.out.lt); have T347 := Lib.hid (T324.out.below hb343 T324.out.lt); have T348 := Lib.hid (T325.out.below hb343 T325.out.lt); have T349 := Lib.hid (T326.out.below hb343 T326.out.lt); have T350 := Lib.hid (T327.out.below hb343 T327.out.lt); have T351 := Lib.hid (T328.out.below hb343 T328.out.lt); have T352 := Lib.hid (T329.out.below hb343 T329.out.lt); have F353 := Lib.hid (F330.out.below hb343 (Nat.le_refl _)); have F354 := Lib.hid (F331.out.below hb343 (Nat.le_refl _)); have F355 := Lib.hid (F332.out.below hb343 (Nat.le_refl _)); have F356 := Lib.hid (F333.out.below hb343 (Nat.le_refl _)); have F357 := Lib.hid (F334.out.below hb343 (Nat.le_refl _)); have F358 := Lib.hid (F335.out.below hb343 (Nat.le_refl _)); have F359 := Lib.hid (F336.out.below hb343 (Nat.le_refl _)); have F360 := Lib.hid (F337.out.below hb343 (Nat.le_refl _)); have F361 := Lib.hid (F338.out.below hb343 (Nat.le_refl _)); have F362 := Lib.hid (F339.out.below hb343 (Nat.le_refl _)); have F363 := Lib.hid (F341.out.below hb343 (Nat.le_refl _)); have B364 := Lib.hid (B340.out.trans (hb343.mono B340.out.size)); clear hb343; have M365 := Lib.hid (load_rec T348.out); unfold rv at M365; have M366 := Lib.hid (load_rec T349.out); unfold rv at M366; have C367 := Lib.hid (same_any' x x A119 A137 c120 c138 w342 OKx.out OKx.out F358.out F359.out); unfold Rc.v at C367; unfold rv at C367; rw [SX.out] at C367) | ((with_reducible refine wpList_load_by (o := ⟨some 107, .load 43 (.tmp 11), _, _, _, _⟩) ?e1 43 (.tmp 11) ?e2 ⟨w125.heap.size, 0, none⟩ ?e3 _ M365.out ?_); (case e1 => rfl); (case e2 => rfl); (case e3 => rfl)) | ((with_reducible refine wpList_load_by (o := ⟨some 108, .load 43 (.tmp 13), _, _, _, _⟩) ?e1 43 (.tmp 13) ?e2 ⟨w156.heap.size, 0, none⟩ ?e3 _ M366.out ?_); (case e1 => rfl); (case e2 => rfl); (case e3 => rfl)))
  refine C367.out.mono ?_
  rintro e w368 ⟨rfl, hb369⟩
  have T370 := Lib.hid (T345.out.below hb369 T345.out.lt)
  have T371 := Lib.hid (T346.out.below hb369 T346.out.lt)
  have T372 := Lib.hid (T347.out.below hb369 T347.out.lt)
  have T373 := Lib.hid (T348.out.below hb369 T348.out.lt)
  have T374 := Lib.hid (T349.out.below hb369 T349.out.lt)
  have T375 := Lib.hid (T350.out.below hb369 T350.out.lt)
  have T376 := Lib.hid (T351.out.below hb369 T351.out.lt)
  have T377 := Lib.hid (T352.out.below hb369 T352.out.lt)
  have T378 := Lib.hid (T344.out.below hb369 T344.out.lt)
  have F379 := Lib.hid (F353.out.below hb369 (Nat.le_refl _))
  have F380 := Lib.hid (F354.out.below hb369 (Nat.le_refl _))
  have F381 := Lib.hid (F355.out.below hb369 (Nat.le_refl _))
  have F382 := Lib.hid (F356.out.below hb369 (Nat.le_refl _))
  have F383 := Lib.hid (F357.out.below hb369 (Nat.le_refl _))
  have F384 := Lib.hid (F358.out.below hb369 (Nat.le_refl _))
  have F385 := Lib.hid (F359.out.below hb369 (Nat.le_refl _))
  have F386 := Lib.hid (F360.out.below hb369 (Nat.le_refl _))
  have F387 := Lib.hid (F361.out.below hb369 (Nat.le_refl _))
  have F388 := Lib.hid (F362.out.below hb369 (Nat.le_refl _))
  have F389 := Lib.hid (F363.out.below hb369 (Nat.le_refl _))
  have B390 := Lib.hid (B364.out.trans (hb369.mono B364.out.size))
  clear hb369
  have M391 := Lib.hid (load_rec T376.out)
  unfold rv at M391
  have M392 := Lib.hid (load_rec T377.out)
  unfold rv at M392
  have C393 := Lib.hid (same_any' v v A207 A248 c208 c249 w368 OKv.out OKv.out F387.out F388.out)
  unfold Rc.v at C393
  unfold rv at C393
  rw [SV.out] at C393
  go_wp2_with (first | ((with_reducible refine wpList_load_by (o := ⟨some 112, .load 43 (.tmp 17), _, _, _, _⟩) ?e1 43 (.tmp 17) ?e2 ⟨w230.heap.size, 0, none⟩ ?e3 _ M391.out ?_); (case e1 => rfl); (case e2 => rfl); (case e3 => rfl)) | ((with_reducible refine wpList_load_by (o := ⟨some 113, .load 43 (.tmp 19), _, _, _, _⟩) ?e1 43 (.tmp 19) ?e2 ⟨w273.heap.size, 0, none⟩ ?e3 _ M392.out ?_); (case e1 => rfl); (case e2 => rfl); (case e3 => rfl)))
  refine C393.out.mono ?_
  rintro e w394 ⟨rfl, hb395⟩
  have T396 := Lib.hid (T370.out.below hb395 T370.out.lt)
  have T397 := Lib.hid (T371.out.below hb395 T371.out.lt)
  have T398 := Lib.hid (T372.out.below hb395 T372.out.lt)
  have T399 := Lib.hid (T373.out.below hb395 T373.out.lt)
  have T400 := Lib.hid (T374.out.below hb395 T374.out.lt)
  have T401 := Lib.hid (T375.out.below hb395 T375.out.lt)
  have T402 := Lib.hid (T376.out.below hb395 T376.out.lt)
  have T403 := Lib.hid (T377.out.below hb395 T377.out.lt)
  have T404 := Lib.hid (T378.out.below hb395 T378.out.lt)
  have F405 := Lib.hid (F379.out.below hb395 (Nat.le_refl _))
  have F406 := Lib.hid (F380.out.below hb395 (Nat.le_refl _))
  have F407 := Lib.hid (F381.out.below hb395 (Nat.le_refl _))
  have F408 := Lib.hid (F382.out.below hb395 (Nat.le_refl _))
  have F409 := Lib.hid (F383.out.below hb395 (Nat.le_refl _))
  have F410 := Lib.hid (F384.out.below hb395 (Nat.le_refl _))
  have F411 := Lib.hid (F385.out.below hb395 (Nat.le_refl _))
  have F412 := Lib.hid (F386.out.below hb395 (Nat.le_refl _))
  have F413 := Lib.hid (F387.out.below hb395 (Nat.le_refl _))
  have F414 := Lib.hid (F388.out.below hb395 (Nat.le_refl _))
  have F415 := Lib.hid (F389.out.below hb395 (Nat.le_refl _))
  have B416 := Lib.hid (B390.out.trans (hb395.mono B390.out.size))
  clear hb395
  have M417 := Lib.hid (load_rec T404.out)
  unfold rv at M417
  have M418 := Lib.hid (load_rec T396.out)
  unfold rv at M418
  have C419 := Lib.hid (same_any' a a A293 A c294 ca w394 OKa.out OKa.out F415.out F405.out)
  unfold Rc.v at C419
  unfold rv at C419
  rw [SA.out] at C419
  go_wp2_with (first | ((with_reducible refine wpList_load_by (o := ⟨some 117, .load 43 (.tmp 21), _, _, _, _⟩) ?e1 43 (.tmp 21) ?e2 ⟨w320.heap.size, 0, none⟩ ?e3 _ M417.out ?_); (case e1 => rfl); (case e2 => rfl); (case e3 => rfl)) | ((with_reducible refine wpList_load_by (o := ⟨some 118, .load 43 (.tmp 3), _, _, _, _⟩) ?e1 43 (.tmp 3) ?e2 ⟨w.heap.size, 0, none⟩ ?e3 _ M418.out ?_); (case e1 => rfl); (case e2 => rfl); (case e3 => rfl)))
  refine C419.out.mono ?_
  rintro e w420 ⟨rfl, hb421⟩
  have T422 := Lib.hid (T396.out.below hb421 T396.out.lt)
  have T423 := Lib.hid (T397.out.below hb421 T397.out.lt)
  have T424 := Lib.hid (T398.out.below hb421 T398.out.lt)
  have T425 := Lib.hid (T399.out.below hb421 T399.out.lt)
  have T426 := Lib.hid (T400.out.below hb421 T400.out.lt)
  have T427 := Lib.hid (T401.out.below hb421 T401.out.lt)
  have T428 := Lib.hid (T402.out.below hb421 T402.out.lt)
  have T429 := Lib.hid (T403.out.below hb421 T403.out.lt)
  have T430 := Lib.hid (T404.out.below hb421 T404.out.lt)
  have F431 := Lib.hid (F405.out.below hb421 (Nat.le_refl _))
  have F432 := Lib.hid (F406.out.below hb421 (Nat.le_refl _))
  have F433 := Lib.hid (F407.out.below hb421 (Nat.le_refl _))
  have F434 := Lib.hid (F408.out.below hb421 (Nat.le_refl _))
  have F435 := Lib.hid (F409.out.below hb421 (Nat.le_refl _))
  have F436 := Lib.hid (F410.out.below hb421 (Nat.le_refl _))
  have F437 := Lib.hid (F411.out.below hb421 (Nat.le_refl _))
  have F438 := Lib.hid (F412.out.below hb421 (Nat.le_refl _))
  have F439 := Lib.hid (F413.out.below hb421 (Nat.le_refl _))
  have F440 := Lib.hid (F414.out.below hb421 (Nat.le_refl _))
  have F441 := Lib.hid (F415.out.below hb421 (Nat.le_refl _))
  have B442 := Lib.hid (B416.out.trans (hb421.mono B416.out.size))
  clear hb421
  have M443 := Lib.hid (load_rec T425.out)
  unfold rv at M443
  have C444 := Lib.hid (may_any' x A119 c120 w420 OKx.out F436.out)
  unfold Rc.v at C444
  unfold rv at C444
  rw [MX.out] at C444
  go_wp2_with (first | ((with_reducible refine wpList_load_by (o := ⟨some 122, .load 43 (.tmp 11), _, _, _, _⟩) ?e1 43 (.tmp 11) ?e2 ⟨w125.heap.size, 0, none⟩ ?e3 _ M443.out ?_); (case e1 => rfl); (case e2 => rfl); (case e3 => rfl)))
  refine C444.out.mono ?_
  rintro e w445 ⟨rfl, hb446⟩
  have T447 := Lib.hid (T422.out.below hb446 T422.out.lt)
  have T448 := Lib.hid (T423.out.below hb446 T423.out.lt)
  have T449 := Lib.hid (T424.out.below hb446 T424.out.lt)
  have T450 := Lib.hid (T425.out.below hb446 T425.out.lt)
  have T451 := Lib.hid (T426.out.below hb446 T426.out.lt)
  have T452 := Lib.hid (T427.out.below hb446 T427.out.lt)
  have T453 := Lib.hid (T428.out.below hb446 T428.out.lt)
  have T454 := Lib.hid (T429.out.below hb446 T429.out.lt)
  have T455 := Lib.hid (T430.out.below hb446 T430.out.lt)
  have F456 := Lib.hid (F431.out.below hb446 (Nat.le_refl _))
  have F457 := Lib.hid (F432.out.below hb446 (Nat.le_refl _))
  have F458 := Lib.hid (F433.out.below hb446 (Nat.le_refl _))
  have F459 := Lib.hid (F434.out.below hb446 (Nat.le_refl _))
  have F460 := Lib.hid (F435.out.below hb446 (Nat.le_refl _))
  have F461 := Lib.hid (F436.out.below hb446 (Nat.le_refl _))
  have F462 := Lib.hid (F437.out.below hb446 (Nat.le_refl _))
  have F463 := Lib.hid (F438.out.below hb446 (Nat.le_refl _))
  have F464 := Lib.hid (F439.out.below hb446 (Nat.le_refl _))
  have F465 := Lib.hid (F440.out.below hb446 (Nat.le_refl _))
  have F466 := Lib.hid (F441.out.below hb446 (Nat.le_refl _))
  have B467 := Lib.hid (B442.out.trans (hb446.mono B442.out.size))
  clear hb446
  have M468 := Lib.hid (load_rec T447.out)
  unfold rv at M468
  have M469 := Lib.hid (load_rec T450.out)
  unfold rv at M469
  have C470 := Lib.hid (leq_any a x A A119 ca c120 w445 (HLA.out _ B467.out) OKa.out OKx.out F456.out F461.out)
  unfold Rc.v at C470
  unfold rv at C470
  rw [LAX.out] at C470
  go_wp2_with (first | ((with_reducible refine wpList_load_by (o := ⟨some 126, .load 43 (.tmp 3), _, _, _, _⟩) ?e1 43 (.tmp 3) ?e2 ⟨w.heap.size, 0, none⟩ ?e3 _ M468.out ?_); (case e1 => rfl); (case e2 => rfl); (case e3 => rfl)) | ((with_reducible refine wpList_load_by (o := ⟨some 127, .load 43 (.tmp 11), _, _, _, _⟩) ?e1 43 (.tmp 11) ?e2 ⟨w125.heap.size, 0, none⟩ ?e3 _ M469.out ?_); (case e1 => rfl); (case e2 => rfl); (case e3 => rfl)))
  refine C470.out.mono ?_
  rintro e w471 ⟨rfl, hb472⟩
  have T473 := Lib.hid (T447.out.below hb472 T447.out.lt)
  have T474 := Lib.hid (T448.out.below hb472 T448.out.lt)
  have T475 := Lib.hid (T449.out.below hb472 T449.out.lt)
  have T476 := Lib.hid (T450.out.below hb472 T450.out.lt)
  have T477 := Lib.hid (T451.out.below hb472 T451.out.lt)
  have T478 := Lib.hid (T452.out.below hb472 T452.out.lt)
  have T479 := Lib.hid (T453.out.below hb472 T453.out.lt)
  have T480 := Lib.hid (T454.out.below hb472 T454.out.lt)
  have T481 := Lib.hid (T455.out.below hb472 T455.out.lt)
  have F482 := Lib.hid (F456.out.below hb472 (Nat.le_refl _))
  have F483 := Lib.hid (F457.out.below hb472 (Nat.le_refl _))
  have F484 := Lib.hid (F458.out.below hb472 (Nat.le_refl _))
  have F485 := Lib.hid (F459.out.below hb472 (Nat.le_refl _))
  have F486 := Lib.hid (F460.out.below hb472 (Nat.le_refl _))
  have F487 := Lib.hid (F461.out.below hb472 (Nat.le_refl _))
  have F488 := Lib.hid (F462.out.below hb472 (Nat.le_refl _))
  have F489 := Lib.hid (F463.out.below hb472 (Nat.le_refl _))
  have F490 := Lib.hid (F464.out.below hb472 (Nat.le_refl _))
  have F491 := Lib.hid (F465.out.below hb472 (Nat.le_refl _))
  have F492 := Lib.hid (F466.out.below hb472 (Nat.le_refl _))
  have B493 := Lib.hid (B467.out.trans (hb472.mono B467.out.size))
  clear hb472
  have M494 := Lib.hid (load_rec T474.out)
  unfold rv at M494
  have M495 := Lib.hid (load_rec T476.out)
  unfold rv at M495
  have C496 := Lib.hid (leq_any (b.named a.z) x B A119 cb c120 w471 (HLA.out _ B493.out) OKb2.out OKx.out F485.out F487.out)
  unfold Rc.v at C496
  unfold rv at C496
  rw [LBX.out] at C496
  go_wp2_with (first | ((with_reducible refine wpList_load_by (o := ⟨some 131, .load 43 (.tmp 4), _, _, _, _⟩) ?e1 43 (.tmp 4) ?e2 ⟨(w.heap.size + 1), 0, none⟩ ?e3 _ M494.out ?_); (case e1 => rfl); (case e2 => rfl); (case e3 => rfl)) | ((with_reducible refine wpList_load_by (o := ⟨some 132, .load 43 (.tmp 11), _, _, _, _⟩) ?e1 43 (.tmp 11) ?e2 ⟨w125.heap.size, 0, none⟩ ?e3 _ M495.out ?_); (case e1 => rfl); (case e2 => rfl); (case e3 => rfl)))
  refine C496.out.mono ?_
  rintro e w497 ⟨rfl, hb498⟩
  have T499 := Lib.hid (T473.out.below hb498 T473.out.lt)
  have T500 := Lib.hid (T474.out.below hb498 T474.out.lt)
  have T501 := Lib.hid (T475.out.below hb498 T475.out.lt)
  have T502 := Lib.hid (T476.out.below hb498 T476.out.lt)
  have T503 := Lib.hid (T477.out.below hb498 T477.out.lt)
  have T504 := Lib.hid (T478.out.below hb498 T478.out.lt)
  have T505 := Lib.hid (T479.out.below hb498 T479.out.lt)
  have T506 := Lib.hid (T480.out.below hb498 T480.out.lt)
  have T507 := Lib.hid (T481.out.below hb498 T481.out.lt)
  have F508 := Lib.hid (F482.out.below hb498 (Nat.le_refl _))
  have F509 := Lib.hid (F483.out.below hb498 (Nat.le_refl _))
  have F510 := Lib.hid (F484.out.below hb498 (Nat.le_refl _))
  have F511 := Lib.hid (F485.out.below hb498 (Nat.le_refl _))
  have F512 := Lib.hid (F486.out.below hb498 (Nat.le_refl _))
  have F513 := Lib.hid (F487.out.below hb498 (Nat.le_refl _))
  have F514 := Lib.hid (F488.out.below hb498 (Nat.le_refl _))
  have F515 := Lib.hid (F489.out.below hb498 (Nat.le_refl _))
  have F516 := Lib.hid (F490.out.below hb498 (Nat.le_refl _))
  have F517 := Lib.hid (F491.out.below hb498 (Nat.le_refl _))
  have F518 := Lib.hid (F492.out.below hb498 (Nat.le_refl _))
  have B519 := Lib.hid (B493.out.trans (hb498.mono B493.out.size))
  clear hb498
  have M520 := Lib.hid (load_rec T499.out)
  unfold rv at M520
  have M521 := Lib.hid (load_rec T505.out)
  unfold rv at M521
  have C522 := Lib.hid (leq_any a v A A207 ca c208 w497 (HLA.out _ B519.out) OKa.out OKv.out F508.out F516.out)
  unfold Rc.v at C522
  unfold rv at C522
  rw [LAV.out] at C522
  go_wp2_with (first | ((with_reducible refine wpList_load_by (o := ⟨some 136, .load 43 (.tmp 3), _, _, _, _⟩) ?e1 43 (.tmp 3) ?e2 ⟨w.heap.size, 0, none⟩ ?e3 _ M520.out ?_); (case e1 => rfl); (case e2 => rfl); (case e3 => rfl)) | ((with_reducible refine wpList_load_by (o := ⟨some 137, .load 43 (.tmp 17), _, _, _, _⟩) ?e1 43 (.tmp 17) ?e2 ⟨w230.heap.size, 0, none⟩ ?e3 _ M521.out ?_); (case e1 => rfl); (case e2 => rfl); (case e3 => rfl)))
  refine C522.out.mono ?_
  rintro e w523 ⟨rfl, hb524⟩
  have T525 := Lib.hid (T499.out.below hb524 T499.out.lt)
  have T526 := Lib.hid (T500.out.below hb524 T500.out.lt)
  have T527 := Lib.hid (T501.out.below hb524 T501.out.lt)
  have T528 := Lib.hid (T502.out.below hb524 T502.out.lt)
  have T529 := Lib.hid (T503.out.below hb524 T503.out.lt)
  have T530 := Lib.hid (T504.out.below hb524 T504.out.lt)
  have T531 := Lib.hid (T505.out.below hb524 T505.out.lt)
  have T532 := Lib.hid (T506.out.below hb524 T506.out.lt)
  have T533 := Lib.hid (T507.out.below hb524 T507.out.lt)
  have F534 := Lib.hid (F508.out.below hb524 (Nat.le_refl _))
  have F535 := Lib.hid (F509.out.below hb524 (Nat.le_refl _))
  have F536 := Lib.hid (F510.out.below hb524 (Nat.le_refl _))
  have F537 := Lib.hid (F511.out.below hb524 (Nat.le_refl _))
  have F538 := Lib.hid (F512.out.below hb524 (Nat.le_refl _))
  have F539 := Lib.hid (F513.out.below hb524 (Nat.le_refl _))
  have F540 := Lib.hid (F514.out.below hb524 (Nat.le_refl _))
  have F541 := Lib.hid (F515.out.below hb524 (Nat.le_refl _))
  have F542 := Lib.hid (F516.out.below hb524 (Nat.le_refl _))
  have F543 := Lib.hid (F517.out.below hb524 (Nat.le_refl _))
  have F544 := Lib.hid (F518.out.below hb524 (Nat.le_refl _))
  have B545 := Lib.hid (B519.out.trans (hb524.mono B519.out.size))
  clear hb524
  have M546 := Lib.hid (load_rec T527.out)
  unfold rv at M546
  have M547 := Lib.hid (load_rec T531.out)
  unfold rv at M547
  have C548 := Lib.hid (leq_any (c.named a.z) v C A207 cc c208 w523 (HLA.out _ B545.out) OKc2.out OKv.out F538.out F542.out)
  unfold Rc.v at C548
  unfold rv at C548
  rw [LCV.out] at C548
  go_wp2_with (first | ((with_reducible refine wpList_load_by (o := ⟨some 141, .load 43 (.tmp 5), _, _, _, _⟩) ?e1 43 (.tmp 5) ?e2 ⟨(w.heap.size + 1 + 1), 0, none⟩ ?e3 _ M546.out ?_); (case e1 => rfl); (case e2 => rfl); (case e3 => rfl)) | ((with_reducible refine wpList_load_by (o := ⟨some 142, .load 43 (.tmp 17), _, _, _, _⟩) ?e1 43 (.tmp 17) ?e2 ⟨w230.heap.size, 0, none⟩ ?e3 _ M547.out ?_); (case e1 => rfl); (case e2 => rfl); (case e3 => rfl)))
  refine C548.out.mono ?_
  rintro e w549 ⟨rfl, hb550⟩
  have T551 := Lib.hid (T525.out.below hb550 T525.out.lt)
  have T552 := Lib.hid (T526.out.below hb550 T526.out.lt)
  have T553 := Lib.hid (T527.out.below hb550 T527.out.lt)
  have T554 := Lib.hid (T528.out.below hb550 T528.out.lt)
  have T555 := Lib.hid (T529.out.below hb550 T529.out.lt)
  have T556 := Lib.hid (T530.out.below hb550 T530.out.lt)
  have T557 := Lib.hid (T531.out.below hb550 T531.out.lt)
  have T558 := Lib.hid (T532.out.below hb550 T532.out.lt)
  have T559 := Lib.hid (T533.out.below hb550 T533.out.lt)
  have F560 := Lib.hid (F534.out.below hb550 (Nat.le_refl _))
  have F561 := Lib.hid (F535.out.below hb550 (Nat.le_refl _))
  have F562 := Lib.hid (F536.out.below hb550 (Nat.le_refl _))
  have F563 := Lib.hid (F537.out.below hb550 (Nat.le_refl _))
  have F564 := Lib.hid (F538.out.below hb550 (Nat.le_refl _))
  have F565 := Lib.hid (F539.out.below hb550 (Nat.le_refl _))
  have F566 := Lib.hid (F540.out.below hb550 (Nat.le_refl _))
  have F567 := Lib.hid (F541.out.below hb550 (Nat.le_refl _))
  have F568 := Lib.hid (F542.out.below hb550 (Nat.le_refl _))
  have F569 := Lib.hid (F543.out.below hb550 (Nat.le_refl _))
  have F570 := Lib.hid (F544.out.below hb550 (Nat.le_refl _))
  have B571 := Lib.hid (B545.out.trans (hb550.mono B545.out.size))
  clear hb550
  go_wp2
  go_ret
  exact ⟨rfl, B571.out⟩
theorem walk_recJoins (a : Rc) (A : Option Addr) (ca : Nat) (b : Rc) (B : Option Addr) (cb : Nat) (c : Rc) (C : Option Addr) (cc : Nat) (w : World) (hlaid : Laid w) (wa : IsRec w a A ca) (wb : IsRec w b B cb) (wc : IsRec w c C cc) :
    Calls Tryd.prog 7 #[a.v A ca, b.v B cb, c.v C cc] w fun e w' => e = .returned (.bool true) ∧ Below w.heap.size w w' := by
  cases p : (fewR a.fs && fewR b.fs && fewR c.fs)
  · exact joins_few a A ca b B cb c C cc w hlaid wa wb wc p
  · cases m : (a.may && (b.named a.z).may && (c.named a.z).may)
    · exact joins_may a A ca b B cb c C cc w hlaid wa wb wc p m
    · simp only [Bool.and_eq_true] at m
      exact joins_yes a A ca b B cb c C cc w hlaid wa wb wc p m.1.1 m.1.2 m.2
end Go.Proofs.YtonbhcbkelmhgaaDoor
