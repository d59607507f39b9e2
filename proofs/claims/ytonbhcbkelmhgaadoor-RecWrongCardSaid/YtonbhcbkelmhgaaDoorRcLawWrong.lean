/-
  The law RecWrong: for every two records it answers true, and nothing that was there is written.
-/
import Derived.Test.YtonbhcbkelmhgaaDoorRcAwake
import Derived.Test.YtonbhcbkelmhgaaDoorRcArgs
namespace Go.Proofs.YtonbhcbkelmhgaaDoor
open Go.RowKit WM
set_option linter.unusedVariables false
set_option maxRecDepth 100000
theorem Rc.join_none {a b : Rc} (h : ((a.z == b.z) && a.may && b.may) = false) : a.join b = none := by
  unfold Rc.join rjoin
  rw [if_neg]
  unfold Rc.may at h
  rw [h]
  simp
theorem Rc.join_isSome (a b : Rc) : (a.join b).isSome = ((a.z == b.z) && a.may && b.may) := by
  unfold Rc.join rjoin Rc.may
  split
  · rename_i h; rw [h]; rfl
  · rename_i h; rw [Bool.not_eq_true] at h; rw [h]; rfl
theorem Rc.leq_none {a b : Rc} (h : a.join b = none) : a.leq b = false := by rw [Rc.leq_eq, h]; rfl
theorem z_swap (x y : List Int) : (x == y) = (y == x) := by
  rw [Bool.eq_iff_iff, beq_iff_eq, beq_iff_eq]
  exact eq_comm
set_option maxHeartbeats 8000000 in
theorem walk_recWrong (a : Rc) (A : Option Addr) (ca : Nat) (b : Rc) (B : Option Addr) (cb : Nat) (w : World) (hlaid : Laid w) (wa : IsRec w a A ca) (wb : IsRec w b B cb) :
    Calls Tryd.prog 12 #[a.v A ca, b.v B cb] w fun e w' => e = .returned (.bool true) ∧ Below w.heap.size w w' := by
  have HLA := Lib.hid (fun (X : World) (hX : Below w.heap.size w X) => hlaid.below hX (Nat.le_refl _))
  have OKa := Lib.hid wa.1
  have OKb := Lib.hid wb.1
  have Fa := Lib.hid wa.2.1
  have Fb := Lib.hid wb.2.1
  have hz := zeroRec
  unfold rv at hz
  have HEQ := Lib.hid (eq_id wa.1.2 wb.1.2 wa.1.1 wb.1.1)
  conv => congr; rfl; rfl; (unfold Rc.v rv)
  clear hlaid wa wb
  cases pa : fewR a.fs
  · cases pb : fewR b.fs
    · have PA := Lib.hid pa
      have PB := Lib.hid pb
      clear pa pb HEQ
      have B1 := Lib.hid (Below.refl w.heap.size w)
      have T2n := RcAt.new w OKa.out.len a.n a.r (.slice A a.fs.length ca)
      have T2 := Lib.hid (T2n)
      clear T2n
      have B3 := Lib.hid (B1.out.alloc B1.out.size (.cells (rcells a.z a.n a.r (.slice A a.fs.length ca)) 43))
      have T4 := Lib.hid (T2.out.old (.cells (rcells b.z b.n b.r (.slice B b.fs.length cb)) 43))
      have T5n := RcAt.new (w.alloc (.cells (rcells a.z a.n a.r (.slice A a.fs.length ca)) 43)) OKb.out.len b.n b.r (.slice B b.fs.length cb)
      simp only [World.size_alloc] at T5n
      have T5 := Lib.hid (T5n)
      clear T5n
      have B6 := Lib.hid (B3.out.alloc B3.out.size (.cells (rcells b.z b.n b.r (.slice B b.fs.length cb)) 43))
      have F7 := Lib.hid (Fa.out.below B6.out (Nat.le_refl _))
      have F8 := Lib.hid (Fb.out.below B6.out (Nat.le_refl _))
      go_enter Tryd.func12, Tryd.ntmps12
      have C9 := Lib.hid (rcAwake ((w.alloc (.cells (rcells a.z a.n a.r (.slice A a.fs.length ca)) 43)).alloc (.cells (rcells b.z b.n b.r (.slice B b.fs.length cb)) 43)) (HLA.out _ B6.out))
      go_wp2_with fail
      refine C9.out.mono ?_
      rintro e w10 ⟨rfl, hb11⟩
      have T12 := Lib.hid (T4.out.below hb11 T4.out.lt)
      have T13 := Lib.hid (T5.out.below hb11 T5.out.lt)
      have F14 := Lib.hid (F7.out.below hb11 (Nat.le_refl _))
      have F15 := Lib.hid (F8.out.below hb11 (Nat.le_refl _))
      have B16 := Lib.hid (B6.out.trans (hb11.mono B6.out.size))
      clear hb11
      have M17 := Lib.hid (load_rec T12.out)
      unfold rv at M17
      have C18 := Lib.hid (fewR_any a A ca w10 OKa.out F14.out)
      unfold Rc.v at C18
      unfold rv at C18
      rw [PA.out] at C18
      go_wp2_with (first | ((with_reducible refine wpList_load_by (o := ⟨some 11, .load 43 (.tmp 2), _, _, _, _⟩) ?e1 43 (.tmp 2) ?e2 ⟨w.heap.size, 0, none⟩ ?e3 _ M17.out ?_); (case e1 => rfl); (case e2 => rfl); (case e3 => rfl)))
      refine C18.out.mono ?_
      rintro e w19 ⟨rfl, hb20⟩
      have T21 := Lib.hid (T12.out.below hb20 T12.out.lt)
      have T22 := Lib.hid (T13.out.below hb20 T13.out.lt)
      have F23 := Lib.hid (F14.out.below hb20 (Nat.le_refl _))
      have F24 := Lib.hid (F15.out.below hb20 (Nat.le_refl _))
      have B25 := Lib.hid (B16.out.trans (hb20.mono B16.out.size))
      clear hb20
      have M26 := Lib.hid (load_rec T22.out)
      unfold rv at M26
      have C27 := Lib.hid (fewR_any b B cb w19 OKb.out F24.out)
      unfold Rc.v at C27
      unfold rv at C27
      rw [PB.out] at C27
      go_wp2_with (first | ((with_reducible refine wpList_load_by (o := ⟨some 13, .load 43 (.tmp 3), _, _, _, _⟩) ?e1 43 (.tmp 3) ?e2 ⟨(w.heap.size + 1), 0, none⟩ ?e3 _ M26.out ?_); (case e1 => rfl); (case e2 => rfl); (case e3 => rfl)))
      refine C27.out.mono ?_
      rintro e w28 ⟨rfl, hb29⟩
      have T30 := Lib.hid (T21.out.below hb29 T21.out.lt)
      have T31 := Lib.hid (T22.out.below hb29 T22.out.lt)
      have F32 := Lib.hid (F23.out.below hb29 (Nat.le_refl _))
      have F33 := Lib.hid (F24.out.below hb29 (Nat.le_refl _))
      have B34 := Lib.hid (B25.out.trans (hb29.mono B25.out.size))
      clear hb29
      go_wp2
      go_ret
      exact ⟨rfl, B34.out⟩
    · have PA := Lib.hid pa
      have PB := Lib.hid pb
      clear pa pb HEQ
      have B1 := Lib.hid (Below.refl w.heap.size w)
      have T2n := RcAt.new w OKa.out.len a.n a.r (.slice A a.fs.length ca)
      have T2 := Lib.hid (T2n)
      clear T2n
      have B3 := Lib.hid (B1.out.alloc B1.out.size (.cells (rcells a.z a.n a.r (.slice A a.fs.length ca)) 43))
      have T4 := Lib.hid (T2.out.old (.cells (rcells b.z b.n b.r (.slice B b.fs.length cb)) 43))
      have T5n := RcAt.new (w.alloc (.cells (rcells a.z a.n a.r (.slice A a.fs.length ca)) 43)) OKb.out.len b.n b.r (.slice B b.fs.length cb)
      simp only [World.size_alloc] at T5n
      have T5 := Lib.hid (T5n)
      clear T5n
      have B6 := Lib.hid (B3.out.alloc B3.out.size (.cells (rcells b.z b.n b.r (.slice B b.fs.length cb)) 43))
      have F7 := Lib.hid (Fa.out.below B6.out (Nat.le_refl _))
      have F8 := Lib.hid (Fb.out.below B6.out (Nat.le_refl _))
      go_enter Tryd.func12, Tryd.ntmps12
      have C9 := Lib.hid (rcAwake ((w.alloc (.cells (rcells a.z a.n a.r (.slice A a.fs.length ca)) 43)).alloc (.cells (rcells b.z b.n b.r (.slice B b.fs.length cb)) 43)) (HLA.out _ B6.out))
      go_wp2_with fail
      refine C9.out.mono ?_
      rintro e w10 ⟨rfl, hb11⟩
      have T12 := Lib.hid (T4.out.below hb11 T4.out.lt)
      have T13 := Lib.hid (T5.out.below hb11 T5.out.lt)
      have F14 := Lib.hid (F7.out.below hb11 (Nat.le_refl _))
      have F15 := Lib.hid (F8.out.below hb11 (Nat.le_refl _))
      have B16 := Lib.hid (B6.out.trans (hb11.mono B6.out.size))
      clear hb11
      have M17 := Lib.hid (load_rec T12.out)
      unfold rv at M17
      have C18 := Lib.hid (fewR_any a A ca w10 OKa.out F14.out)
      unfold Rc.v at C18
      unfold rv at C18
      rw [PA.out] at C18
      go_wp2_with (first | ((with_reducible refine wpList_load_by (o := ⟨some 11, .load 43 (.tmp 2), _, _, _, _⟩) ?e1 43 (.tmp 2) ?e2 ⟨w.heap.size, 0, none⟩ ?e3 _ M17.out ?_); (case e1 => rfl); (case e2 => rfl); (case e3 => rfl)))
      refine C18.out.mono ?_
      rintro e w19 ⟨rfl, hb20⟩
      have T21 := Lib.hid (T12.out.below hb20 T12.out.lt)
      have T22 := Lib.hid (T13.out.below hb20 T13.out.lt)
      have F23 := Lib.hid (F14.out.below hb20 (Nat.le_refl _))
      have F24 := Lib.hid (F15.out.below hb20 (Nat.le_refl _))
      have B25 := Lib.hid (B16.out.trans (hb20.mono B16.out.size))
      clear hb20
      have M26 := Lib.hid (load_rec T22.out)
      unfold rv at M26
      have C27 := Lib.hid (fewR_any b B cb w19 OKb.out F24.out)
      unfold Rc.v at C27
      unfold rv at C27
      rw [PB.out] at C27
      go_wp2_with (first | ((with_reducible refine wpList_load_by (o := ⟨some 13, .load 43 (.tmp 3), _, _, _, _⟩) ?e1 43 (.tmp 3) ?e2 ⟨(w.heap.size + 1), 0, none⟩ ?e3 _ M26.out ?_); (case e1 => rfl); (case e2 => rfl); (case e3 => rfl)))
      refine C27.out.mono ?_
      rintro e w28 ⟨rfl, hb29⟩
      have T30 := Lib.hid (T21.out.below hb29 T21.out.lt)
      have T31 := Lib.hid (T22.out.below hb29 T22.out.lt)
      have F32 := Lib.hid (F23.out.below hb29 (Nat.le_refl _))
      have F33 := Lib.hid (F24.out.below hb29 (Nat.le_refl _))
      have B34 := Lib.hid (B25.out.trans (hb29.mono B25.out.size))
      clear hb29
      go_wp2
      go_ret
      exact ⟨rfl, B34.out⟩
  · cases pb : fewR b.fs
    · have PA := Lib.hid pa
      have PB := Lib.hid pb
      clear pa pb HEQ
      have B1 := Lib.hid (Below.refl w.heap.size w)
      have T2n := RcAt.new w OKa.out.len a.n a.r (.slice A a.fs.length ca)
      have T2 := Lib.hid (T2n)
      clear T2n
      have B3 := Lib.hid (B1.out.alloc B1.out.size (.cells (rcells a.z a.n a.r (.slice A a.fs.length ca)) 43))
      have T4 := Lib.hid (T2.out.old (.cells (rcells b.z b.n b.r (.slice B b.fs.length cb)) 43))
      have T5n := RcAt.new (w.alloc (.cells (rcells a.z a.n a.r (.slice A a.fs.length ca)) 43)) OKb.out.len b.n b.r (.slice B b.fs.length cb)
      simp only [World.size_alloc] at T5n
      have T5 := Lib.hid (T5n)
      clear T5n
      have B6 := Lib.hid (B3.out.alloc B3.out.size (.cells (rcells b.z b.n b.r (.slice B b.fs.length cb)) 43))
      have F7 := Lib.hid (Fa.out.below B6.out (Nat.le_refl _))
      have F8 := Lib.hid (Fb.out.below B6.out (Nat.le_refl _))
      go_enter Tryd.func12, Tryd.ntmps12
      have C9 := Lib.hid (rcAwake ((w.alloc (.cells (rcells a.z a.n a.r (.slice A a.fs.length ca)) 43)).alloc (.cells (rcells b.z b.n b.r (.slice B b.fs.length cb)) 43)) (HLA.out _ B6.out))
      go_wp2_with fail
      refine C9.out.mono ?_
      rintro e w10 ⟨rfl, hb11⟩
      have T12 := Lib.hid (T4.out.below hb11 T4.out.lt)
      have T13 := Lib.hid (T5.out.below hb11 T5.out.lt)
      have F14 := Lib.hid (F7.out.below hb11 (Nat.le_refl _))
      have F15 := Lib.hid (F8.out.below hb11 (Nat.le_refl _))
      have B16 := Lib.hid (B6.out.trans (hb11.mono B6.out.size))
      clear hb11
      have M17 := Lib.hid (load_rec T12.out)
      unfold rv at M17
      have C18 := Lib.hid (fewR_any a A ca w10 OKa.out F14.out)
      unfold Rc.v at C18
      unfold rv at C18
      rw [PA.out] at C18
      go_wp2_with (first | ((with_reducible refine wpList_load_by (o := ⟨some 11, .load 43 (.tmp 2), _, _, _, _⟩) ?e1 43 (.tmp 2) ?e2 ⟨w.heap.size, 0, none⟩ ?e3 _ M17.out ?_); (case e1 => rfl); (case e2 => rfl); (case e3 => rfl)))
      refine C18.out.mono ?_
      rintro e w19 ⟨rfl, hb20⟩
      have T21 := Lib.hid (T12.out.below hb20 T12.out.lt)
      have T22 := Lib.hid (T13.out.below hb20 T13.out.lt)
      have F23 := Lib.hid (F14.out.below hb20 (Nat.le_refl _))
      have F24 := Lib.hid (F15.out.below hb20 (Nat.le_refl _))
      have B25 := Lib.hid (B16.out.trans (hb20.mono B16.out.size))
      clear hb20
      have M26 := Lib.hid (load_rec T22.out)
      unfold rv at M26
      have C27 := Lib.hid (fewR_any b B cb w19 OKb.out F24.out)
      unfold Rc.v at C27
      unfold rv at C27
      rw [PB.out] at C27
      go_wp2_with (first | ((with_reducible refine wpList_load_by (o := ⟨some 13, .load 43 (.tmp 3), _, _, _, _⟩) ?e1 43 (.tmp 3) ?e2 ⟨(w.heap.size + 1), 0, none⟩ ?e3 _ M26.out ?_); (case e1 => rfl); (case e2 => rfl); (case e3 => rfl)))
      refine C27.out.mono ?_
      rintro e w28 ⟨rfl, hb29⟩
      have T30 := Lib.hid (T21.out.below hb29 T21.out.lt)
      have T31 := Lib.hid (T22.out.below hb29 T22.out.lt)
      have F32 := Lib.hid (F23.out.below hb29 (Nat.le_refl _))
      have F33 := Lib.hid (F24.out.below hb29 (Nat.le_refl _))
      have B34 := Lib.hid (B25.out.trans (hb29.mono B25.out.size))
      clear hb29
      go_wp2
      go_ret
      exact ⟨rfl, B34.out⟩
    · have PA := Lib.hid pa
      have PB := Lib.hid pb
      have hj := Rc.join_isSome a b
      have hn := @Rc.join_none a b
      have hn' := @Rc.join_none b a
      rw [z_swap b.z a.z] at hn'
      have OK0 := Lib.hid rc0_ok
      clear pa pb
      cases ma : a.may
      · rw [ma] at hn hn' hj
        have MA := Lib.hid ma
        have jv := hn (by simp)
        have LAB := Lib.hid (Rc.leq_none jv)
        have LBA := Lib.hid (Rc.leq_none (hn' (by simp)))
        have JV := Lib.hid jv
        clear ma hn hn' hj jv
        have B1 := Lib.hid (Below.refl w.heap.size w)
        have T2n := RcAt.new w OKa.out.len a.n a.r (.slice A a.fs.length ca)
        have T2 := Lib.hid (T2n)
        clear T2n
        have B3 := Lib.hid (B1.out.alloc B1.out.size (.cells (rcells a.z a.n a.r (.slice A a.fs.length ca)) 43))
        have T4 := Lib.hid (T2.out.old (.cells (rcells b.z b.n b.r (.slice B b.fs.length cb)) 43))
        have T5n := RcAt.new (w.alloc (.cells (rcells a.z a.n a.r (.slice A a.fs.length ca)) 43)) OKb.out.len b.n b.r (.slice B b.fs.length cb)
        simp only [World.size_alloc] at T5n
        have T5 := Lib.hid (T5n)
        clear T5n
        have B6 := Lib.hid (B3.out.alloc B3.out.size (.cells (rcells b.z b.n b.r (.slice B b.fs.length cb)) 43))
        have F7 := Lib.hid (Fa.out.below B6.out (Nat.le_refl _))
        have F8 := Lib.hid (Fb.out.below B6.out (Nat.le_refl _))
        go_enter Tryd.func12, Tryd.ntmps12
        have C9 := Lib.hid (rcAwake ((w.alloc (.cells (rcells a.z a.n a.r (.slice A a.fs.length ca)) 43)).alloc (.cells (rcells b.z b.n b.r (.slice B b.fs.length cb)) 43)) (HLA.out _ B6.out))
        go_wp2_with fail
        refine C9.out.mono ?_
        rintro e w10 ⟨rfl, hb11⟩
        have T12 := Lib.hid (T4.out.below hb11 T4.out.lt)
        have T13 := Lib.hid (T5.out.below hb11 T5.out.lt)
        have F14 := Lib.hid (F7.out.below hb11 (Nat.le_refl _))
        have F15 := Lib.hid (F8.out.below hb11 (Nat.le_refl _))
        have B16 := Lib.hid (B6.out.trans (hb11.mono B6.out.size))
        clear hb11
        have M17 := Lib.hid (load_rec T12.out)
        unfold rv at M17
        have C18 := Lib.hid (fewR_any a A ca w10 OKa.out F14.out)
        unfold Rc.v at C18
        unfold rv at C18
        rw [PA.out] at C18
        go_wp2_with (first | ((with_reducible refine wpList_load_by (o := ⟨some 11, .load 43 (.tmp 2), _, _, _, _⟩) ?e1 43 (.tmp 2) ?e2 ⟨w.heap.size, 0, none⟩ ?e3 _ M17.out ?_); (case e1 => rfl); (case e2 => rfl); (case e3 => rfl)))
        refine C18.out.mono ?_
        rintro e w19 ⟨rfl, hb20⟩
        have T21 := Lib.hid (T12.out.below hb20 T12.out.lt)
        have T22 := Lib.hid (T13.out.below hb20 T13.out.lt)
        have F23 := Lib.hid (F14.out.below hb20 (Nat.le_refl _))
        have F24 := Lib.hid (F15.out.below hb20 (Nat.le_refl _))
        have B25 := Lib.hid (B16.out.trans (hb20.mono B16.out.size))
        clear hb20
        have M26 := Lib.hid (load_rec T22.out)
        unfold rv at M26
        have C27 := Lib.hid (fewR_any b B cb w19 OKb.out F24.out)
        unfold Rc.v at C27
        unfold rv at C27
        rw [PB.out] at C27
        go_wp2_with (first | ((with_reducible refine wpList_load_by (o := ⟨some 13, .load 43 (.tmp 3), _, _, _, _⟩) ?e1 43 (.tmp 3) ?e2 ⟨(w.heap.size + 1), 0, none⟩ ?e3 _ M26.out ?_); (case e1 => rfl); (case e2 => rfl); (case e3 => rfl)))
        refine C27.out.mono ?_
        rintro e w28 ⟨rfl, hb29⟩
        have T30 := Lib.hid (T21.out.below hb29 T21.out.lt)
        have T31 := Lib.hid (T22.out.below hb29 T22.out.lt)
        have F32 := Lib.hid (F23.out.below hb29 (Nat.le_refl _))
        have F33 := Lib.hid (F24.out.below hb29 (Nat.le_refl _))
        have B34 := Lib.hid (B25.out.trans (hb29.mono B25.out.size))
        clear hb29
        have HE := HEQ.out
        have M38 := Lib.hid (load_rec T30.out)
        unfold rv at M38
        have M39 := Lib.hid (load_rec T31.out)
        unfold rv at M39
        have C40 := Lib.hid (join_any a b A B ca cb w28 (HLA.out _ B34.out) OKa.out OKb.out F32.out F33.out)
        unfold JoinPost Rc.v at C40
        unfold rv at C40
        rw [JV.out] at C40
        dsimp only [Option.getD, Option.isSome] at C40
        go_wp2_with (first | ((with_reducible refine wpList_load_by (o := ⟨some 27, .load 43 (.tmp 2), _, _, _, _⟩) ?e1 43 (.tmp 2) ?e2 ⟨w.heap.size, 0, none⟩ ?e3 _ M38.out ?_); (case e1 => rfl); (case e2 => rfl); (case e3 => rfl)) | ((with_reducible refine wpList_load_by (o := ⟨some 28, .load 43 (.tmp 3), _, _, _, _⟩) ?e1 43 (.tmp 3) ?e2 ⟨(w.heap.size + 1), 0, none⟩ ?e3 _ M39.out ?_); (case e1 => rfl); (case e2 => rfl); (case e3 => rfl)))
        refine C40.out.mono ?_
        rintro e w41 ⟨A35, c36, rfl, hf37, hb42⟩
        have T43 := Lib.hid (T30.out.below hb42 T30.out.lt)
        have T44 := Lib.hid (T31.out.below hb42 T31.out.lt)
        have F45 := Lib.hid (F32.out.below hb42 (Nat.le_refl _))
        have F46 := Lib.hid (F33.out.below hb42 (Nat.le_refl _))
        have B47 := Lib.hid (B34.out.trans (hb42.mono B34.out.size))
        clear hb42
        have F48 := Lib.hid (hf37)
        clear hf37
        go_wp2_with (first | ((with_reducible refine wpList_store_new (o := ⟨none, .store 43 (.tmp 8) (.tmp 30), _, _, _, _⟩) (w := w41) ?e1 (.tmp 8) (.tmp 30) ?e2 w41.heap.size rfl ?e3 rc0.z rc0.n rc0.r (.slice A35 rc0.fs.length c36) ?e4 OK0.out.len ?e5 ?_); (case e1 => rfl); (case e2 => rfl); (case e3 => rfl); (case e4 => rfl); (case e5 => rfl); intro w49 hb50 hRs; have T51 := Lib.hid hRs; clear hRs; have T52 := Lib.hid (T43.out.below hb50 T43.out.lt); have T53 := Lib.hid (T44.out.below hb50 T44.out.lt); have F54 := Lib.hid (F45.out.below hb50 (Nat.le_refl _)); have F55 := Lib.hid (F46.out.below hb50 (Nat.le_refl _)); have F56 := Lib.hid (F48.out.below hb50 (Nat.le_refl _)); have B57 := Lib.hid (B47.out.trans (hb50.mono B47.out.size)); clear hb50; have M58 := Lib.hid (load_rec T52.out); unfold rv at M58; have C59 := Lib.hid (may_any' a A ca w49 OKa.out F54.out); unfold Rc.v at C59; unfold rv at C59; rw [MA.out] at C59) | ((with_reducible refine wpList_load_by (o := ⟨some 33, .load 43 (.tmp 2), _, _, _, _⟩) ?e1 43 (.tmp 2) ?e2 ⟨w.heap.size, 0, none⟩ ?e3 _ M58.out ?_); (case e1 => rfl); (case e2 => rfl); (case e3 => rfl)))
        refine C59.out.mono ?_
        rintro e w60 ⟨rfl, hb61⟩
        have T62 := Lib.hid (T52.out.below hb61 T52.out.lt)
        have T63 := Lib.hid (T53.out.below hb61 T53.out.lt)
        have T64 := Lib.hid (T51.out.below hb61 T51.out.lt)
        have F65 := Lib.hid (F54.out.below hb61 (Nat.le_refl _))
        have F66 := Lib.hid (F55.out.below hb61 (Nat.le_refl _))
        have F67 := Lib.hid (F56.out.below hb61 (Nat.le_refl _))
        have B68 := Lib.hid (B57.out.trans (hb61.mono B57.out.size))
        clear hb61
        have k18 := T64.out.c18
        have hl0 : rc0.fs.length = 0 := rfl
        have M69 := Lib.hid (load_rec T62.out)
        unfold rv at M69
        have M70 := Lib.hid (load_rec T63.out)
        unfold rv at M70
        have C71 := Lib.hid (leq_any a b A B ca cb w60 (HLA.out _ B68.out) OKa.out OKb.out F65.out F66.out)
        unfold Rc.v at C71
        unfold rv at C71
        rw [LAB.out] at C71
        go_wp2_with (first | ((with_reducible refine wpList_load_by (o := ⟨some 54, .load 43 (.tmp 2), _, _, _, _⟩) ?e1 43 (.tmp 2) ?e2 ⟨w.heap.size, 0, none⟩ ?e3 _ M69.out ?_); (case e1 => rfl); (case e2 => rfl); (case e3 => rfl)) | ((with_reducible refine wpList_load_by (o := ⟨some 55, .load 43 (.tmp 3), _, _, _, _⟩) ?e1 43 (.tmp 3) ?e2 ⟨(w.heap.size + 1), 0, none⟩ ?e3 _ M70.out ?_); (case e1 => rfl); (case e2 => rfl); (case e3 => rfl)))
        refine C71.out.mono ?_
        rintro e w72 ⟨rfl, hb73⟩
        have T74 := Lib.hid (T62.out.below hb73 T62.out.lt)
        have T75 := Lib.hid (T63.out.below hb73 T63.out.lt)
        have T76 := Lib.hid (T64.out.below hb73 T64.out.lt)
        have F77 := Lib.hid (F65.out.below hb73 (Nat.le_refl _))
        have F78 := Lib.hid (F66.out.below hb73 (Nat.le_refl _))
        have F79 := Lib.hid (F67.out.below hb73 (Nat.le_refl _))
        have B80 := Lib.hid (B68.out.trans (hb73.mono B68.out.size))
        clear hb73
        have M81 := Lib.hid (load_rec T75.out)
        unfold rv at M81
        have M82 := Lib.hid (load_rec T74.out)
        unfold rv at M82
        have C83 := Lib.hid (leq_any b a B A cb ca w72 (HLA.out _ B80.out) OKb.out OKa.out F78.out F77.out)
        unfold Rc.v at C83
        unfold rv at C83
        rw [LBA.out] at C83
        go_wp2_with (first | ((with_reducible refine wpList_load_by (o := ⟨some 60, .load 43 (.tmp 3), _, _, _, _⟩) ?e1 43 (.tmp 3) ?e2 ⟨(w.heap.size + 1), 0, none⟩ ?e3 _ M81.out ?_); (case e1 => rfl); (case e2 => rfl); (case e3 => rfl)) | ((with_reducible refine wpList_load_by (o := ⟨some 61, .load 43 (.tmp 2), _, _, _, _⟩) ?e1 43 (.tmp 2) ?e2 ⟨w.heap.size, 0, none⟩ ?e3 _ M82.out ?_); (case e1 => rfl); (case e2 => rfl); (case e3 => rfl)))
        refine C83.out.mono ?_
        rintro e w84 ⟨rfl, hb85⟩
        have T86 := Lib.hid (T74.out.below hb85 T74.out.lt)
        have T87 := Lib.hid (T75.out.below hb85 T75.out.lt)
        have T88 := Lib.hid (T76.out.below hb85 T76.out.lt)
        have F89 := Lib.hid (F77.out.below hb85 (Nat.le_refl _))
        have F90 := Lib.hid (F78.out.below hb85 (Nat.le_refl _))
        have F91 := Lib.hid (F79.out.below hb85 (Nat.le_refl _))
        have B92 := Lib.hid (B80.out.trans (hb85.mono B80.out.size))
        clear hb85
        go_wp2
        go_ret
        exact ⟨rfl, B92.out⟩
      · cases mb : b.may
        · rw [mb] at hn hn' hj
          have MA := Lib.hid ma
          have MB := Lib.hid mb
          have jv := hn (by simp)
          have LAB := Lib.hid (Rc.leq_none jv)
          have LBA := Lib.hid (Rc.leq_none (hn' (by simp)))
          have JV := Lib.hid jv
          clear ma mb hn hn' hj jv
          have B1 := Lib.hid (Below.refl w.heap.size w)
          have T2n := RcAt.new w OKa.out.len a.n a.r (.slice A a.fs.length ca)
          have T2 := Lib.hid (T2n)
          clear T2n
          have B3 := Lib.hid (B1.out.alloc B1.out.size (.cells (rcells a.z a.n a.r (.slice A a.fs.length ca)) 43))
          have T4 := Lib.hid (T2.out.old (.cells (rcells b.z b.n b.r (.slice B b.fs.length cb)) 43))
          have T5n := RcAt.new (w.alloc (.cells (rcells a.z a.n a.r (.slice A a.fs.length ca)) 43)) OKb.out.len b.n b.r (.slice B b.fs.length cb)
          simp only [World.size_alloc] at T5n
          have T5 := Lib.hid (T5n)
          clear T5n
          have B6 := Lib.hid (B3.out.alloc B3.out.size (.cells (rcells b.z b.n b.r (.slice B b.fs.length cb)) 43))
          have F7 := Lib.hid (Fa.out.below B6.out (Nat.le_refl _))
          have F8 := Lib.hid (Fb.out.below B6.out (Nat.le_refl _))
          go_enter Tryd.func12, Tryd.ntmps12
          have C9 := Lib.hid (rcAwake ((w.alloc (.cells (rcells a.z a.n a.r (.slice A a.fs.length ca)) 43)).alloc (.cells (rcells b.z b.n b.r (.slice B b.fs.length cb)) 43)) (HLA.out _ B6.out))
          go_wp2_with fail
          refine C9.out.mono ?_
          rintro e w10 ⟨rfl, hb11⟩
          have T12 := Lib.hid (T4.out.below hb11 T4.out.lt)
          have T13 := Lib.hid (T5.out.below hb11 T5.out.lt)
          have F14 := Lib.hid (F7.out.below hb11 (Nat.le_refl _))
          have F15 := Lib.hid (F8.out.below hb11 (Nat.le_refl _))
          have B16 := Lib.hid (B6.out.trans (hb11.mono B6.out.size))
          clear hb11
          have M17 := Lib.hid (load_rec T12.out)
          unfold rv at M17
          have C18 := Lib.hid (fewR_any a A ca w10 OKa.out F14.out)
          unfold Rc.v at C18
          unfold rv at C18
          rw [PA.out] at C18
          go_wp2_with (first | ((with_reducible refine wpList_load_by (o := ⟨some 11, .load 43 (.tmp 2), _, _, _, _⟩) ?e1 43 (.tmp 2) ?e2 ⟨w.heap.size, 0, none⟩ ?e3 _ M17.out ?_); (case e1 => rfl); (case e2 => rfl); (case e3 => rfl)))
          refine C18.out.mono ?_
          rintro e w19 ⟨rfl, hb20⟩
          have T21 := Lib.hid (T12.out.below hb20 T12.out.lt)
          have T22 := Lib.hid (T13.out.below hb20 T13.out.lt)
          have F23 := Lib.hid (F14.out.below hb20 (Nat.le_refl _))
          have F24 := Lib.hid (F15.out.below hb20 (Nat.le_refl _))
          have B25 := Lib.hid (B16.out.trans (hb20.mono B16.out.size))
          clear hb20
          have M26 := Lib.hid (load_rec T22.out)
          unfold rv at M26
          have C27 := Lib.hid (fewR_any b B cb w19 OKb.out F24.out)
          unfold Rc.v at C27
          unfold rv at C27
          rw [PB.out] at C27
          go_wp2_with (first | ((with_reducible refine wpList_load_by (o := ⟨some 13, .load 43 (.tmp 3), _, _, _, _⟩) ?e1 43 (.tmp 3) ?e2 ⟨(w.heap.size + 1), 0, none⟩ ?e3 _ M26.out ?_); (case e1 => rfl); (case e2 => rfl); (case e3 => rfl)))
          refine C27.out.mono ?_
          rintro e w28 ⟨rfl, hb29⟩
          have T30 := Lib.hid (T21.out.below hb29 T21.out.lt)
          have T31 := Lib.hid (T22.out.below hb29 T22.out.lt)
          have F32 := Lib.hid (F23.out.below hb29 (Nat.le_refl _))
          have F33 := Lib.hid (F24.out.below hb29 (Nat.le_refl _))
          have B34 := Lib.hid (B25.out.trans (hb29.mono B25.out.size))
          clear hb29
          have HE := HEQ.out
          have M38 := Lib.hid (load_rec T30.out)
          unfold rv at M38
          have M39 := Lib.hid (load_rec T31.out)
          unfold rv at M39
          have C40 := Lib.hid (join_any a b A B ca cb w28 (HLA.out _ B34.out) OKa.out OKb.out F32.out F33.out)
          unfold JoinPost Rc.v at C40
          unfold rv at C40
          rw [JV.out] at C40
          dsimp only [Option.getD, Option.isSome] at C40
          go_wp2_with (first | ((with_reducible refine wpList_load_by (o := ⟨some 27, .load 43 (.tmp 2), _, _, _, _⟩) ?e1 43 (.tmp 2) ?e2 ⟨w.heap.size, 0, none⟩ ?e3 _ M38.out ?_); (case e1 => rfl); (case e2 => rfl); (case e3 => rfl)) | ((with_reducible refine wpList_load_by (o := ⟨some 28, .load 43 (.tmp 3), _, _, _, _⟩) ?e1 43 (.tmp 3) ?e2 ⟨(w.heap.size + 1), 0, none⟩ ?e3 _ M39.out ?_); (case e1 => rfl); (case e2 => rfl); (case e3 => rfl)))
          refine C40.out.mono ?_
          rintro e w41 ⟨A35, c36, rfl, hf37, hb42⟩
          have T43 := Lib.hid (T30.out.below hb42 T30.out.lt)
          have T44 := Lib.hid (T31.out.below hb42 T31.out.lt)
          have F45 := Lib.hid (F32.out.below hb42 (Nat.le_refl _))
          have F46 := Lib.hid (F33.out.below hb42 (Nat.le_refl _))
          have B47 := Lib.hid (B34.out.trans (hb42.mono B34.out.size))
          clear hb42
          have F48 := Lib.hid (hf37)
          clear hf37
          go_wp2_with (first | ((with_reducible refine wpList_store_new (o := ⟨none, .store 43 (.tmp 8) (.tmp 30), _, _, _, _⟩) (w := w41) ?e1 (.tmp 8) (.tmp 30) ?e2 w41.heap.size rfl ?e3 rc0.z rc0.n rc0.r (.slice A35 rc0.fs.length c36) ?e4 OK0.out.len ?e5 ?_); (case e1 => rfl); (case e2 => rfl); (case e3 => rfl); (case e4 => rfl); (case e5 => rfl); intro w49 hb50 hRs; have T51 := Lib.hid hRs; clear hRs; have T52 := Lib.hid (T43.out.below hb50 T43.out.lt); have T53 := Lib.hid (T44.out.below hb50 T44.out.lt); have F54 := Lib.hid (F45.out.below hb50 (Nat.le_refl _)); have F55 := Lib.hid (F46.out.below hb50 (Nat.le_refl _)); have F56 := Lib.hid (F48.out.below hb50 (Nat.le_refl _)); have B57 := Lib.hid (B47.out.trans (hb50.mono B47.out.size)); clear hb50; have M58 := Lib.hid (load_rec T52.out); unfold rv at M58; have C59 := Lib.hid (may_any' a A ca w49 OKa.out F54.out); unfold Rc.v at C59; unfold rv at C59; rw [MA.out] at C59) | ((with_reducible refine wpList_load_by (o := ⟨some 33, .load 43 (.tmp 2), _, _, _, _⟩) ?e1 43 (.tmp 2) ?e2 ⟨w.heap.size, 0, none⟩ ?e3 _ M58.out ?_); (case e1 => rfl); (case e2 => rfl); (case e3 => rfl)))
          refine C59.out.mono ?_
          rintro e w60 ⟨rfl, hb61⟩
          have T62 := Lib.hid (T52.out.below hb61 T52.out.lt)
          have T63 := Lib.hid (T53.out.below hb61 T53.out.lt)
          have T64 := Lib.hid (T51.out.below hb61 T51.out.lt)
          have F65 := Lib.hid (F54.out.below hb61 (Nat.le_refl _))
          have F66 := Lib.hid (F55.out.below hb61 (Nat.le_refl _))
          have F67 := Lib.hid (F56.out.below hb61 (Nat.le_refl _))
          have B68 := Lib.hid (B57.out.trans (hb61.mono B57.out.size))
          clear hb61
          have M69 := Lib.hid (load_rec T63.out)
          unfold rv at M69
          have C70 := Lib.hid (may_any' b B cb w60 OKb.out F66.out)
          unfold Rc.v at C70
          unfold rv at C70
          rw [MB.out] at C70
          go_wp2_with (first | ((with_reducible refine wpList_load_by (o := ⟨some 36, .load 43 (.tmp 3), _, _, _, _⟩) ?e1 43 (.tmp 3) ?e2 ⟨(w.heap.size + 1), 0, none⟩ ?e3 _ M69.out ?_); (case e1 => rfl); (case e2 => rfl); (case e3 => rfl)))
          refine C70.out.mono ?_
          rintro e w71 ⟨rfl, hb72⟩
          have T73 := Lib.hid (T62.out.below hb72 T62.out.lt)
          have T74 := Lib.hid (T63.out.below hb72 T63.out.lt)
          have T75 := Lib.hid (T64.out.below hb72 T64.out.lt)
          have F76 := Lib.hid (F65.out.below hb72 (Nat.le_refl _))
          have F77 := Lib.hid (F66.out.below hb72 (Nat.le_refl _))
          have F78 := Lib.hid (F67.out.below hb72 (Nat.le_refl _))
          have B79 := Lib.hid (B68.out.trans (hb72.mono B68.out.size))
          clear hb72
          have k18 := T75.out.c18
          have hl0 : rc0.fs.length = 0 := rfl
          have M80 := Lib.hid (load_rec T73.out)
          unfold rv at M80
          have M81 := Lib.hid (load_rec T74.out)
          unfold rv at M81
          have C82 := Lib.hid (leq_any a b A B ca cb w71 (HLA.out _ B79.out) OKa.out OKb.out F76.out F77.out)
          unfold Rc.v at C82
          unfold rv at C82
          rw [LAB.out] at C82
          go_wp2_with (first | ((with_reducible refine wpList_load_by (o := ⟨some 54, .load 43 (.tmp 2), _, _, _, _⟩) ?e1 43 (.tmp 2) ?e2 ⟨w.heap.size, 0, none⟩ ?e3 _ M80.out ?_); (case e1 => rfl); (case e2 => rfl); (case e3 => rfl)) | ((with_reducible refine wpList_load_by (o := ⟨some 55, .load 43 (.tmp 3), _, _, _, _⟩) ?e1 43 (.tmp 3) ?e2 ⟨(w.heap.size + 1), 0, none⟩ ?e3 _ M81.out ?_); (case e1 => rfl); (case e2 => rfl); (case e3 => rfl)))
          refine C82.out.mono ?_
          rintro e w83 ⟨rfl, hb84⟩
          have T85 := Lib.hid (T73.out.below hb84 T73.out.lt)
          have T86 := Lib.hid (T74.out.below hb84 T74.out.lt)
          have T87 := Lib.hid (T75.out.below hb84 T75.out.lt)
          have F88 := Lib.hid (F76.out.below hb84 (Nat.le_refl _))
          have F89 := Lib.hid (F77.out.below hb84 (Nat.le_refl _))
          have F90 := Lib.hid (F78.out.below hb84 (Nat.le_refl _))
          have B91 := Lib.hid (B79.out.trans (hb84.mono B79.out.size))
          clear hb84
          have M92 := Lib.hid (load_rec T86.out)
          unfold rv at M92
          have M93 := Lib.hid (load_rec T85.out)
          unfold rv at M93
          have C94 := Lib.hid (leq_any b a B A cb ca w83 (HLA.out _ B91.out) OKb.out OKa.out F89.out F88.out)
          unfold Rc.v at C94
          unfold rv at C94
          rw [LBA.out] at C94
          go_wp2_with (first | ((with_reducible refine wpList_load_by (o := ⟨some 60, .load 43 (.tmp 3), _, _, _, _⟩) ?e1 43 (.tmp 3) ?e2 ⟨(w.heap.size + 1), 0, none⟩ ?e3 _ M92.out ?_); (case e1 => rfl); (case e2 => rfl); (case e3 => rfl)) | ((with_reducible refine wpList_load_by (o := ⟨some 61, .load 43 (.tmp 2), _, _, _, _⟩) ?e1 43 (.tmp 2) ?e2 ⟨w.heap.size, 0, none⟩ ?e3 _ M93.out ?_); (case e1 => rfl); (case e2 => rfl); (case e3 => rfl)))
          refine C94.out.mono ?_
          rintro e w95 ⟨rfl, hb96⟩
          have T97 := Lib.hid (T85.out.below hb96 T85.out.lt)
          have T98 := Lib.hid (T86.out.below hb96 T86.out.lt)
          have T99 := Lib.hid (T87.out.below hb96 T87.out.lt)
          have F100 := Lib.hid (F88.out.below hb96 (Nat.le_refl _))
          have F101 := Lib.hid (F89.out.below hb96 (Nat.le_refl _))
          have F102 := Lib.hid (F90.out.below hb96 (Nat.le_refl _))
          have B103 := Lib.hid (B91.out.trans (hb96.mono B91.out.size))
          clear hb96
          go_wp2
          go_ret
          exact ⟨rfl, B103.out⟩
        · cases he : (a.z == b.z)
          · rw [he] at hn hn' hj HEQ
            have MA := Lib.hid ma
            have MB := Lib.hid mb
            have jv := hn (by simp)
            have LAB := Lib.hid (Rc.leq_none jv)
            have LBA := Lib.hid (Rc.leq_none (hn' (by simp)))
            have JV := Lib.hid jv
            clear ma mb hn hn' hj jv he
            have B1 := Lib.hid (Below.refl w.heap.size w)
            have T2n := RcAt.new w OKa.out.len a.n a.r (.slice A a.fs.length ca)
            have T2 := Lib.hid (T2n)
            clear T2n
            have B3 := Lib.hid (B1.out.alloc B1.out.size (.cells (rcells a.z a.n a.r (.slice A a.fs.length ca)) 43))
            have T4 := Lib.hid (T2.out.old (.cells (rcells b.z b.n b.r (.slice B b.fs.length cb)) 43))
            have T5n := RcAt.new (w.alloc (.cells (rcells a.z a.n a.r (.slice A a.fs.length ca)) 43)) OKb.out.len b.n b.r (.slice B b.fs.length cb)
            simp only [World.size_alloc] at T5n
            have T5 := Lib.hid (T5n)
            clear T5n
            have B6 := Lib.hid (B3.out.alloc B3.out.size (.cells (rcells b.z b.n b.r (.slice B b.fs.length cb)) 43))
            have F7 := Lib.hid (Fa.out.below B6.out (Nat.le_refl _))
            have F8 := Lib.hid (Fb.out.below B6.out (Nat.le_refl _))
            go_enter Tryd.func12, Tryd.ntmps12
            have C9 := Lib.hid (rcAwake ((w.alloc (.cells (rcells a.z a.n a.r (.slice A a.fs.length ca)) 43)).alloc (.cells (rcells b.z b.n b.r (.slice B b.fs.length cb)) 43)) (HLA.out _ B6.out))
            go_wp2_with fail
            refine C9.out.mono ?_
            rintro e w10 ⟨rfl, hb11⟩
            have T12 := Lib.hid (T4.out.below hb11 T4.out.lt)
            have T13 := Lib.hid (T5.out.below hb11 T5.out.lt)
            have F14 := Lib.hid (F7.out.below hb11 (Nat.le_refl _))
            have F15 := Lib.hid (F8.out.below hb11 (Nat.le_refl _))
            have B16 := Lib.hid (B6.out.trans (hb11.mono B6.out.size))
            clear hb11
            have M17 := Lib.hid (load_rec T12.out)
            unfold rv at M17
            have C18 := Lib.hid (fewR_any a A ca w10 OKa.out F14.out)
            unfold Rc.v at C18
            unfold rv at C18
            rw [PA.out] at C18
            go_wp2_with (first | ((with_reducible refine wpList_load_by (o := ⟨some 11, .load 43 (.tmp 2), _, _, _, _⟩) ?e1 43 (.tmp 2) ?e2 ⟨w.heap.size, 0, none⟩ ?e3 _ M17.out ?_); (case e1 => rfl); (case e2 => rfl); (case e3 => rfl)))
            refine C18.out.mono ?_
            rintro e w19 ⟨rfl, hb20⟩
            have T21 := Lib.hid (T12.out.below hb20 T12.out.lt)
            have T22 := Lib.hid (T13.out.below hb20 T13.out.lt)
            have F23 := Lib.hid (F14.out.below hb20 (Nat.le_refl _))
            have F24 := Lib.hid (F15.out.below hb20 (Nat.le_refl _))
            have B25 := Lib.hid (B16.out.trans (hb20.mono B16.out.size))
            clear hb20
            have M26 := Lib.hid (load_rec T22.out)
            unfold rv at M26
            have C27 := Lib.hid (fewR_any b B cb w19 OKb.out F24.out)
            unfold Rc.v at C27
            unfold rv at C27
            rw [PB.out] at C27
            go_wp2_with (first | ((with_reducible refine wpList_load_by (o := ⟨some 13, .load 43 (.tmp 3), _, _, _, _⟩) ?e1 43 (.tmp 3) ?e2 ⟨(w.heap.size + 1), 0, none⟩ ?e3 _ M26.out ?_); (case e1 => rfl); (case e2 => rfl); (case e3 => rfl)))
            refine C27.out.mono ?_
            rintro e w28 ⟨rfl, hb29⟩
            have T30 := Lib.hid (T21.out.below hb29 T21.out.lt)
            have T31 := Lib.hid (T22.out.below hb29 T22.out.lt)
            have F32 := Lib.hid (F23.out.below hb29 (Nat.le_refl _))
            have F33 := Lib.hid (F24.out.below hb29 (Nat.le_refl _))
            have B34 := Lib.hid (B25.out.trans (hb29.mono B25.out.size))
            clear hb29
            have HE := HEQ.out
            have M38 := Lib.hid (load_rec T30.out)
            unfold rv at M38
            have M39 := Lib.hid (load_rec T31.out)
            unfold rv at M39
            have C40 := Lib.hid (join_any a b A B ca cb w28 (HLA.out _ B34.out) OKa.out OKb.out F32.out F33.out)
            unfold JoinPost Rc.v at C40
            unfold rv at C40
            rw [JV.out] at C40
            dsimp only [Option.getD, Option.isSome] at C40
            go_wp2_with (first | ((with_reducible refine wpList_load_by (o := ⟨some 27, .load 43 (.tmp 2), _, _, _, _⟩) ?e1 43 (.tmp 2) ?e2 ⟨w.heap.size, 0, none⟩ ?e3 _ M38.out ?_); (case e1 => rfl); (case e2 => rfl); (case e3 => rfl)) | ((with_reducible refine wpList_load_by (o := ⟨some 28, .load 43 (.tmp 3), _, _, _, _⟩) ?e1 43 (.tmp 3) ?e2 ⟨(w.heap.size + 1), 0, none⟩ ?e3 _ M39.out ?_); (case e1 => rfl); (case e2 => rfl); (case e3 => rfl)))
            refine C40.out.mono ?_
            rintro e w41 ⟨A35, c36, rfl, hf37, hb42⟩
            have T43 := Lib.hid (T30.out.below hb42 T30.out.lt)
            have T44 := Lib.hid (T31.out.below hb42 T31.out.lt)
            have F45 := Lib.hid (F32.out.below hb42 (Nat.le_refl _))
            have F46 := Lib.hid (F33.out.below hb42 (Nat.le_refl _))
            have B47 := Lib.hid (B34.out.trans (hb42.mono B34.out.size))
            clear hb42
            have F48 := Lib.hid (hf37)
            clear hf37
            go_wp2_with (first | ((with_reducible refine wpList_store_new (o := ⟨none, .store 43 (.tmp 8) (.tmp 30), _, _, _, _⟩) (w := w41) ?e1 (.tmp 8) (.tmp 30) ?e2 w41.heap.size rfl ?e3 rc0.z rc0.n rc0.r (.slice A35 rc0.fs.length c36) ?e4 OK0.out.len ?e5 ?_); (case e1 => rfl); (case e2 => rfl); (case e3 => rfl); (case e4 => rfl); (case e5 => rfl); intro w49 hb50 hRs; have T51 := Lib.hid hRs; clear hRs; have T52 := Lib.hid (T43.out.below hb50 T43.out.lt); have T53 := Lib.hid (T44.out.below hb50 T44.out.lt); have F54 := Lib.hid (F45.out.below hb50 (Nat.le_refl _)); have F55 := Lib.hid (F46.out.below hb50 (Nat.le_refl _)); have F56 := Lib.hid (F48.out.below hb50 (Nat.le_refl _)); have B57 := Lib.hid (B47.out.trans (hb50.mono B47.out.size)); clear hb50; have M58 := Lib.hid (load_rec T52.out); unfold rv at M58; have C59 := Lib.hid (may_any' a A ca w49 OKa.out F54.out); unfold Rc.v at C59; unfold rv at C59; rw [MA.out] at C59) | ((with_reducible refine wpList_load_by (o := ⟨some 33, .load 43 (.tmp 2), _, _, _, _⟩) ?e1 43 (.tmp 2) ?e2 ⟨w.heap.size, 0, none⟩ ?e3 _ M58.out ?_); (case e1 => rfl); (case e2 => rfl); (case e3 => rfl)))
            refine C59.out.mono ?_
            rintro e w60 ⟨rfl, hb61⟩
            have T62 := Lib.hid (T52.out.below hb61 T52.out.lt)
            have T63 := Lib.hid (T53.out.below hb61 T53.out.lt)
            have T64 := Lib.hid (T51.out.below hb61 T51.out.lt)
            have F65 := Lib.hid (F54.out.below hb61 (Nat.le_refl _))
            have F66 := Lib.hid (F55.out.below hb61 (Nat.le_refl _))
            have F67 := Lib.hid (F56.out.below hb61 (Nat.le_refl _))
            have B68 := Lib.hid (B57.out.trans (hb61.mono B57.out.size))
            clear hb61
            have M69 := Lib.hid (load_rec T63.out)
            unfold rv at M69
            have C70 := Lib.hid (may_any' b B cb w60 OKb.out F66.out)
            unfold Rc.v at C70
            unfold rv at C70
            rw [MB.out] at C70
            go_wp2_with (first | ((with_reducible refine wpList_load_by (o := ⟨some 36, .load 43 (.tmp 3), _, _, _, _⟩) ?e1 43 (.tmp 3) ?e2 ⟨(w.heap.size + 1), 0, none⟩ ?e3 _ M69.out ?_); (case e1 => rfl); (case e2 => rfl); (case e3 => rfl)))
            refine C70.out.mono ?_
            rintro e w71 ⟨rfl, hb72⟩
            have T73 := Lib.hid (T62.out.below hb72 T62.out.lt)
            have T74 := Lib.hid (T63.out.below hb72 T63.out.lt)
            have T75 := Lib.hid (T64.out.below hb72 T64.out.lt)
            have F76 := Lib.hid (F65.out.below hb72 (Nat.le_refl _))
            have F77 := Lib.hid (F66.out.below hb72 (Nat.le_refl _))
            have F78 := Lib.hid (F67.out.below hb72 (Nat.le_refl _))
            have B79 := Lib.hid (B68.out.trans (hb72.mono B68.out.size))
            clear hb72
            have M80 := Lib.hid (load_id T73.out)
            have M81 := Lib.hid (load_id T74.out)
            have k18 := T75.out.c18
            have hl0 : rc0.fs.length = 0 := rfl
            have M82 := Lib.hid (load_rec T73.out)
            unfold rv at M82
            have M83 := Lib.hid (load_rec T74.out)
            unfold rv at M83
            have C84 := Lib.hid (leq_any a b A B ca cb w71 (HLA.out _ B79.out) OKa.out OKb.out F76.out F77.out)
            unfold Rc.v at C84
            unfold rv at C84
            rw [LAB.out] at C84
            go_wp2_with (first | ((with_reducible refine wpList_load_by (o := ⟨some 54, .load 43 (.tmp 2), _, _, _, _⟩) ?e1 43 (.tmp 2) ?e2 ⟨w.heap.size, 0, none⟩ ?e3 _ M82.out ?_); (case e1 => rfl); (case e2 => rfl); (case e3 => rfl)) | ((with_reducible refine wpList_load_by (o := ⟨some 55, .load 43 (.tmp 3), _, _, _, _⟩) ?e1 43 (.tmp 3) ?e2 ⟨(w.heap.size + 1), 0, none⟩ ?e3 _ M83.out ?_); (case e1 => rfl); (case e2 => rfl); (case e3 => rfl)) | ((with_reducible refine wpList_load_by (o := ⟨some 41, .load 40 (.tmp 40), _, _, _, _⟩) ?e1 40 (.tmp 40) ?e2 ⟨w.heap.size, 0, none⟩ ?e3 _ M80.out ?_); (case e1 => rfl); (case e2 => rfl); (case e3 => rfl)) | ((with_reducible refine wpList_load_by (o := ⟨some 43, .load 40 (.tmp 42), _, _, _, _⟩) ?e1 40 (.tmp 42) ?e2 ⟨(w.heap.size + 1), 0, none⟩ ?e3 _ M81.out ?_); (case e1 => rfl); (case e2 => rfl); (case e3 => rfl)))
            refine C84.out.mono ?_
            rintro e w85 ⟨rfl, hb86⟩
            have T87 := Lib.hid (T73.out.below hb86 T73.out.lt)
            have T88 := Lib.hid (T74.out.below hb86 T74.out.lt)
            have T89 := Lib.hid (T75.out.below hb86 T75.out.lt)
            have F90 := Lib.hid (F76.out.below hb86 (Nat.le_refl _))
            have F91 := Lib.hid (F77.out.below hb86 (Nat.le_refl _))
            have F92 := Lib.hid (F78.out.below hb86 (Nat.le_refl _))
            have B93 := Lib.hid (B79.out.trans (hb86.mono B79.out.size))
            clear hb86
            have M94 := Lib.hid (load_rec T88.out)
            unfold rv at M94
            have M95 := Lib.hid (load_rec T87.out)
            unfold rv at M95
            have C96 := Lib.hid (leq_any b a B A cb ca w85 (HLA.out _ B93.out) OKb.out OKa.out F91.out F90.out)
            unfold Rc.v at C96
            unfold rv at C96
            rw [LBA.out] at C96
            go_wp2_with (first | ((with_reducible refine wpList_load_by (o := ⟨some 60, .load 43 (.tmp 3), _, _, _, _⟩) ?e1 43 (.tmp 3) ?e2 ⟨(w.heap.size + 1), 0, none⟩ ?e3 _ M94.out ?_); (case e1 => rfl); (case e2 => rfl); (case e3 => rfl)) | ((with_reducible refine wpList_load_by (o := ⟨some 61, .load 43 (.tmp 2), _, _, _, _⟩) ?e1 43 (.tmp 2) ?e2 ⟨w.heap.size, 0, none⟩ ?e3 _ M95.out ?_); (case e1 => rfl); (case e2 => rfl); (case e3 => rfl)))
            refine C96.out.mono ?_
            rintro e w97 ⟨rfl, hb98⟩
            have T99 := Lib.hid (T87.out.below hb98 T87.out.lt)
            have T100 := Lib.hid (T88.out.below hb98 T88.out.lt)
            have T101 := Lib.hid (T89.out.below hb98 T89.out.lt)
            have F102 := Lib.hid (F90.out.below hb98 (Nat.le_refl _))
            have F103 := Lib.hid (F91.out.below hb98 (Nat.le_refl _))
            have F104 := Lib.hid (F92.out.below hb98 (Nat.le_refl _))
            have B105 := Lib.hid (B93.out.trans (hb98.mono B93.out.size))
            clear hb98
            go_wp2
            go_ret
            exact ⟨rfl, B105.out⟩
          · rw [ma, mb, he] at hj
            rw [he] at HEQ
            have MA := Lib.hid ma
            have MB := Lib.hid mb
            obtain ⟨x, hx⟩ := Option.isSome_iff_exists.1 hj
            have OKx := Lib.hid (Rc.join_ok OKa.out hx)
            have JV := Lib.hid hx
            clear ma mb hn hn' hj hx he
            have B1 := Lib.hid (Below.refl w.heap.size w)
            have T2n := RcAt.new w OKa.out.len a.n a.r (.slice A a.fs.length ca)
            have T2 := Lib.hid (T2n)
            clear T2n
            have B3 := Lib.hid (B1.out.alloc B1.out.size (.cells (rcells a.z a.n a.r (.slice A a.fs.length ca)) 43))
            have T4 := Lib.hid (T2.out.old (.cells (rcells b.z b.n b.r (.slice B b.fs.length cb)) 43))
            have T5n := RcAt.new (w.alloc (.cells (rcells a.z a.n a.r (.slice A a.fs.length ca)) 43)) OKb.out.len b.n b.r (.slice B b.fs.length cb)
            simp only [World.size_alloc] at T5n
            have T5 := Lib.hid (T5n)
            clear T5n
            have B6 := Lib.hid (B3.out.alloc B3.out.size (.cells (rcells b.z b.n b.r (.slice B b.fs.length cb)) 43))
            have F7 := Lib.hid (Fa.out.below B6.out (Nat.le_refl _))
            have F8 := Lib.hid (Fb.out.below B6.out (Nat.le_refl _))
            go_enter Tryd.func12, Tryd.ntmps12
            have C9 := Lib.hid (rcAwake ((w.alloc (.cells (rcells a.z a.n a.r (.slice A a.fs.length ca)) 43)).alloc (.cells (rcells b.z b.n b.r (.slice B b.fs.length cb)) 43)) (HLA.out _ B6.out))
            go_wp2_with fail
            refine C9.out.mono ?_
            rintro e w10 ⟨rfl, hb11⟩
            have T12 := Lib.hid (T4.out.below hb11 T4.out.lt)
            have T13 := Lib.hid (T5.out.below hb11 T5.out.lt)
            have F14 := Lib.hid (F7.out.below hb11 (Nat.le_refl _))
            have F15 := Lib.hid (F8.out.below hb11 (Nat.le_refl _))
            have B16 := Lib.hid (B6.out.trans (hb11.mono B6.out.size))
            clear hb11
            have M17 := Lib.hid (load_rec T12.out)
            unfold rv at M17
            have C18 := Lib.hid (fewR_any a A ca w10 OKa.out F14.out)
            unfold Rc.v at C18
            unfold rv at C18
            rw [PA.out] at C18
            go_wp2_with (first | ((with_reducible refine wpList_load_by (o := ⟨some 11, .load 43 (.tmp 2), _, _, _, _⟩) ?e1 43 (.tmp 2) ?e2 ⟨w.heap.size, 0, none⟩ ?e3 _ M17.out ?_); (case e1 => rfl); (case e2 => rfl); (case e3 => rfl)))
            refine C18.out.mono ?_
            rintro e w19 ⟨rfl, hb20⟩
            have T21 := Lib.hid (T12.out.below hb20 T12.out.lt)
            have T22 := Lib.hid (T13.out.below hb20 T13.out.lt)
            have F23 := Lib.hid (F14.out.below hb20 (Nat.le_refl _))
            have F24 := Lib.hid (F15.out.below hb20 (Nat.le_refl _))
            have B25 := Lib.hid (B16.out.trans (hb20.mono B16.out.size))
            clear hb20
            have M26 := Lib.hid (load_rec T22.out)
            unfold rv at M26
            have C27 := Lib.hid (fewR_any b B cb w19 OKb.out F24.out)
            unfold Rc.v at C27
            unfold rv at C27
            rw [PB.out] at C27
            go_wp2_with (first | ((with_reducible refine wpList_load_by (o := ⟨some 13, .load 43 (.tmp 3), _, _, _, _⟩) ?e1 43 (.tmp 3) ?e2 ⟨(w.heap.size + 1), 0, none⟩ ?e3 _ M26.out ?_); (case e1 => rfl); (case e2 => rfl); (case e3 => rfl)))
            refine C27.out.mono ?_
            rintro e w28 ⟨rfl, hb29⟩
            have T30 := Lib.hid (T21.out.below hb29 T21.out.lt)
            have T31 := Lib.hid (T22.out.below hb29 T22.out.lt)
            have F32 := Lib.hid (F23.out.below hb29 (Nat.le_refl _))
            have F33 := Lib.hid (F24.out.below hb29 (Nat.le_refl _))
            have B34 := Lib.hid (B25.out.trans (hb29.mono B25.out.size))
            clear hb29
            have HE := HEQ.out
            have M38 := Lib.hid (load_rec T30.out)
            unfold rv at M38
            have M39 := Lib.hid (load_rec T31.out)
            unfold rv at M39
            have C40 := Lib.hid (join_any a b A B ca cb w28 (HLA.out _ B34.out) OKa.out OKb.out F32.out F33.out)
            unfold JoinPost Rc.v at C40
            unfold rv at C40
            rw [JV.out] at C40
            dsimp only [Option.getD, Option.isSome] at C40
            go_wp2_with (first | ((with_reducible refine wpList_load_by (o := ⟨some 27, .load 43 (.tmp 2), _, _, _, _⟩) ?e1 43 (.tmp 2) ?e2 ⟨w.heap.size, 0, none⟩ ?e3 _ M38.out ?_); (case e1 => rfl); (case e2 => rfl); (case e3 => rfl)) | ((with_reducible refine wpList_load_by (o := ⟨some 28, .load 43 (.tmp 3), _, _, _, _⟩) ?e1 43 (.tmp 3) ?e2 ⟨(w.heap.size + 1), 0, none⟩ ?e3 _ M39.out ?_); (case e1 => rfl); (case e2 => rfl); (case e3 => rfl)))
            refine C40.out.mono ?_
            rintro e w41 ⟨A35, c36, rfl, hf37, hb42⟩
            have T43 := Lib.hid (T30.out.below hb42 T30.out.lt)
            have T44 := Lib.hid (T31.out.below hb42 T31.out.lt)
            have F45 := Lib.hid (F32.out.below hb42 (Nat.le_refl _))
            have F46 := Lib.hid (F33.out.below hb42 (Nat.le_refl _))
            have B47 := Lib.hid (B34.out.trans (hb42.mono B34.out.size))
            clear hb42
            have F48 := Lib.hid (hf37)
            clear hf37
            go_wp2_with (first | ((with_reducible refine wpList_store_new (o := ⟨none, .store 43 (.tmp 8) (.tmp 30), _, _, _, _⟩) (w := w41) ?e1 (.tmp 8) (.tmp 30) ?e2 w41.heap.size rfl ?e3 x.z x.n x.r (.slice A35 x.fs.length c36) ?e4 OKx.out.len ?e5 ?_); (case e1 => rfl); (case e2 => rfl); (case e3 => rfl); (case e4 => rfl); (case e5 => rfl); intro w49 hb50 hRs; have T51 := Lib.hid hRs; clear hRs; have T52 := Lib.hid (T43.out.below hb50 T43.out.lt); have T53 := Lib.hid (T44.out.below hb50 T44.out.lt); have F54 := Lib.hid (F45.out.below hb50 (Nat.le_refl _)); have F55 := Lib.hid (F46.out.below hb50 (Nat.le_refl _)); have F56 := Lib.hid (F48.out.below hb50 (Nat.le_refl _)); have B57 := Lib.hid (B47.out.trans (hb50.mono B47.out.size)); clear hb50; have M58 := Lib.hid (load_rec T52.out); unfold rv at M58; have C59 := Lib.hid (may_any' a A ca w49 OKa.out F54.out); unfold Rc.v at C59; unfold rv at C59; rw [MA.out] at C59) | ((with_reducible refine wpList_load_by (o := ⟨some 33, .load 43 (.tmp 2), _, _, _, _⟩) ?e1 43 (.tmp 2) ?e2 ⟨w.heap.size, 0, none⟩ ?e3 _ M58.out ?_); (case e1 => rfl); (case e2 => rfl); (case e3 => rfl)))
            refine C59.out.mono ?_
            rintro e w60 ⟨rfl, hb61⟩
            have T62 := Lib.hid (T52.out.below hb61 T52.out.lt)
            have T63 := Lib.hid (T53.out.below hb61 T53.out.lt)
            have T64 := Lib.hid (T51.out.below hb61 T51.out.lt)
            have F65 := Lib.hid (F54.out.below hb61 (Nat.le_refl _))
            have F66 := Lib.hid (F55.out.below hb61 (Nat.le_refl _))
            have F67 := Lib.hid (F56.out.below hb61 (Nat.le_refl _))
            have B68 := Lib.hid (B57.out.trans (hb61.mono B57.out.size))
            clear hb61
            have M69 := Lib.hid (load_rec T63.out)
            unfold rv at M69
            have C70 := Lib.hid (may_any' b B cb w60 OKb.out F66.out)
            unfold Rc.v at C70
            unfold rv at C70
            rw [MB.out] at C70
            go_wp2_with (first | ((with_reducible refine wpList_load_by (o := ⟨some 36, .load 43 (.tmp 3), _, _, _, _⟩) ?e1 43 (.tmp 3) ?e2 ⟨(w.heap.size + 1), 0, none⟩ ?e3 _ M69.out ?_); (case e1 => rfl); (case e2 => rfl); (case e3 => rfl)))
            refine C70.out.mono ?_
            rintro e w71 ⟨rfl, hb72⟩
            have T73 := Lib.hid (T62.out.below hb72 T62.out.lt)
            have T74 := Lib.hid (T63.out.below hb72 T63.out.lt)
            have T75 := Lib.hid (T64.out.below hb72 T64.out.lt)
            have F76 := Lib.hid (F65.out.below hb72 (Nat.le_refl _))
            have F77 := Lib.hid (F66.out.below hb72 (Nat.le_refl _))
            have F78 := Lib.hid (F67.out.below hb72 (Nat.le_refl _))
            have B79 := Lib.hid (B68.out.trans (hb72.mono B68.out.size))
            clear hb72
            have M80 := Lib.hid (load_id T73.out)
            have M81 := Lib.hid (load_id T74.out)
            go_wp2_with (first | ((with_reducible refine wpList_load_by (o := ⟨some 41, .load 40 (.tmp 40), _, _, _, _⟩) ?e1 40 (.tmp 40) ?e2 ⟨w.heap.size, 0, none⟩ ?e3 _ M80.out ?_); (case e1 => rfl); (case e2 => rfl); (case e3 => rfl)) | ((with_reducible refine wpList_load_by (o := ⟨some 43, .load 40 (.tmp 42), _, _, _, _⟩) ?e1 40 (.tmp 42) ?e2 ⟨(w.heap.size + 1), 0, none⟩ ?e3 _ M81.out ?_); (case e1 => rfl); (case e2 => rfl); (case e3 => rfl)))
            go_ret
            exact ⟨rfl, B79.out⟩
end Go.Proofs.YtonbhcbkelmhgaaDoor
