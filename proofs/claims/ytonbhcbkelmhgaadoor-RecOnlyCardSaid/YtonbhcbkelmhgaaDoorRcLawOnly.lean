/-
  The law RecOnly: for every record it answers true, and nothing that was there is written.
-/
import Derived.Test.YtonbhcbkelmhgaaDoorRcOnly
namespace Go.Proofs.YtonbhcbkelmhgaaDoor
open Go.RowKit WM
set_option linter.unusedVariables false
set_option maxRecDepth 100000
theorem pre_all (a : Rc) : preR a a.fs.length = a := by
  unfold preR
  rw [List.take_length]
theorem dead_of_none {a : Rc} (h : a.may = true) (h0 : a.fs.length = 0) : ¬ (a.n = 0 ∧ a.r = 0) := by
  intro he
  simp only [Rc.may, rmay, Bool.and_eq_true] at h
  simp [h0, he.1, he.2] at h
set_option maxHeartbeats 16000000 in
theorem only_few (a : Rc) (A : Option Addr) (ca : Nat) (w : World) (hlaid : Laid w) (wa : IsRec w a A ca) (pa : fewR a.fs = false) :
    Calls Tryd.prog 11 #[a.v A ca] w fun e w' => e = .returned (.bool true) ∧ Below w.heap.size w w' := by
  have HLA := Lib.hid (fun (X : World) (hX : Below w.heap.size w X) => hlaid.below hX (Nat.le_refl _))
  have OKa := Lib.hid wa.1
  have OK0 : Hid rc0.Ok := Lib.hid ⟨z16_len, z16_bytes⟩
  have Fa := Lib.hid wa.2.1
  have hz := zeroRec
  unfold rv at hz
  conv => congr; rfl; rfl; (unfold Rc.v rv)
  clear hlaid wa
  have PA := Lib.hid pa
  clear pa
  have B1 := Lib.hid (Below.refl w.heap.size w)
  have T2n := RcAt.new w OKa.out.len a.n a.r (.slice A a.fs.length ca)
  have T2 := Lib.hid (T2n)
  clear T2n
  have B3 := Lib.hid (B1.out.alloc B1.out.size (.cells (rcells a.z a.n a.r (.slice A a.fs.length ca)) 43))
  have F4 := Lib.hid (Fa.out.below B3.out (Nat.le_refl _))
  go_enter Tryd.func11, Tryd.ntmps11
  have C5 := Lib.hid (rcAwake (w.alloc (.cells (rcells a.z a.n a.r (.slice A a.fs.length ca)) 43)) (HLA.out _ B3.out))
  go_wp2_with fail
  refine C5.out.mono ?_
  rintro e w6 ⟨rfl, hb7⟩
  have T8 := Lib.hid (T2.out.below hb7 T2.out.lt)
  have F9 := Lib.hid (F4.out.below hb7 (Nat.le_refl _))
  have B10 := Lib.hid (B3.out.trans (hb7.mono B3.out.size))
  clear hb7
  have M11 := Lib.hid (load_rec T8.out)
  unfold rv at M11
  have C12 := Lib.hid (fewR_any a A ca w6 OKa.out F9.out)
  unfold Rc.v at C12
  unfold rv at C12
  rw [PA.out] at C12
  go_wp2_with (first | ((with_reducible refine wpList_load_by (o := ⟨some 11, .load 43 (.tmp 1), _, _, _, _⟩) ?e1 43 (.tmp 1) ?e2 ⟨w.heap.size, 0, none⟩ ?e3 _ M11.out ?_); (case e1 => rfl); (case e2 => rfl); (case e3 => rfl)))
  refine C12.out.mono ?_
  rintro e w13 ⟨rfl, hb14⟩
  have T15 := Lib.hid (T8.out.below hb14 T8.out.lt)
  have F16 := Lib.hid (F9.out.below hb14 (Nat.le_refl _))
  have B17 := Lib.hid (B10.out.trans (hb14.mono B10.out.size))
  clear hb14
  go_wp2
  go_ret
  exact ⟨rfl, B17.out⟩
set_option maxHeartbeats 16000000 in
theorem only_ma (a : Rc) (A : Option Addr) (ca : Nat) (w : World) (hlaid : Laid w) (wa : IsRec w a A ca) (pa : fewR a.fs = true) (ma : a.may = false) :
    Calls Tryd.prog 11 #[a.v A ca] w fun e w' => e = .returned (.bool true) ∧ Below w.heap.size w w' := by
  have HLA := Lib.hid (fun (X : World) (hX : Below w.heap.size w X) => hlaid.below hX (Nat.le_refl _))
  have OKa := Lib.hid wa.1
  have OK0 : Hid rc0.Ok := Lib.hid ⟨z16_len, z16_bytes⟩
  have Fa := Lib.hid wa.2.1
  have hz := zeroRec
  unfold rv at hz
  conv => congr; rfl; rfl; (unfold Rc.v rv)
  clear hlaid wa
  have PA := Lib.hid pa
  clear pa
  have MA := Lib.hid ma
  clear ma
  have B1 := Lib.hid (Below.refl w.heap.size w)
  have T2n := RcAt.new w OKa.out.len a.n a.r (.slice A a.fs.length ca)
  have T2 := Lib.hid (T2n)
  clear T2n
  have B3 := Lib.hid (B1.out.alloc B1.out.size (.cells (rcells a.z a.n a.r (.slice A a.fs.length ca)) 43))
  have F4 := Lib.hid (Fa.out.below B3.out (Nat.le_refl _))
  go_enter Tryd.func11, Tryd.ntmps11
  have C5 := Lib.hid (rcAwake (w.alloc (.cells (rcells a.z a.n a.r (.slice A a.fs.length ca)) 43)) (HLA.out _ B3.out))
  go_wp2_with fail
  refine C5.out.mono ?_
  rintro e w6 ⟨rfl, hb7⟩
  have T8 := Lib.hid (T2.out.below hb7 T2.out.lt)
  have F9 := Lib.hid (F4.out.below hb7 (Nat.le_refl _))
  have B10 := Lib.hid (B3.out.trans (hb7.mono B3.out.size))
  clear hb7
  have M11 := Lib.hid (load_rec T8.out)
  unfold rv at M11
  have C12 := Lib.hid (fewR_any a A ca w6 OKa.out F9.out)
  unfold Rc.v at C12
  unfold rv at C12
  rw [PA.out] at C12
  go_wp2_with (first | ((with_reducible refine wpList_load_by (o := ⟨some 11, .load 43 (.tmp 1), _, _, _, _⟩) ?e1 43 (.tmp 1) ?e2 ⟨w.heap.size, 0, none⟩ ?e3 _ M11.out ?_); (case e1 => rfl); (case e2 => rfl); (case e3 => rfl)))
  refine C12.out.mono ?_
  rintro e w13 ⟨rfl, hb14⟩
  have T15 := Lib.hid (T8.out.below hb14 T8.out.lt)
  have F16 := Lib.hid (F9.out.below hb14 (Nat.le_refl _))
  have B17 := Lib.hid (B10.out.trans (hb14.mono B10.out.size))
  clear hb14
  have M18 := Lib.hid (load_rec T15.out)
  unfold rv at M18
  have C19 := Lib.hid (may_any' a A ca w13 OKa.out F16.out)
  unfold Rc.v at C19
  unfold rv at C19
  rw [MA.out] at C19
  go_wp2_with (first | ((with_reducible refine wpList_load_by (o := ⟨some 20, .load 43 (.tmp 1), _, _, _, _⟩) ?e1 43 (.tmp 1) ?e2 ⟨w.heap.size, 0, none⟩ ?e3 _ M18.out ?_); (case e1 => rfl); (case e2 => rfl); (case e3 => rfl)))
  refine C19.out.mono ?_
  rintro e w20 ⟨rfl, hb21⟩
  have T22 := Lib.hid (T15.out.below hb21 T15.out.lt)
  have F23 := Lib.hid (F16.out.below hb21 (Nat.le_refl _))
  have B24 := Lib.hid (B17.out.trans (hb21.mono B17.out.size))
  clear hb21
  go_wp2
  go_ret
  exact ⟨rfl, B24.out⟩
set_option maxHeartbeats 16000000 in
theorem only_full (a : Rc) (A : Option Addr) (ca : Nat) (w : World) (hlaid : Laid w) (wa : IsRec w a A ca) (pa : fewR a.fs = true) (ma : a.may = true) :
    Calls Tryd.prog 11 #[a.v A ca] w fun e w' => e = .returned (.bool true) ∧ Below w.heap.size w w' := by
  have HLA := Lib.hid (fun (X : World) (hX : Below w.heap.size w X) => hlaid.below hX (Nat.le_refl _))
  have OKa := Lib.hid wa.1
  have OK0 : Hid rc0.Ok := Lib.hid ⟨z16_len, z16_bytes⟩
  have Fa := Lib.hid wa.2.1
  have hz := zeroRec
  unfold rv at hz
  conv => congr; rfl; rfl; (unfold Rc.v rv)
  clear hlaid wa
  have PA := Lib.hid pa
  clear pa
  have MA := Lib.hid ma
  clear ma
  have B1 := Lib.hid (Below.refl w.heap.size w)
  have T2n := RcAt.new w OKa.out.len a.n a.r (.slice A a.fs.length ca)
  have T2 := Lib.hid (T2n)
  clear T2n
  have B3 := Lib.hid (B1.out.alloc B1.out.size (.cells (rcells a.z a.n a.r (.slice A a.fs.length ca)) 43))
  have F4 := Lib.hid (Fa.out.below B3.out (Nat.le_refl _))
  go_enter Tryd.func11, Tryd.ntmps11
  have C5 := Lib.hid (rcAwake (w.alloc (.cells (rcells a.z a.n a.r (.slice A a.fs.length ca)) 43)) (HLA.out _ B3.out))
  go_wp2_with fail
  refine C5.out.mono ?_
  rintro e w6 ⟨rfl, hb7⟩
  have T8 := Lib.hid (T2.out.below hb7 T2.out.lt)
  have F9 := Lib.hid (F4.out.below hb7 (Nat.le_refl _))
  have B10 := Lib.hid (B3.out.trans (hb7.mono B3.out.size))
  clear hb7
  have M11 := Lib.hid (load_rec T8.out)
  unfold rv at M11
  have C12 := Lib.hid (fewR_any a A ca w6 OKa.out F9.out)
  unfold Rc.v at C12
  unfold rv at C12
  rw [PA.out] at C12
  go_wp2_with (first | ((with_reducible refine wpList_load_by (o := ⟨some 11, .load 43 (.tmp 1), _, _, _, _⟩) ?e1 43 (.tmp 1) ?e2 ⟨w.heap.size, 0, none⟩ ?e3 _ M11.out ?_); (case e1 => rfl); (case e2 => rfl); (case e3 => rfl)))
  refine C12.out.mono ?_
  rintro e w13 ⟨rfl, hb14⟩
  have T15 := Lib.hid (T8.out.below hb14 T8.out.lt)
  have F16 := Lib.hid (F9.out.below hb14 (Nat.le_refl _))
  have B17 := Lib.hid (B10.out.trans (hb14.mono B10.out.size))
  clear hb14
  have M18 := Lib.hid (load_rec T15.out)
  unfold rv at M18
  have C19 := Lib.hid (may_any' a A ca w13 OKa.out F16.out)
  unfold Rc.v at C19
  unfold rv at C19
  rw [MA.out] at C19
  go_wp2_with (first | ((with_reducible refine wpList_load_by (o := ⟨some 20, .load 43 (.tmp 1), _, _, _, _⟩) ?e1 43 (.tmp 1) ?e2 ⟨w.heap.size, 0, none⟩ ?e3 _ M18.out ?_); (case e1 => rfl); (case e2 => rfl); (case e3 => rfl)))
  refine C19.out.mono ?_
  rintro e w20 ⟨rfl, hb21⟩
  have T22 := Lib.hid (T15.out.below hb21 T15.out.lt)
  have F23 := Lib.hid (F16.out.below hb21 (Nat.le_refl _))
  have B24 := Lib.hid (B17.out.trans (hb21.mono B17.out.size))
  clear hb21
  have D25 := Lib.hid (build_none w20)
  unfold rv at D25
  have HB5 := Lib.hid (show w.heap.size ≤ w20.heap.size from B24.out.size)
  have HBL := Lib.hid (T22.out.lt)
  go_wp2_with (first | ((with_reducible refine wpList_build_by (o := ⟨some 25, .build 43 #[], _, _, _, _⟩) ?e1 43 #[] ?e2 #[] ?e3 _ D25.out ?_); (case e1 => rfl); (case e2 => rfl); (case e3 => (first | rfl | (simp only [List.map_toArray, List.map_cons, List.map_nil]; rfl)))) | ((with_reducible refine wpList_store_new (o := ⟨none, .store 43 (.tmp 5) (.tmp 25), _, _, _, _⟩) (w := w20) ?e1 (.tmp 5) (.tmp 25) ?e2 w20.heap.size rfl ?e3 rc0.z rc0.n rc0.r (.slice none rc0.fs.length 0) ?e4 OK0.out.len ?e5 ?_); (case e1 => rfl); (case e2 => rfl); (case e3 => rfl); (case e4 => rfl); (case e5 => rfl); intro w26 hb27 hRs; have T28 := Lib.hid hRs; clear hRs; have T29 := Lib.hid (T22.out.below hb27 T22.out.lt); have F30 := Lib.hid (F23.out.below hb27 (Nat.le_refl _)); have B31 := Lib.hid (B24.out.trans (hb27.mono B24.out.size)); clear hb27))
  have HC := Lib.hid Fa.out.2.2.2
  have HN1 := Fa.out.1
  have HN2 := Fa.out.2.1
  simp only [maxLen] at HN2
  go_loopw [6] (fun i wr => ∃ k : Nat, k ≤ a.fs.length ∧ i = .int .i64 k ∧ RcAt wr w.heap.size a.z a.n a.r (.slice A a.fs.length ca) ∧ Below w.heap.size w wr ∧ ∃ (z' : List Int) (n' r' : Int) (A5 : Option Addr) (l5 c5 : Nat), RcAt wr w20.heap.size z' n' r' (.slice A5 l5 c5) ∧ (0 < k → z' = a.z ∧ n' = a.n ∧ r' = a.r ∧ l5 = (preR a k).fs.length ∧ FsAt wr A5 c5 (preR a k).fs)) (fun i _ => a.fs.length - (intOf i).toNat)
  case atStart => exact ⟨0, Nat.zero_le _, rfl, T29.out, B31.out, _, _, _, _, _, _, T28.out, fun h => by omega⟩
  case round =>
    obtain ⟨k, hk, rfl, h1, hb, z', n', r', A5, l5, c5, h5, hp⟩ := hrel
    have d18 := h1.c18
    by_cases hlt : k < a.fs.length
    · obtain ⟨b, off, rfl, hbB, _⟩ := HC.out (by omega)
      have hca : k < ca := by omega
      have D1 := Lib.hid h1
      have D5 := Lib.hid h5
      have HBB := Lib.hid hb
      have HP := Lib.hid hp
      have SL := Lib.hid (sl_fld b off a.fs.length ca k hca (k : Int) ((k : Int) + 1) rfl rfl)
      have BA := Lib.hid (build_all OKa.out.len a.n a.r (some ⟨b, off + k * 4, none⟩) 1 (ca - k))
      unfold rv at BA
      have HW : Hid (IntKind.i64.wrap ((k : Int) + 1) = (k : Int) + 1) := Lib.hid (by rw [IntKind.wrap_i64]; omega)
      have HZ := Lib.hid hz
      obtain ⟨gk, hgk⟩ : ∃ u, u = a.fs[k] := ⟨_, rfl⟩
      have FG := Lib.hid (fun (w9 : World) (h : Below w.heap.size w w9) => (show FsAt w9 (some ⟨b, off + k * 4, none⟩) (ca - k) (fldR a gk).fs from by rw [hgk]; exact fs_sub (Fa.out.below h (Nat.le_refl _)) hlt))
      have HPR := Lib.hid (fun (h0 : 0 < k) => (show (fldR a gk).join (preR a k) = some (preR a (k + 1)) from by
        rw [hgk, join_eq (fldR_may MA.out (List.getElem_mem hlt)) (preR_may MA.out h0 hk) rfl, jn_pre MA.out h0 hlt]))
      have HP1 := Lib.hid (fun (h0 : k = 0) => (show (preR a (k + 1)).fs = (fldR a gk).fs from by
        subst h0
        show a.fs.take 1 = [gk]
        rw [hgk, List.take_succ_eq_append_getElem hlt]
        simp))
      have OKf : Hid (fldR a gk).Ok := Lib.hid (show (fldR a gk).Ok from OKa.out)
      have OKp : Hid (preR a k).Ok := Lib.hid (show (preR a k).Ok from OKa.out)
      have OKq : Hid (preR a (k + 1)).Ok := Lib.hid (show (preR a (k + 1)).Ok from OKa.out)
      clear hgk hb h1 h5 hp
      go_wp2_with fail
      refine wp_region_G wr (by kernel_rfl) ?_
      refine wpG_take (i := 0) (oi := ⟨some 33, _, _, _, _, _⟩) (v := ?_) rfl (by kernel_rfl) (by kernel_rfl) (by kernel_rfl) (Or.inl ⟨by rfl, unib_val ?_⟩) ?_; rotate_left; (focus (intro w9 hSw; go_simp; try with_reducible rfl)); simp only [Act.put, List.setIfInBounds_toArray, List.set_cons_zero, List.set_cons_succ]
      refine wpG_take (i := 1) (oi := ⟨some 34, _, _, _, _, _⟩) (v := (.agg (bvals a.z))) rfl (by kernel_rfl) (by kernel_rfl) (by kernel_rfl) (Or.inl ⟨by rfl, unib_val ?_⟩) ?_; (focus (intro w9 hSw; exact exec_load_by 40 _ rfl ⟨w.heap.size, 0, none⟩ rfl (load_id (D1.out.below hSw D1.out.lt)))); simp only [Act.put, List.setIfInBounds_toArray, List.set_cons_zero, List.set_cons_succ]
      refine wpG_take (i := 2) (oi := ⟨some 35, _, _, _, _, _⟩) (v := ?_) rfl (by kernel_rfl) (by kernel_rfl) (by kernel_rfl) (Or.inl ⟨by rfl, unib_val ?_⟩) ?_; rotate_left; (focus (intro w9 hSw; go_simp; try with_reducible rfl)); simp only [Act.put, List.setIfInBounds_toArray, List.set_cons_zero, List.set_cons_succ]
      refine wpG_take (i := 3) (oi := ⟨some 36, _, _, _, _, _⟩) (v := ?_) rfl (by kernel_rfl) (by kernel_rfl) (by kernel_rfl) (Or.inl ⟨by rfl, unib_val ?_⟩) ?_; rotate_left; (focus (intro w9 hSw; have q9 := D1.out.below hSw D1.out.lt; have q0 := q9.c16; have q1 := q9.c17; go_simp; try with_reducible rfl)); simp only [Act.put, List.setIfInBounds_toArray, List.set_cons_zero, List.set_cons_succ]
      refine wpG_take (i := 4) (oi := ⟨some 37, _, _, _, _, _⟩) (v := ?_) rfl (by kernel_rfl) (by kernel_rfl) (by kernel_rfl) (Or.inl ⟨by rfl, unib_val ?_⟩) ?_; rotate_left; (focus (intro w9 hSw; go_simp; try with_reducible rfl)); simp only [Act.put, List.setIfInBounds_toArray, List.set_cons_zero, List.set_cons_succ]
      refine wpG_take (i := 5) (oi := ⟨some 38, _, _, _, _, _⟩) (v := ?_) rfl (by kernel_rfl) (by kernel_rfl) (by kernel_rfl) (Or.inl ⟨by rfl, unib_val ?_⟩) ?_; rotate_left; (focus (intro w9 hSw; have q9 := D1.out.below hSw D1.out.lt; have q0 := q9.c18; go_simp; try with_reducible rfl)); simp only [Act.put, List.setIfInBounds_toArray, List.set_cons_zero, List.set_cons_succ]
      refine wpG_take (i := 6) (oi := ⟨some 39, _, _, _, _, _⟩) (v := ?_) rfl (by kernel_rfl) (by kernel_rfl) (by kernel_rfl) (Or.inl ⟨by rfl, unib_val ?_⟩) ?_; rotate_left; (focus (intro w9 hSw; go_simp; try with_reducible rfl)); simp only [Act.put, List.setIfInBounds_toArray, List.set_cons_zero, List.set_cons_succ]
      refine wpG_take (i := 7) (oi := ⟨some 40, _, _, _, _, _⟩) (v := ?_) rfl (by kernel_rfl) (by kernel_rfl) (by kernel_rfl) (Or.inl ⟨by rfl, unib_val ?_⟩) ?_; rotate_left; (focus (intro w9 hSw; go_simp; try with_reducible rfl)); simp only [Act.put, List.setIfInBounds_toArray, List.set_cons_zero, List.set_cons_succ]
      refine wpG_take (i := 8) (oi := ⟨some 41, _, _, _, _, _⟩) (v := (.int .i64 ((k : Int) + 1))) rfl (by kernel_rfl) (by kernel_rfl) (by kernel_rfl) (Or.inl ⟨by rfl, unib_val ?_⟩) ?_; (focus (intro w9 hSw; go_simp; exact HW.out)); simp only [Act.put, List.setIfInBounds_toArray, List.set_cons_zero, List.set_cons_succ]
      refine wpG_take (i := 9) (oi := ⟨some 42, _, _, _, _, _⟩) (v := (.slice (some ⟨b, off + k * 4, none⟩) 1 (ca - k))) rfl (by kernel_rfl) (by kernel_rfl) (by kernel_rfl) (Or.inl ⟨by rfl, unib_val ?_⟩) ?_; (focus (intro w9 hSw; have q0 := SL.out w9; go_simp; try rfl)); simp only [Act.put, List.setIfInBounds_toArray, List.set_cons_zero, List.set_cons_succ]
      refine wpG_take (i := 10) (oi := ⟨some 43, _, _, _, _, _⟩) (v := (.agg (rcells a.z a.n a.r (.slice (some ⟨b, off + k * 4, none⟩) 1 (ca - k))))) rfl (by kernel_rfl) (by kernel_rfl) (by kernel_rfl) (Or.inl ⟨by rfl, unib_val ?_⟩) ?_; (focus (intro w9 hSw; refine exec_build_by _ _ rfl #[(0, .agg (bvals a.z)), (1, .agg #[.int .i64 a.n, .int .i64 a.r]), (2, (.slice (some ⟨b, off + k * 4, none⟩) 1 (ca - k)))] ?_ (BA.out w9); simp only [List.map_toArray, List.map_cons, List.map_nil]; rfl)); simp only [Act.put, List.setIfInBounds_toArray, List.set_cons_zero, List.set_cons_succ]
      refine wpG_alloc (i := 11) (oi := ⟨some 7, _, _, _, _, _⟩) (z := rcells z16 0 0 (.slice none 0 0)) (t := 43) (by kernel_rfl) rfl ⟨by rfl, fun w9 hSw => by have hz := HZ.out; go_simp; try rfl⟩ ?_; intro g hg ng; simp only [Act.put, List.setIfInBounds_toArray, List.set_cons_zero, List.set_cons_succ]
      refine wpG_store (i := 12) (oi := ⟨none, _, _, _, _, _⟩) (v := undef) [(g, (rcells a.z a.n a.r (.slice (some ⟨b, off + k * 4, none⟩) 1 (ca - k))), 43)] (by kernel_rfl) rfl ⟨by rfl, fun w9 hSw hO => ?_⟩ ?_; (focus (have q9 := hO _ (.head _); refine ⟨_, Or.inr ⟨exec_store_row 43 _ _ rfl g (rcells a.z a.n a.r (.slice (some ⟨b, off + k * 4, none⟩) 1 (ca - k))) rfl rfl 43 _ q9 (size_rcells OKa.out.len _ _ _) (by rw [rcells_size z16_len, rcells_size OKa.out.len]) (rcells_one rfl), rfl⟩, below_setRow hSw hg _, ?_⟩; intro x hx; obtain rfl := List.mem_singleton.1 hx; exact setRow_heap w9 g _ _ _ _ q9)); simp only [Act.put]
      refine wpG_done (by kernel_rfl) ?_ _
      intro w900 hSw hO
      have q7 := hO _ (.head _)
      have E1 := Lib.hid (D1.out.below hSw D1.out.lt)
      have E5 := Lib.hid (D5.out.below hSw D5.out.lt)
      have E7 : Hid (RcAt w900 g (fldR a gk).z (fldR a gk).n (fldR a gk).r (.slice (some ⟨b, off + k * 4, none⟩) (fldR a gk).fs.length (ca - k))) := Lib.hid ⟨OKa.out.len, q7⟩
      have EB := Lib.hid (HBB.out.trans (hSw.mono HBB.out.size))
      have HPF := Lib.hid (fun h0 : 0 < k => ((HP.out h0).2.2.2.2).below hSw (Nat.le_refl _))
      clear hSw hO q7 d18
      rcases Nat.eq_zero_or_pos k with h0 | h0
      · have M7 := Lib.hid (load_rec E7.out)
        unfold rv at M7
        have P1 := Lib.hid (HP1.out h0)
        have FF := Lib.hid (FG.out _ EB.out)
        subst h0
        have SZa := Lib.hid (size_rcells OKf.out.len _ _ _ : (Tryd.prog.info? 43).map (·.size) = some (rcells (fldR a gk).z (fldR a gk).n (fldR a gk).r (.slice (some ⟨b, off + 0 * 4, none⟩) (fldR a gk).fs.length (ca - 0))).size)
        have SQa := Lib.hid (show (rcells z' n' r' (.slice A5 l5 c5)).size = (rcells (fldR a gk).z (fldR a gk).n (fldR a gk).r (.slice (some ⟨b, off + 0 * 4, none⟩) (fldR a gk).fs.length (ca - 0))).size by rw [rcells_size E5.out.1, rcells_size OKf.out.len])
        have SOa := Lib.hid (rcells_one rfl : (rcells (fldR a gk).z (fldR a gk).n (fldR a gk).r (.slice (some ⟨b, off + 0 * 4, none⟩) (fldR a gk).fs.length (ca - 0))).all (·.oneCell') = true)
        go_wp2_with (first | ((with_reducible refine wpList_load_by (o := ⟨some 46, .load 43 (.tmp 7), _, _, _, _⟩) ?e1 43 (.tmp 7) ?e2 ⟨g, 0, none⟩ ?e3 _ M7.out ?_); (case e1 => rfl); (case e2 => rfl); (case e3 => rfl)) | ((with_reducible refine wpList_store_row (o := ⟨none, .store 43 (.tmp 5) (.tmp 46), _, _, _, _⟩) ?e1 43 (.tmp 5) (.tmp 46) ?e2 w20.heap.size (rcells (fldR a gk).z (fldR a gk).n (fldR a gk).r (.slice (some ⟨b, off + 0 * 4, none⟩) (fldR a gk).fs.length (ca - 0))) ?e3 ?e4 43 _ E5.out.hp SZa.out SQa.out SOa.out ?_); (case e1 => rfl); (case e2 => rfl); (case e3 => rfl); (case e4 => rfl)))
        go_roundw
        case rel => exact ⟨0 + 1, by omega, by go_num, E1.out.kept (grownBy_setRow w900 _ _) (fun e => by have := Option.some.inj e; have := HBL.out; omega), below_setRow EB.out HB5.out _, a.z, a.n, a.r, _, _, _, E5.out.putAll OKa.out.len, fun _ => ⟨rfl, rfl, rfl, by rw [P1.out], by rw [P1.out]; exact FF.out.kept (grownBy_setRow w900 _ _) (fun _ p hp => by have := HB5.out; injection hp with hp; subst hp; dsimp only; omega)⟩⟩
        case measure => simp [intOf]; omega
      · obtain ⟨rfl, rfl, rfl, rfl, _⟩ := HP.out h0
        have JX := Lib.hid (HPR.out h0)
        have FP := Lib.hid (HPF.out h0)
        have FF := Lib.hid (FG.out _ EB.out)
        have E5 : Hid (RcAt w900 w20.heap.size (preR a k).z (preR a k).n (preR a k).r (.slice A5 (preR a k).fs.length c5)) := Lib.hid E5.out
        have h00 : decide ((k : Int) = 0) = false := decide_eq_false (by omega)
        have h01 : ¬ (k : Int) = 0 := by omega
        have M905 := Lib.hid (load_rec E7.out)
        unfold rv at M905
        have M906 := Lib.hid (load_rec E5.out)
        unfold rv at M906
        have C907 := Lib.hid (join_any (fldR a gk) (preR a k) (some ⟨b, off + k * 4, none⟩) A5 (ca - k) c5 w900 (HLA.out _ EB.out) OKf.out OKp.out FF.out FP.out)
        unfold JoinPost Rc.v at C907
        unfold rv at C907
        rw [JX.out] at C907
        dsimp only [Option.getD, Option.isSome] at C907
        go_wp2_with (first | ((with_reducible refine wpList_load_by (o := ⟨some 48, .load 43 (.tmp 7), _, _, _, _⟩) ?e1 43 (.tmp 7) ?e2 ⟨g, 0, none⟩ ?e3 _ M905.out ?_); (case e1 => rfl); (case e2 => rfl); (case e3 => rfl)) | ((with_reducible refine wpList_load_by (o := ⟨some 49, .load 43 (.tmp 5), _, _, _, _⟩) ?e1 43 (.tmp 5) ?e2 ⟨w20.heap.size, 0, none⟩ ?e3 _ M906.out ?_); (case e1 => rfl); (case e2 => rfl); (case e3 => rfl)))
        refine C907.out.mono ?_
        rintro e w908 ⟨A902, c903, rfl, hf904, hb909⟩
        have T910 := Lib.hid (E1.out.below hb909 E1.out.lt)
        have T911 := Lib.hid (E5.out.below hb909 E5.out.lt)
        have T912 := Lib.hid (E7.out.below hb909 E7.out.lt)
        have F913 := Lib.hid (FF.out.below hb909 (Nat.le_refl _))
        have F914 := Lib.hid (FP.out.below hb909 (Nat.le_refl _))
        have B915 := Lib.hid (EB.out.trans (hb909.mono EB.out.size))
        clear hb909
        have F916 := Lib.hid (hf904)
        clear hf904
        go_wp2_with (first | ((with_reducible refine wpList_store_new (o := ⟨none, .store 43 (.tmp 8) (.tmp 51), _, _, _, _⟩) (w := w908) ?e1 (.tmp 8) (.tmp 51) ?e2 w908.heap.size rfl ?e3 (preR a (k + 1)).z (preR a (k + 1)).n (preR a (k + 1)).r (.slice A902 (preR a (k + 1)).fs.length c903) ?e4 OKq.out.len ?e5 ?_); (case e1 => rfl); (case e2 => rfl); (case e3 => rfl); (case e4 => rfl); (case e5 => rfl); intro w917 hb918 hRs; have T919 := Lib.hid hRs; clear hRs; have T920 := Lib.hid (T910.out.below hb918 T910.out.lt); have T921 := Lib.hid (T911.out.below hb918 T911.out.lt); have T922 := Lib.hid (T912.out.below hb918 T912.out.lt); have F923 := Lib.hid (F916.out.below hb918 (Nat.le_refl _)); have B924 := Lib.hid (B915.out.trans (hb918.mono B915.out.size)); clear hb918; have M8 := Lib.hid (load_rec T919.out); unfold rv at M8; have SZb := Lib.hid (size_rcells OKq.out.len _ _ _ : (Tryd.prog.info? 43).map (·.size) = some (rcells (preR a (k + 1)).z (preR a (k + 1)).n (preR a (k + 1)).r (.slice A902 (preR a (k + 1)).fs.length c903)).size); have SQb := Lib.hid (show (rcells (preR a k).z (preR a k).n (preR a k).r (.slice A5 (preR a k).fs.length c5)).size = (rcells (preR a (k + 1)).z (preR a (k + 1)).n (preR a (k + 1)).r (.slice A902 (preR a (k + 1)).fs.length c903)).size by rw [rcells_size T921.out.1, rcells_size OKq.out.len]); have SOb := Lib.hid (rcells_one rfl : (rcells (preR a (k + 1)).z (preR a (k + 1)).n (preR a (k + 1)).r (.slice A902 (preR a (k + 1)).fs.length c903)).all (·.oneCell') = true)) | ((with_reducible refine wpList_load_by (o := ⟨some 55, .load 43 (.tmp 8), _, _, _, _⟩) ?e1 43 (.tmp 8) ?e2 ⟨w908.heap.size, 0, none⟩ ?e3 _ M8.out ?_); (case e1 => rfl); (case e2 => rfl); (case e3 => rfl)) | ((with_reducible refine wpList_store_row (o := ⟨none, .store 43 (.tmp 5) (.tmp 55), _, _, _, _⟩) ?e1 43 (.tmp 5) (.tmp 55) ?e2 w20.heap.size (rcells (preR a (k + 1)).z (preR a (k + 1)).n (preR a (k + 1)).r (.slice A902 (preR a (k + 1)).fs.length c903)) ?e3 ?e4 43 _ T921.out.hp SZb.out SQb.out SOb.out ?_); (case e1 => rfl); (case e2 => rfl); (case e3 => rfl); (case e4 => rfl)))
        go_roundw
        case rel => exact ⟨k + 1, by omega, by go_num, T920.out.kept (grownBy_setRow w917 _ _) (fun e => by have := Option.some.inj e; have := HBL.out; omega), below_setRow B924.out HB5.out _, a.z, a.n, a.r, _, _, _, T921.out.putAll OKa.out.len, fun _ => ⟨rfl, rfl, rfl, rfl, F923.out.kept (grownBy_setRow w917 _ _) (fun h9 => F923.out.not_rc T921.out (fun s e => by cases e) h9)⟩⟩
        case measure => simp [intOf]; omega
    · by_cases h0 : a.fs.length = 0
      · obtain rfl : k = 0 := by omega
        have d16 := h1.c16
        have d17 := h1.c17
        have hne := dead_of_none MA.out h0
        have EB := Lib.hid hb
        rw [h0] at d18
        by_cases hn : a.n = 0
        · have hr : ¬ a.r = 0 := fun e => hne ⟨hn, e⟩
          go_wp2
          all_goals (go_ret; first | exact ⟨rfl, EB.out⟩ | exact ⟨by simp [hr], EB.out⟩)
        · go_wp2
          all_goals (go_ret; first | exact ⟨rfl, EB.out⟩ | exact ⟨by simp [hn], EB.out⟩)
      · obtain rfl : k = a.fs.length := by omega
        obtain ⟨rfl, rfl, rfl, rfl, hf5⟩ := hp (by omega)
        have OKp : Hid (preR a a.fs.length).Ok := Lib.hid (show (preR a a.fs.length).Ok from OKa.out)
        have SS : Hid ((preR a a.fs.length).same a = true) := Lib.hid (by rw [pre_all]; exact Rc.same_iff.2 rfl)
        have h00 : ¬ (a.fs.length : Int) = 0 := by omega
        have E1 := Lib.hid h1
        have E5 : Hid (RcAt wr w20.heap.size (preR a a.fs.length).z (preR a a.fs.length).n (preR a a.fs.length).r (.slice A5 (preR a a.fs.length).fs.length c5)) := Lib.hid h5
        have EB := Lib.hid hb
        have FP := Lib.hid hf5
        have FA := Lib.hid (Fa.out.below hb (Nat.le_refl _))
        obtain ⟨w900, hw9⟩ : ∃ u, u = wr := ⟨_, rfl⟩
        subst hw9
        clear hb h1 h5 hf5 hp
        have M902 := Lib.hid (load_rec E5.out)
        unfold rv at M902
        have M903 := Lib.hid (load_rec E1.out)
        unfold rv at M903
        have C904 := Lib.hid (same_any' (preR a a.fs.length) a A5 A c5 ca w900 OKp.out OKa.out FP.out FA.out)
        unfold Rc.v at C904
        unfold rv at C904
        rw [SS.out] at C904
        go_wp2_with (first | ((with_reducible refine wpList_load_by (o := ⟨some 64, .load 43 (.tmp 5), _, _, _, _⟩) ?e1 43 (.tmp 5) ?e2 ⟨w20.heap.size, 0, none⟩ ?e3 _ M902.out ?_); (case e1 => rfl); (case e2 => rfl); (case e3 => rfl)) | ((with_reducible refine wpList_load_by (o := ⟨some 65, .load 43 (.tmp 1), _, _, _, _⟩) ?e1 43 (.tmp 1) ?e2 ⟨w.heap.size, 0, none⟩ ?e3 _ M903.out ?_); (case e1 => rfl); (case e2 => rfl); (case e3 => rfl)))
        refine C904.out.mono ?_
        rintro e w905 ⟨rfl, hb906⟩
        have T907 := Lib.hid (E1.out.below hb906 E1.out.lt)
        have T908 := Lib.hid (E5.out.below hb906 E5.out.lt)
        have F909 := Lib.hid (FA.out.below hb906 (Nat.le_refl _))
        have F910 := Lib.hid (FP.out.below hb906 (Nat.le_refl _))
        have B911 := Lib.hid (EB.out.trans (hb906.mono EB.out.size))
        clear hb906
        go_wp2
        go_ret
        exact ⟨rfl, B911.out⟩
theorem walk_recOnly (a : Rc) (A : Option Addr) (ca : Nat) (w : World) (hlaid : Laid w) (wa : IsRec w a A ca) :
    Calls Tryd.prog 11 #[a.v A ca] w fun e w' => e = .returned (.bool true) ∧ Below w.heap.size w w' := by
  cases pa : fewR a.fs
  · exact only_few a A ca w hlaid wa pa
  cases ma : a.may
  · exact only_ma a A ca w hlaid wa pa ma
  exact only_full a A ca w hlaid wa pa ma
end Go.Proofs.YtonbhcbkelmhgaaDoor
