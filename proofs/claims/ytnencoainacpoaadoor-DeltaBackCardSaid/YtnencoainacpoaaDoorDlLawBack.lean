import Derived.Test.YtnencoainacpoaaDoorDlAwake
import Derived.Test.YtnencoainacpoaaDoorDlProg
import Derived.Test.YtnencoainacpoaaDoorGDlM
import Derived.Test.YtnencoainacpoaaDoorGUni
/-
  The law DeltaBack: for every list of pieces and all bytes it answers true, and nothing that was there is written. Nothing that was there is written.
-/
namespace Go.Proofs.YtnencoainacpoaaDoor
open Go.RowKit WM
set_option linter.unusedVariables false
set_option maxRecDepth 100000
theorem pputB_bytes (l : List Pc) : AllBytes (pputB l) := by
  unfold pputB
  refine all_append (enc_bytes _) ?_
  intro x hx
  obtain ⟨p, _, hp⟩ := List.mem_flatMap.1 hx
  unfold pcB at hp
  split at hp
  · exact (all_append (all_append (show AllBytes [1] by intro x hx; simp at hx; omega) (enc_bytes _)) (enc_bytes _)) x hp
  · exact (all_append (show AllBytes [0] by intro x hx; simp at hx; omega) (txt_bytes _)) x hp
theorem enc_le (n : Int) : (enc n).length ≤ 10 := (enc_len n).2
theorem flat_le {α : Type} {f : α → List Int} {k : Nat} : ∀ (l : List α), (∀ p ∈ l, (f p).length ≤ k) → (l.flatMap f).length ≤ l.length * k
  | [], _ => by simp
  | p :: l, h => by
    have h1 := h p (List.mem_cons_self ..)
    have h2 := flat_le l (fun q hq => h q (List.mem_cons_of_mem _ hq))
    rw [List.flatMap_cons, List.length_append, List.length_cons, Nat.succ_mul]
    omega
theorem pputB_len {l : List Pc} (h : pmay l = true) : (pputB l).length ≤ 20000 := by
  obtain ⟨h1, h2, h3⟩ := pmay_iff.1 h
  have h4 := flat_le (f := pcB) (k := 250) l (fun p hp => by
    have h5 := pcGood_size (h1 p hp)
    have h6 := enc_le p.fr
    have h7 := enc_le p.ln
    have h8 := enc_le (p.lit.size : Int)
    unfold pcB
    split
    · simp only [List.length_append, List.length_singleton]; omega
    · unfold txt
      simp only [List.length_append, List.length_singleton, nums_len]
      omega)
  have h6 := enc_le (l.length : Int)
  unfold pputB
  rw [List.length_append]
  have : l.length * 250 ≤ 60 * 250 := Nat.mul_le_mul_right _ h2
  omega
set_option maxHeartbeats 8000000 in
theorem back11_few (A : Option Addr) (c : Nat) (l : List Pc) (B : Option Addr) (len cap : Nat) (z0 : List Int) (w : World) (hlaid : Laid w) (hr : KPc.row w A c l) (hx : IsRow .u8 w B len cap z0) (hf1 : pfew l = false) :
    Calls Tryd.prog 6 #[.slice A l.length c, .slice B len cap] w fun e w' => e = .returned (.bool true) ∧ Below w.heap.size w w' := by
  have HR := Lib.hid (fun (X : World) (hX : Below w.heap.size w X) => Kind.row_below hr hX (Nat.le_refl _))
  have F1 := Lib.hid (fun (X : World) (hX : Below w.heap.size w X) => few11_any A c l X (HR.out X hX))
  have B0 := Lib.hid (Below.refl w.heap.size w)
  have HL := Lib.hid hlaid
  rw [hf1] at F1
  clear hr hlaid hx hf1
  go_enter Tryd.func6, Tryd.ntmps6
  go_wp2_with fail
  refine (dlAwake w HL.out).mono ?_
  rintro e w1 ⟨rfl, hb⟩
  have B1 := Lib.hid (B0.out.trans (hb.mono B0.out.size))
  clear hb
  go_wp2_with fail
  refine (F1.out _ B1.out).mono ?_
  rintro e w2 ⟨rfl, hb⟩
  have B2 := Lib.hid (B1.out.trans (hb.mono B1.out.size))
  clear hb
  go_wp2
  go_ret
  exact ⟨rfl, B2.out⟩
set_option maxHeartbeats 8000000 in
theorem back11_long (A : Option Addr) (c : Nat) (l : List Pc) (B : Option Addr) (len cap : Nat) (z0 : List Int) (w : World) (hlaid : Laid w) (hr : KPc.row w A c l) (hx : IsRow .u8 w B len cap z0) (hf1 : pfew l = true) (t1 : (400 : Int) < (len : Int)) :
    Calls Tryd.prog 6 #[.slice A l.length c, .slice B len cap] w fun e w' => e = .returned (.bool true) ∧ Below w.heap.size w w' := by
  have HR := Lib.hid (fun (X : World) (hX : Below w.heap.size w X) => Kind.row_below hr hX (Nat.le_refl _))
  have F1 := Lib.hid (fun (X : World) (hX : Below w.heap.size w X) => few11_any A c l X (HR.out X hX))
  have B0 := Lib.hid (Below.refl w.heap.size w)
  have HL := Lib.hid hlaid
  rw [hf1] at F1
  clear hr hlaid hx hf1
  go_enter Tryd.func6, Tryd.ntmps6
  go_wp2_with fail
  refine (dlAwake w HL.out).mono ?_
  rintro e w1 ⟨rfl, hb⟩
  have B1 := Lib.hid (B0.out.trans (hb.mono B0.out.size))
  clear hb
  go_wp2_with fail
  refine (F1.out _ B1.out).mono ?_
  rintro e w2 ⟨rfl, hb⟩
  have B2 := Lib.hid (B1.out.trans (hb.mono B1.out.size))
  clear hb
  go_wp2
  go_ret
  exact ⟨rfl, B2.out⟩
set_option maxHeartbeats 8000000 in
theorem back11_nn (A : Option Addr) (c : Nat) (l : List Pc) (B : Option Addr) (len cap : Nat) (z0 : List Int) (w : World) (hlaid : Laid w) (hr : KPc.row w A c l) (hx : IsRow .u8 w B len cap z0) (hf1 : pfew l = true) (t1 : ¬ (400 : Int) < (len : Int)) (hm : pmay l = false) (hO : pget (z0.take len) = none) :
    Calls Tryd.prog 6 #[.slice A l.length c, .slice B len cap] w fun e w' => e = .returned (.bool true) ∧ Below w.heap.size w w' := by
  have HR := Lib.hid (fun (X : World) (hX : Below w.heap.size w X) => Kind.row_below hr hX (Nat.le_refl _))
  have F1 := Lib.hid (fun (X : World) (hX : Below w.heap.size w X) => few11_any A c l X (HR.out X hX))
  have B0 := Lib.hid (Below.refl w.heap.size w)
  have HL := Lib.hid hlaid
  rw [hf1] at F1
  have hq1 := (pfew_iff.1 hf1).1
  have NB := Lib.hid (row_nil hx)
  obtain ⟨hy, hxl, hxb, hlc, hcm⟩ := hx.byt
  clear hr hlaid hx hf1
  generalize z0.take len = zs at *
  have HX := Lib.hid (fun (X : World) (hX : Below w.heap.size w X) => (Byt.below hy hX).wide hX.size)
  have XL := Lib.hid hxl
  have XB := Lib.hid hxb
  have C1 := Lib.hid (fun (X : World) (hX : Below w.heap.size w X) => put11_any A c l X (HR.out X hX) (by omega))
  have CM := Lib.hid (fun (X : World) (hX : Below w.heap.size w X) => may11_any A c l X (HR.out X hX) (by omega))
  have C3 := Lib.hid (fun (X : World) (hX : Below w.heap.size w X) => get11_any B len cap zs X (HX.out X hX) XL.out XB.out hlc hcm (by omega))
  obtain ⟨i0, hi, hz0, hz1, hz2⟩ := info_parts infoByte
  unfold DPutPost at C1
  unfold DGetPost at C3
  rw [hm] at CM
  rw [hO] at C3
  dsimp only at C3
  simp only [hm, Bool.false_eq_true, if_false] at C1
  clear hO hm
  clear hy hxl hxb
  go_enter Tryd.func6, Tryd.ntmps6
  go_wp2_with fail
  refine (dlAwake w HL.out).mono ?_
  rintro e w1 ⟨rfl, hb⟩
  have B1 := Lib.hid (B0.out.trans (hb.mono B0.out.size))
  clear hb
  go_wp2_with fail
  refine (F1.out _ B1.out).mono ?_
  rintro e w2 ⟨rfl, hb⟩
  have B2 := Lib.hid (B1.out.trans (hb.mono B1.out.size))
  clear hb
  go_wp2_with fail
  refine (C1.out _ B2.out).mono ?_
  rintro e w3 ⟨rfl, hb⟩
  have B3 := Lib.hid (B2.out.trans (hb.mono B2.out.size))
  clear hb
  go_wp2_with fail
  refine (CM.out _ B3.out).mono ?_
  rintro e w4 ⟨rfl, hb⟩
  have B4 := Lib.hid (B3.out.trans (hb.mono B3.out.size))
  clear hb
  go_wp2_with fail
  refine (C3.out _ B4.out).mono ?_
  rintro e w5 ⟨rfl, hb⟩
  have B5 := Lib.hid (B4.out.trans (hb.mono B4.out.size))
  clear hb
  go_wp2
  go_ret
  exact ⟨rfl, B5.out⟩
set_option maxHeartbeats 8000000 in
theorem back11_ny (A : Option Addr) (c : Nat) (l : List Pc) (B : Option Addr) (len cap : Nat) (z0 : List Int) (w : World) (hlaid : Laid w) (hr : KPc.row w A c l) (hx : IsRow .u8 w B len cap z0) (hf1 : pfew l = true) (t1 : ¬ (400 : Int) < (len : Int)) (L : List Pc) (a : Nat) (hm : pmay l = false) (hO : pget (z0.take len) = some (L, a)) :
    Calls Tryd.prog 6 #[.slice A l.length c, .slice B len cap] w fun e w' => e = .returned (.bool true) ∧ Below w.heap.size w w' := by
  have HR := Lib.hid (fun (X : World) (hX : Below w.heap.size w X) => Kind.row_below hr hX (Nat.le_refl _))
  have F1 := Lib.hid (fun (X : World) (hX : Below w.heap.size w X) => few11_any A c l X (HR.out X hX))
  have B0 := Lib.hid (Below.refl w.heap.size w)
  have HL := Lib.hid hlaid
  rw [hf1] at F1
  have hq1 := (pfew_iff.1 hf1).1
  have NB := Lib.hid (row_nil hx)
  obtain ⟨hy, hxl, hxb, hlc, hcm⟩ := hx.byt
  clear hr hlaid hx hf1
  generalize z0.take len = zs at *
  have HX := Lib.hid (fun (X : World) (hX : Below w.heap.size w X) => (Byt.below hy hX).wide hX.size)
  have XL := Lib.hid hxl
  have XB := Lib.hid hxb
  have C1 := Lib.hid (fun (X : World) (hX : Below w.heap.size w X) => put11_any A c l X (HR.out X hX) (by omega))
  have CM := Lib.hid (fun (X : World) (hX : Below w.heap.size w X) => may11_any A c l X (HR.out X hX) (by omega))
  have C3 := Lib.hid (fun (X : World) (hX : Below w.heap.size w X) => get11_any B len cap zs X (HX.out X hX) XL.out XB.out hlc hcm (by omega))
  obtain ⟨i0, hi, hz0, hz1, hz2⟩ := info_parts infoByte
  unfold DPutPost at C1
  unfold DGetPost at C3
  rw [hm] at CM
  rw [hO] at C3
  dsimp only at C3
  obtain ⟨g1, g2, g3⟩ := pget_got XB.out hO
  have hL60 := (pmay_iff.1 g1).2.1
  have C4 := fun A3 c3 (X : World) (hX : KPc.row X A3 c3 L) => put11_any A3 c3 L X hX (by omega)
  unfold DPutPost at C4
  rw [XL.out] at g3
  simp only [g1, if_true, g2] at C4
  have C4 := Lib.hid C4
  obtain ⟨F, cv, hF⟩ := cvt_ex
  have HF := Lib.hid hF
  have CV := Lib.hid cv
  have HN7 := Lib.hid (show (zs.take a).length = a by rw [List.length_take, XL.out]; omega)
  have HLE := Lib.hid (show decide ((a : Int) ≤ len) = true by simp; omega)
  have HSL := Lib.hid (sl_h B len cap a (by omega) (a : Int) rfl)
  clear g1 g2 cv hF
  simp only [hm, Bool.false_eq_true, if_false] at C1
  clear hO hm
  clear hy hxl hxb
  go_enter Tryd.func6, Tryd.ntmps6
  go_wp2_with fail
  refine (dlAwake w HL.out).mono ?_
  rintro e w1 ⟨rfl, hb⟩
  have B1 := Lib.hid (B0.out.trans (hb.mono B0.out.size))
  clear hb
  go_wp2_with fail
  refine (F1.out _ B1.out).mono ?_
  rintro e w2 ⟨rfl, hb⟩
  have B2 := Lib.hid (B1.out.trans (hb.mono B1.out.size))
  clear hb
  go_wp2_with fail
  refine (C1.out _ B2.out).mono ?_
  rintro e w3 ⟨rfl, hb⟩
  have B3 := Lib.hid (B2.out.trans (hb.mono B2.out.size))
  clear hb
  go_wp2_with fail
  refine (CM.out _ B3.out).mono ?_
  rintro e w4 ⟨rfl, hb⟩
  have B4 := Lib.hid (B3.out.trans (hb.mono B3.out.size))
  clear hb
  go_wp2_with fail
  refine (C3.out _ B4.out).mono ?_
  rintro e w5 ⟨A3, c3, rfl, hr3, hb⟩
  have B5 := Lib.hid (B4.out.trans (hb.mono B4.out.size))
  have R3 := Lib.hid hr3
  clear hb hr3
  go_wp2_with fail
  refine (C4.out A3 c3 _ R3.out).mono ?_
  rintro e w6 ⟨A4, n4, c4, rfl, hn4, hnc4, hcm4, ho4, hb⟩
  have B6 := Lib.hid (B5.out.trans (hb.mono B5.out.size))
  have HY6 := Lib.hid (Byt.own (zs := zs.take a) ho4)
  have HN6 := Lib.hid hn4
  have HY7 := Lib.hid ((HX.out _ B6.out).take a)
  clear hb hn4 ho4
  go_wp2_with fail
  have cv := CV.out
  refine wp_region_G w6 (by kernel_rfl) ?_
  refine wpG_take (i := 0) (oi := ⟨some 85, _, _, _, _, _⟩) (v := ?_) rfl (by kernel_rfl) (by kernel_rfl) (by kernel_rfl) (Or.inl ⟨by rfl, unib_val ?_⟩) ?_; rotate_left; (focus (intro w9 hSw; go_simp; try with_reducible rfl)); simp only [Act.put, List.setIfInBounds_toArray, List.set_cons_zero, List.set_cons_succ]
  refine wpG_take (i := 1) (oi := ⟨some 86, _, _, _, _, _⟩) (v := ?_) rfl (by kernel_rfl) (by kernel_rfl) (by kernel_rfl) (Or.inl ⟨by rfl, unib_val ?_⟩) ?_; rotate_left; (focus (intro w9 hSw; go_simp; try with_reducible rfl)); simp only [Act.put, List.setIfInBounds_toArray, List.set_cons_zero, List.set_cons_succ]
  refine wpG_take (i := 2) (oi := ⟨some 87, _, _, _, _, _⟩) (v := ?_) rfl (by kernel_rfl) (by kernel_rfl) (by kernel_rfl) (Or.inl ⟨by rfl, unib_val ?_⟩) ?_; rotate_left; (focus (intro w9 hSw; go_simp; try with_reducible rfl)); simp only [Act.put, List.setIfInBounds_toArray, List.set_cons_zero, List.set_cons_succ]
  refine wpG_take (i := 3) (oi := ⟨some 88, _, _, _, _, _⟩) (v := ?_) rfl (by kernel_rfl) (by kernel_rfl) (by kernel_rfl) (Or.inl ⟨by rfl, unib_val ?_⟩) ?_; rotate_left; (focus (intro w9 hSw; go_simp; try with_reducible rfl)); simp only [Act.put, List.setIfInBounds_toArray, List.set_cons_zero, List.set_cons_succ]
  refine wpG_take (i := 4) (oi := ⟨some 89, _, _, _, _, _⟩) (v := ?_) rfl (by kernel_rfl) (by kernel_rfl) (by kernel_rfl) (Or.inl ⟨by rfl, unib_val ?_⟩) ?_; rotate_left; (focus (intro w9 hSw; go_simp; try with_reducible rfl)); simp only [Act.put, List.setIfInBounds_toArray, List.set_cons_zero, List.set_cons_succ]
  refine wpG_take (i := 5) (oi := ⟨some 90, _, _, _, _, _⟩) (v := ?_) rfl (by kernel_rfl) (by kernel_rfl) (by kernel_rfl) (Or.inl ⟨by rfl, unib_val ?_⟩) ?_; rotate_left; (focus (intro w9 hSw; have s9 := HLE.out; go_simp; try with_reducible rfl)); simp only [Act.put, List.setIfInBounds_toArray, List.set_cons_zero, List.set_cons_succ]
  refine wpG_take (i := 6) (oi := ⟨some 91, _, _, _, _, _⟩) (v := ?_) rfl (by kernel_rfl) (by kernel_rfl) (by kernel_rfl) (Or.inl ⟨by rfl, unib_val ?_⟩) ?_; rotate_left; (focus (intro w9 hSw; go_simp; try with_reducible rfl)); simp only [Act.put, List.setIfInBounds_toArray, List.set_cons_zero, List.set_cons_succ]
  refine wpG_take (i := 7) (oi := ⟨some 92, _, _, _, _, _⟩) (v := ?_) rfl (by kernel_rfl) (by kernel_rfl) (by kernel_rfl) (Or.inl ⟨by rfl, unib_val ?_⟩) ?_; rotate_left; (focus (intro w9 hSw; go_simp; try with_reducible rfl)); simp only [Act.put, List.setIfInBounds_toArray, List.set_cons_zero, List.set_cons_succ]
  refine wpG_take (i := 8) (oi := ⟨some 93, _, _, _, _, _⟩) (v := ?_) rfl (by kernel_rfl) (by kernel_rfl) (by kernel_rfl) (Or.inl ⟨by rfl, unib_val ?_⟩) ?_; rotate_left; (focus (intro w9 hSw; go_simp; try with_reducible rfl)); simp only [Act.put, List.setIfInBounds_toArray, List.set_cons_zero, List.set_cons_succ]
  refine wpG_take (i := 9) (oi := ⟨some 94, _, _, _, _, _⟩) (v := ?_) rfl (by kernel_rfl) (by kernel_rfl) (by kernel_rfl) (Or.inl ⟨by rfl, unib_val ?_⟩) ?_; rotate_left; (focus (intro w9 hSw; have t9 := HF.out w9 _ _ _ (HY6.out.below hSw) n4 c4 HN6.out; go_simp; try with_reducible rfl)); simp only [Act.put, List.setIfInBounds_toArray, List.set_cons_zero, List.set_cons_succ]
  refine wpG_take (i := 10) (oi := ⟨some 95, _, _, _, _, _⟩) (v := ?_) rfl (by kernel_rfl) (by kernel_rfl) (by kernel_rfl) (Or.inl ⟨by rfl, unib_val ?_⟩) ?_; rotate_left; (focus (intro w9 hSw; go_simp; try with_reducible rfl)); simp only [Act.put, List.setIfInBounds_toArray, List.set_cons_zero, List.set_cons_succ]
  refine wpG_take (i := 11) (oi := ⟨some 96, _, _, _, _, _⟩) (v := ?_) rfl (by kernel_rfl) (by kernel_rfl) (by kernel_rfl) (Or.inl ⟨by rfl, unib_val ?_⟩) ?_; rotate_left; (focus (intro w9 hSw; go_simp; try with_reducible rfl)); simp only [Act.put, List.setIfInBounds_toArray, List.set_cons_zero, List.set_cons_succ]
  refine wpG_take (i := 12) (oi := ⟨some 97, _, _, _, _, _⟩) (v := ?_) rfl (by kernel_rfl) (by kernel_rfl) (by kernel_rfl) (Or.inl ⟨by rfl, unib_val ?_⟩) ?_; rotate_left; (focus (intro w9 hSw; have s9 := HSL.out w9; go_simp; try with_reducible rfl)); simp only [Act.put, List.setIfInBounds_toArray, List.set_cons_zero, List.set_cons_succ]
  refine wpG_take (i := 13) (oi := ⟨some 98, _, _, _, _, _⟩) (v := ?_) rfl (by kernel_rfl) (by kernel_rfl) (by kernel_rfl) (Or.inl ⟨by rfl, unib_val ?_⟩) ?_; rotate_left; (focus (intro w9 hSw; have t9 := HF.out w9 _ _ _ (HY7.out.below hSw) a cap HN7.out; go_simp; try with_reducible rfl)); simp only [Act.put, List.setIfInBounds_toArray, List.set_cons_zero, List.set_cons_succ]
  refine wpG_take (i := 14) (oi := ⟨some 99, _, _, _, _, _⟩) (v := ?_) rfl (by kernel_rfl) (by kernel_rfl) (by kernel_rfl) (Or.inl ⟨by rfl, unib_val ?_⟩) ?_; rotate_left; (focus (intro w9 hSw; go_simp; try with_reducible rfl)); simp only [Act.put, List.setIfInBounds_toArray, List.set_cons_zero, List.set_cons_succ]
  refine wpG_take (i := 15) (oi := ⟨some 100, _, _, _, _, _⟩) (v := ?_) rfl (by kernel_rfl) (by kernel_rfl) (by kernel_rfl) (Or.inl ⟨by rfl, unib_val ?_⟩) ?_; rotate_left; (focus (intro w9 hSw; go_simp; try with_reducible rfl)); simp only [Act.put, List.setIfInBounds_toArray, List.set_cons_zero, List.set_cons_succ]
  refine wpG_take (i := 16) (oi := ⟨some 4, _, _, _, _, _⟩) (v := ?_) rfl (by kernel_rfl) (by kernel_rfl) (by kernel_rfl) (Or.inl ⟨by rfl, unib_val ?_⟩) ?_; rotate_left; (focus (intro w9 hSw; go_simp; try with_reducible rfl)); simp only [Act.put, List.setIfInBounds_toArray, List.set_cons_zero, List.set_cons_succ]
  refine wpG_done (by kernel_rfl) ?_ _
  intro w9 hSw hO
  clear cv
  go_wp2
  go_ret
  exact ⟨rfl, B6.out.trans (hSw.mono B6.out.size)⟩
set_option maxHeartbeats 8000000 in
theorem back11_yn (A : Option Addr) (c : Nat) (l : List Pc) (B : Option Addr) (len cap : Nat) (z0 : List Int) (w : World) (hlaid : Laid w) (hr : KPc.row w A c l) (hx : IsRow .u8 w B len cap z0) (hf1 : pfew l = true) (t1 : ¬ (400 : Int) < (len : Int)) (hm : pmay l = true) (hO : pget (z0.take len) = none) :
    Calls Tryd.prog 6 #[.slice A l.length c, .slice B len cap] w fun e w' => e = .returned (.bool true) ∧ Below w.heap.size w w' := by
  have HR := Lib.hid (fun (X : World) (hX : Below w.heap.size w X) => Kind.row_below hr hX (Nat.le_refl _))
  have F1 := Lib.hid (fun (X : World) (hX : Below w.heap.size w X) => few11_any A c l X (HR.out X hX))
  have B0 := Lib.hid (Below.refl w.heap.size w)
  have HL := Lib.hid hlaid
  rw [hf1] at F1
  have hq1 := (pfew_iff.1 hf1).1
  have NB := Lib.hid (row_nil hx)
  obtain ⟨hy, hxl, hxb, hlc, hcm⟩ := hx.byt
  clear hr hlaid hx hf1
  generalize z0.take len = zs at *
  have HX := Lib.hid (fun (X : World) (hX : Below w.heap.size w X) => (Byt.below hy hX).wide hX.size)
  have XL := Lib.hid hxl
  have XB := Lib.hid hxb
  have C1 := Lib.hid (fun (X : World) (hX : Below w.heap.size w X) => put11_any A c l X (HR.out X hX) (by omega))
  have CM := Lib.hid (fun (X : World) (hX : Below w.heap.size w X) => may11_any A c l X (HR.out X hX) (by omega))
  have C3 := Lib.hid (fun (X : World) (hX : Below w.heap.size w X) => get11_any B len cap zs X (HX.out X hX) XL.out XB.out hlc hcm (by omega))
  obtain ⟨i0, hi, hz0, hz1, hz2⟩ := info_parts infoByte
  unfold DPutPost at C1
  unfold DGetPost at C3
  rw [hm] at CM
  rw [hO] at C3
  dsimp only at C3
  have C5 := fun A6 n6 c6 (X : World) (h : Byt X X.heap.size A6 (pputB l ++ zs)) (hn : (pputB l ++ zs).length = n6) hnc hcm hl => get11_any A6 n6 c6 (pputB l ++ zs) X h hn (all_append (pputB_bytes l) XB.out) hnc hcm hl
  unfold DGetPost at C5
  rw [pget_put zs hm] at C5
  dsimp only at C5
  have C5 := Lib.hid C5
  have C7 := fun A7 c7 (X : World) (hX : Below w.heap.size w X) (h : KPc.row X A7 c7 l) => same11_any A7 A c7 c l l X h (HR.out X hX) (by omega)
  rw [decide_eq_true (rfl : l = l)] at C7
  have C7 := Lib.hid C7
  have HZL := Lib.hid (pputB_len hm)
  simp only [hm, if_true] at C1
  clear hO hm
  generalize pputB l = Z at *
  clear hy hxl hxb
  go_enter Tryd.func6, Tryd.ntmps6
  go_wp2_with fail
  refine (dlAwake w HL.out).mono ?_
  rintro e w1 ⟨rfl, hb⟩
  have B1 := Lib.hid (B0.out.trans (hb.mono B0.out.size))
  clear hb
  go_wp2_with fail
  refine (F1.out _ B1.out).mono ?_
  rintro e w2 ⟨rfl, hb⟩
  have B2 := Lib.hid (B1.out.trans (hb.mono B1.out.size))
  clear hb
  go_wp2_with fail
  refine (C1.out _ B2.out).mono ?_
  rintro e w3 ⟨A1, n1, c1, rfl, hn1, hc1, hm1, ho1, hb⟩
  have B3 := Lib.hid (B2.out.trans (hb.mono B2.out.size))
  have Y1 := Lib.hid (Byt.own (zs := Z) ho1)
  have N1 := Lib.hid hn1
  have hnil1 := Lib.hid (own_nil ho1)
  clear hb ho1 hn1
  simp only [maxLen] at hm1
  go_wp2_with fail
  refine (CM.out _ B3.out).mono ?_
  rintro e w4 ⟨rfl, hb⟩
  have B4 := Lib.hid (B3.out.trans (hb.mono B3.out.size))
  have Y1 := Lib.hid (Y1.out.below hb)
  clear hb
  have hn9 : n1 ≤ 20000 := by rw [← N1.out]; exact HZL.out
  go_wp2_with (first
    | (at_builtin; refine wpList_append_byt (o := ⟨some 44, _, _, _, _, _⟩) _ rfl _ _ 31 rfl w.heap.size 5 i0 Tryd.underlying31 hi hz0 hz1 hz2 _ 0 [] rfl (World.ownsRow_nil _ _ _ _) w3.heap.size A1 n1 c1 Z rfl Y1.out N1.out hnil1.out (by omega) B4.out.size ?_; intro v5 w5 ho5 hg5; rw [Nat.zero_add, List.nil_append] at ho5; have B5 := Lib.hid (B4.out.grown hg5 B4.out.size (fun g hg => by cases hg)); clear hg5)
    | (at_builtin; refine wpList_append_byt (o := ⟨some 46, _, _, _, _, _⟩) _ rfl _ _ 31 rfl w.heap.size 5 i0 Tryd.underlying31 hi hz0 hz1 hz2 _ n1 Z rfl ho5 w5.heap.size B len cap zs rfl (HX.out _ B5.out) XL.out NB.out (by omega) B5.out.size ?_; intro v6 w6 ho6 hg6; have B6 := Lib.hid (B5.out.grown hg6 B5.out.size (fun g hg => own_base ho5 hg)); obtain ⟨A6, n6, c6, hv6, hn6, hnc6, hcm6, ho6', _⟩ := gives_own (w := w) ho6 B6.out; injection hv6 with hv6; subst hv6; have C6 := Lib.hid (C5.out A6 n6 c6 w6 (Byt.own ho6') hn6 hnc6 hcm6 (by rw [← hn6, List.length_append, N1.out, XL.out]; omega)); rw [N1.out] at C6; clear ho6 ho6' hg6 ho5 hn6; simp only [maxLen] at hcm6))
  refine (C6.out).mono ?_
  rintro e w7 ⟨A7, c7, rfl, hr7, hb⟩
  have B7 := Lib.hid (B6.out.trans (hb.mono B6.out.size))
  have R7 := Lib.hid hr7
  clear hb hr7
  go_wp2_with fail
  refine (C7.out A7 c7 _ B7.out R7.out).mono ?_
  rintro e w8 ⟨rfl, hb⟩
  have B8 := Lib.hid (B7.out.trans (hb.mono B7.out.size))
  clear hb
  go_wp2_with fail
  refine (C3.out _ B8.out).mono ?_
  rintro e w9 ⟨rfl, hb⟩
  have B9 := Lib.hid (B8.out.trans (hb.mono B8.out.size))
  clear hb
  go_wp2
  go_ret
  exact ⟨rfl, B9.out⟩
set_option maxHeartbeats 8000000 in
theorem back11_yy (A : Option Addr) (c : Nat) (l : List Pc) (B : Option Addr) (len cap : Nat) (z0 : List Int) (w : World) (hlaid : Laid w) (hr : KPc.row w A c l) (hx : IsRow .u8 w B len cap z0) (hf1 : pfew l = true) (t1 : ¬ (400 : Int) < (len : Int)) (L : List Pc) (a : Nat) (hm : pmay l = true) (hO : pget (z0.take len) = some (L, a)) :
    Calls Tryd.prog 6 #[.slice A l.length c, .slice B len cap] w fun e w' => e = .returned (.bool true) ∧ Below w.heap.size w w' := by
  have HR := Lib.hid (fun (X : World) (hX : Below w.heap.size w X) => Kind.row_below hr hX (Nat.le_refl _))
  have F1 := Lib.hid (fun (X : World) (hX : Below w.heap.size w X) => few11_any A c l X (HR.out X hX))
  have B0 := Lib.hid (Below.refl w.heap.size w)
  have HL := Lib.hid hlaid
  rw [hf1] at F1
  have hq1 := (pfew_iff.1 hf1).1
  have NB := Lib.hid (row_nil hx)
  obtain ⟨hy, hxl, hxb, hlc, hcm⟩ := hx.byt
  clear hr hlaid hx hf1
  generalize z0.take len = zs at *
  have HX := Lib.hid (fun (X : World) (hX : Below w.heap.size w X) => (Byt.below hy hX).wide hX.size)
  have XL := Lib.hid hxl
  have XB := Lib.hid hxb
  have C1 := Lib.hid (fun (X : World) (hX : Below w.heap.size w X) => put11_any A c l X (HR.out X hX) (by omega))
  have CM := Lib.hid (fun (X : World) (hX : Below w.heap.size w X) => may11_any A c l X (HR.out X hX) (by omega))
  have C3 := Lib.hid (fun (X : World) (hX : Below w.heap.size w X) => get11_any B len cap zs X (HX.out X hX) XL.out XB.out hlc hcm (by omega))
  obtain ⟨i0, hi, hz0, hz1, hz2⟩ := info_parts infoByte
  unfold DPutPost at C1
  unfold DGetPost at C3
  rw [hm] at CM
  rw [hO] at C3
  dsimp only at C3
  obtain ⟨g1, g2, g3⟩ := pget_got XB.out hO
  have hL60 := (pmay_iff.1 g1).2.1
  have C4 := fun A3 c3 (X : World) (hX : KPc.row X A3 c3 L) => put11_any A3 c3 L X hX (by omega)
  unfold DPutPost at C4
  rw [XL.out] at g3
  simp only [g1, if_true, g2] at C4
  have C4 := Lib.hid C4
  obtain ⟨F, cv, hF⟩ := cvt_ex
  have HF := Lib.hid hF
  have CV := Lib.hid cv
  have HN7 := Lib.hid (show (zs.take a).length = a by rw [List.length_take, XL.out]; omega)
  have HLE := Lib.hid (show decide ((a : Int) ≤ len) = true by simp; omega)
  have HSL := Lib.hid (sl_h B len cap a (by omega) (a : Int) rfl)
  clear g1 g2 cv hF
  have C5 := fun A6 n6 c6 (X : World) (h : Byt X X.heap.size A6 (pputB l ++ zs)) (hn : (pputB l ++ zs).length = n6) hnc hcm hl => get11_any A6 n6 c6 (pputB l ++ zs) X h hn (all_append (pputB_bytes l) XB.out) hnc hcm hl
  unfold DGetPost at C5
  rw [pget_put zs hm] at C5
  dsimp only at C5
  have C5 := Lib.hid C5
  have C7 := fun A7 c7 (X : World) (hX : Below w.heap.size w X) (h : KPc.row X A7 c7 l) => same11_any A7 A c7 c l l X h (HR.out X hX) (by omega)
  rw [decide_eq_true (rfl : l = l)] at C7
  have C7 := Lib.hid C7
  have HZL := Lib.hid (pputB_len hm)
  simp only [hm, if_true] at C1
  clear hO hm
  generalize pputB l = Z at *
  clear hy hxl hxb
  go_enter Tryd.func6, Tryd.ntmps6
  go_wp2_with fail
  refine (dlAwake w HL.out).mono ?_
  rintro e w1 ⟨rfl, hb⟩
  have B1 := Lib.hid (B0.out.trans (hb.mono B0.out.size))
  clear hb
  go_wp2_with fail
  refine (F1.out _ B1.out).mono ?_
  rintro e w2 ⟨rfl, hb⟩
  have B2 := Lib.hid (B1.out.trans (hb.mono B1.out.size))
  clear hb
  go_wp2_with fail
  refine (C1.out _ B2.out).mono ?_
  rintro e w3 ⟨A1, n1, c1, rfl, hn1, hc1, hm1, ho1, hb⟩
  have B3 := Lib.hid (B2.out.trans (hb.mono B2.out.size))
  have Y1 := Lib.hid (Byt.own (zs := Z) ho1)
  have N1 := Lib.hid hn1
  have hnil1 := Lib.hid (own_nil ho1)
  clear hb ho1 hn1
  simp only [maxLen] at hm1
  go_wp2_with fail
  refine (CM.out _ B3.out).mono ?_
  rintro e w4 ⟨rfl, hb⟩
  have B4 := Lib.hid (B3.out.trans (hb.mono B3.out.size))
  have Y1 := Lib.hid (Y1.out.below hb)
  clear hb
  have hn9 : n1 ≤ 20000 := by rw [← N1.out]; exact HZL.out
  go_wp2_with (first
    | (at_builtin; refine wpList_append_byt (o := ⟨some 44, _, _, _, _, _⟩) _ rfl _ _ 31 rfl w.heap.size 5 i0 Tryd.underlying31 hi hz0 hz1 hz2 _ 0 [] rfl (World.ownsRow_nil _ _ _ _) w3.heap.size A1 n1 c1 Z rfl Y1.out N1.out hnil1.out (by omega) B4.out.size ?_; intro v5 w5 ho5 hg5; rw [Nat.zero_add, List.nil_append] at ho5; have B5 := Lib.hid (B4.out.grown hg5 B4.out.size (fun g hg => by cases hg)); clear hg5)
    | (at_builtin; refine wpList_append_byt (o := ⟨some 46, _, _, _, _, _⟩) _ rfl _ _ 31 rfl w.heap.size 5 i0 Tryd.underlying31 hi hz0 hz1 hz2 _ n1 Z rfl ho5 w5.heap.size B len cap zs rfl (HX.out _ B5.out) XL.out NB.out (by omega) B5.out.size ?_; intro v6 w6 ho6 hg6; have B6 := Lib.hid (B5.out.grown hg6 B5.out.size (fun g hg => own_base ho5 hg)); obtain ⟨A6, n6, c6, hv6, hn6, hnc6, hcm6, ho6', _⟩ := gives_own (w := w) ho6 B6.out; injection hv6 with hv6; subst hv6; have C6 := Lib.hid (C5.out A6 n6 c6 w6 (Byt.own ho6') hn6 hnc6 hcm6 (by rw [← hn6, List.length_append, N1.out, XL.out]; omega)); rw [N1.out] at C6; clear ho6 ho6' hg6 ho5 hn6; simp only [maxLen] at hcm6))
  refine (C6.out).mono ?_
  rintro e w7 ⟨A7, c7, rfl, hr7, hb⟩
  have B7 := Lib.hid (B6.out.trans (hb.mono B6.out.size))
  have R7 := Lib.hid hr7
  clear hb hr7
  go_wp2_with fail
  refine (C7.out A7 c7 _ B7.out R7.out).mono ?_
  rintro e w8 ⟨rfl, hb⟩
  have B8 := Lib.hid (B7.out.trans (hb.mono B7.out.size))
  clear hb
  go_wp2_with fail
  refine (C3.out _ B8.out).mono ?_
  rintro e w9 ⟨A3, c3, rfl, hr3, hb⟩
  have B9 := Lib.hid (B8.out.trans (hb.mono B8.out.size))
  have R3 := Lib.hid hr3
  clear hb hr3
  go_wp2_with fail
  refine (C4.out A3 c3 _ R3.out).mono ?_
  rintro e w10 ⟨A4, n4, c4, rfl, hn4, hnc4, hcm4, ho4, hb⟩
  have B10 := Lib.hid (B9.out.trans (hb.mono B9.out.size))
  have HY6 := Lib.hid (Byt.own (zs := zs.take a) ho4)
  have HN6 := Lib.hid hn4
  have HY7 := Lib.hid ((HX.out _ B10.out).take a)
  clear hb hn4 ho4
  go_wp2_with fail
  have cv := CV.out
  refine wp_region_G w10 (by kernel_rfl) ?_
  refine wpG_take (i := 0) (oi := ⟨some 85, _, _, _, _, _⟩) (v := ?_) rfl (by kernel_rfl) (by kernel_rfl) (by kernel_rfl) (Or.inl ⟨by rfl, unib_val ?_⟩) ?_; rotate_left; (focus (intro w9 hSw; go_simp; try with_reducible rfl)); simp only [Act.put, List.setIfInBounds_toArray, List.set_cons_zero, List.set_cons_succ]
  refine wpG_take (i := 1) (oi := ⟨some 86, _, _, _, _, _⟩) (v := ?_) rfl (by kernel_rfl) (by kernel_rfl) (by kernel_rfl) (Or.inl ⟨by rfl, unib_val ?_⟩) ?_; rotate_left; (focus (intro w9 hSw; go_simp; try with_reducible rfl)); simp only [Act.put, List.setIfInBounds_toArray, List.set_cons_zero, List.set_cons_succ]
  refine wpG_take (i := 2) (oi := ⟨some 87, _, _, _, _, _⟩) (v := ?_) rfl (by kernel_rfl) (by kernel_rfl) (by kernel_rfl) (Or.inl ⟨by rfl, unib_val ?_⟩) ?_; rotate_left; (focus (intro w9 hSw; go_simp; try with_reducible rfl)); simp only [Act.put, List.setIfInBounds_toArray, List.set_cons_zero, List.set_cons_succ]
  refine wpG_take (i := 3) (oi := ⟨some 88, _, _, _, _, _⟩) (v := ?_) rfl (by kernel_rfl) (by kernel_rfl) (by kernel_rfl) (Or.inl ⟨by rfl, unib_val ?_⟩) ?_; rotate_left; (focus (intro w9 hSw; go_simp; try with_reducible rfl)); simp only [Act.put, List.setIfInBounds_toArray, List.set_cons_zero, List.set_cons_succ]
  refine wpG_take (i := 4) (oi := ⟨some 89, _, _, _, _, _⟩) (v := ?_) rfl (by kernel_rfl) (by kernel_rfl) (by kernel_rfl) (Or.inl ⟨by rfl, unib_val ?_⟩) ?_; rotate_left; (focus (intro w9 hSw; go_simp; try with_reducible rfl)); simp only [Act.put, List.setIfInBounds_toArray, List.set_cons_zero, List.set_cons_succ]
  refine wpG_take (i := 5) (oi := ⟨some 90, _, _, _, _, _⟩) (v := ?_) rfl (by kernel_rfl) (by kernel_rfl) (by kernel_rfl) (Or.inl ⟨by rfl, unib_val ?_⟩) ?_; rotate_left; (focus (intro w9 hSw; have s9 := HLE.out; go_simp; try with_reducible rfl)); simp only [Act.put, List.setIfInBounds_toArray, List.set_cons_zero, List.set_cons_succ]
  refine wpG_take (i := 6) (oi := ⟨some 91, _, _, _, _, _⟩) (v := ?_) rfl (by kernel_rfl) (by kernel_rfl) (by kernel_rfl) (Or.inl ⟨by rfl, unib_val ?_⟩) ?_; rotate_left; (focus (intro w9 hSw; go_simp; try with_reducible rfl)); simp only [Act.put, List.setIfInBounds_toArray, List.set_cons_zero, List.set_cons_succ]
  refine wpG_take (i := 7) (oi := ⟨some 92, _, _, _, _, _⟩) (v := ?_) rfl (by kernel_rfl) (by kernel_rfl) (by kernel_rfl) (Or.inl ⟨by rfl, unib_val ?_⟩) ?_; rotate_left; (focus (intro w9 hSw; go_simp; try with_reducible rfl)); simp only [Act.put, List.setIfInBounds_toArray, List.set_cons_zero, List.set_cons_succ]
  refine wpG_take (i := 8) (oi := ⟨some 93, _, _, _, _, _⟩) (v := ?_) rfl (by kernel_rfl) (by kernel_rfl) (by kernel_rfl) (Or.inl ⟨by rfl, unib_val ?_⟩) ?_; rotate_left; (focus (intro w9 hSw; go_simp; try with_reducible rfl)); simp only [Act.put, List.setIfInBounds_toArray, List.set_cons_zero, List.set_cons_succ]
  refine wpG_take (i := 9) (oi := ⟨some 94, _, _, _, _, _⟩) (v := ?_) rfl (by kernel_rfl) (by kernel_rfl) (by kernel_rfl) (Or.inl ⟨by rfl, unib_val ?_⟩) ?_; rotate_left; (focus (intro w9 hSw; have t9 := HF.out w9 _ _ _ (HY6.out.below hSw) n4 c4 HN6.out; go_simp; try with_reducible rfl)); simp only [Act.put, List.setIfInBounds_toArray, List.set_cons_zero, List.set_cons_succ]
  refine wpG_take (i := 10) (oi := ⟨some 95, _, _, _, _, _⟩) (v := ?_) rfl (by kernel_rfl) (by kernel_rfl) (by kernel_rfl) (Or.inl ⟨by rfl, unib_val ?_⟩) ?_; rotate_left; (focus (intro w9 hSw; go_simp; try with_reducible rfl)); simp only [Act.put, List.setIfInBounds_toArray, List.set_cons_zero, List.set_cons_succ]
  refine wpG_take (i := 11) (oi := ⟨some 96, _, _, _, _, _⟩) (v := ?_) rfl (by kernel_rfl) (by kernel_rfl) (by kernel_rfl) (Or.inl ⟨by rfl, unib_val ?_⟩) ?_; rotate_left; (focus (intro w9 hSw; go_simp; try with_reducible rfl)); simp only [Act.put, List.setIfInBounds_toArray, List.set_cons_zero, List.set_cons_succ]
  refine wpG_take (i := 12) (oi := ⟨some 97, _, _, _, _, _⟩) (v := ?_) rfl (by kernel_rfl) (by kernel_rfl) (by kernel_rfl) (Or.inl ⟨by rfl, unib_val ?_⟩) ?_; rotate_left; (focus (intro w9 hSw; have s9 := HSL.out w9; go_simp; try with_reducible rfl)); simp only [Act.put, List.setIfInBounds_toArray, List.set_cons_zero, List.set_cons_succ]
  refine wpG_take (i := 13) (oi := ⟨some 98, _, _, _, _, _⟩) (v := ?_) rfl (by kernel_rfl) (by kernel_rfl) (by kernel_rfl) (Or.inl ⟨by rfl, unib_val ?_⟩) ?_; rotate_left; (focus (intro w9 hSw; have t9 := HF.out w9 _ _ _ (HY7.out.below hSw) a cap HN7.out; go_simp; try with_reducible rfl)); simp only [Act.put, List.setIfInBounds_toArray, List.set_cons_zero, List.set_cons_succ]
  refine wpG_take (i := 14) (oi := ⟨some 99, _, _, _, _, _⟩) (v := ?_) rfl (by kernel_rfl) (by kernel_rfl) (by kernel_rfl) (Or.inl ⟨by rfl, unib_val ?_⟩) ?_; rotate_left; (focus (intro w9 hSw; go_simp; try with_reducible rfl)); simp only [Act.put, List.setIfInBounds_toArray, List.set_cons_zero, List.set_cons_succ]
  refine wpG_take (i := 15) (oi := ⟨some 100, _, _, _, _, _⟩) (v := ?_) rfl (by kernel_rfl) (by kernel_rfl) (by kernel_rfl) (Or.inl ⟨by rfl, unib_val ?_⟩) ?_; rotate_left; (focus (intro w9 hSw; go_simp; try with_reducible rfl)); simp only [Act.put, List.setIfInBounds_toArray, List.set_cons_zero, List.set_cons_succ]
  refine wpG_take (i := 16) (oi := ⟨some 4, _, _, _, _, _⟩) (v := ?_) rfl (by kernel_rfl) (by kernel_rfl) (by kernel_rfl) (Or.inl ⟨by rfl, unib_val ?_⟩) ?_; rotate_left; (focus (intro w9 hSw; go_simp; try with_reducible rfl)); simp only [Act.put, List.setIfInBounds_toArray, List.set_cons_zero, List.set_cons_succ]
  refine wpG_done (by kernel_rfl) ?_ _
  intro w9 hSw hO
  clear cv
  go_wp2
  go_ret
  exact ⟨rfl, B10.out.trans (hSw.mono B10.out.size)⟩
theorem walk_deltaBack (A : Option Addr) (n0 c : Nat) (l : List Pc) (B : Option Addr) (len cap : Nat) (zs : List Int) (w : World) (hlaid : Laid w) (hl : l.length = n0) (hr : KPc.row w A c l) (hx : IsRow .u8 w B len cap zs) :
    Calls Tryd.prog 6 #[.slice A n0 c, .slice B len cap] w fun e w' => e = .returned (.bool true) ∧ Below w.heap.size w w' := by
  subst hl
  cases hf1 : pfew l
  · exact back11_few A c l B len cap zs w hlaid hr hx hf1
  by_cases t1 : (400 : Int) < (len : Int)
  · exact back11_long A c l B len cap zs w hlaid hr hx hf1 t1
  cases hm : pmay l <;> cases hO : pget (zs.take len) with
  | none => first | exact back11_nn A c l B len cap zs w hlaid hr hx hf1 t1 hm hO | exact back11_yn A c l B len cap zs w hlaid hr hx hf1 t1 hm hO
  | some x => obtain ⟨L, a⟩ := x; first | exact back11_ny A c l B len cap zs w hlaid hr hx hf1 t1 L a hm hO | exact back11_yy A c l B len cap zs w hlaid hr hx hf1 t1 L a hm hO
end Go.Proofs.YtnencoainacpoaaDoor

