import Derived.Test.YtnencoainacpoaaDoorDlAwake
import Derived.Test.YtnencoainacpoaaDoorDlProg
import Derived.Test.YtnencoainacpoaaDoorGDlM
/-
  The law DeltaParts: for every value and lists of pieces it answers true, and nothing that was there is written. Nothing that was there is written.
-/
namespace Go.Proofs.YtnencoainacpoaaDoor
open Go.RowKit WM
set_option linter.unusedVariables false
set_option maxRecDepth 100000
theorem own_row11 {w : World} {base : Nat} {v : Value} {l : List Pc} (h : w.ownsRow base 44 KPc.n v l.length (l.flatMap KPc.cs)) (hk : ∀ p ∈ l, p.Ok) : ∃ A c, v = .slice A l.length c ∧ KPc.row w A c l := by
  obtain ⟨A, c, rfl⟩ := own_pcs h
  exact ⟨A, c, rfl, Kind.row_own h hk⟩
theorem papply_le {base : ByteArray} {l : List Pc} {x : ByteArray} (h : papply base l = some x) : x.size ≤ 200 := by
  obtain ⟨h1, h2⟩ := papply_some h
  have h3 := pap_size base l _ x (by have := (pmay_iff.1 h1).1; rw [List.all_eq_true]; exact this) h2
  have h4 := (pmay_iff.1 h1).2.2
  have h5 : (⟨#[]⟩ : ByteArray).size = 0 := rfl
  omega
set_option maxHeartbeats 8000000 in
theorem parts_few1 (base : ByteArray) (A : Option Addr) (c : Nat) (l : List Pc) (E : Option Addr) (g : Nat) (m : List Pc) (w : World) (hlaid : Laid w) (hbs : base.size ≤ maxLen) (hr : KPc.row w A c l) (hr2 : KPc.row w E g m) (hf1 : pfew l = false) :
    Calls Tryd.prog 7 #[.string base, .slice A l.length c, .slice E m.length g] w fun e w' => e = .returned (.bool true) ∧ Below w.heap.size w w' := by
  have B0 := Lib.hid (Below.refl w.heap.size w)
  have HL := Lib.hid hlaid
  have HR := Lib.hid (fun (X : World) (hX : Below w.heap.size w X) => Kind.row_below hr hX (Nat.le_refl _))
  have HR2 := Lib.hid (fun (X : World) (hX : Below w.heap.size w X) => Kind.row_below hr2 hX (Nat.le_refl _))
  have F1 := Lib.hid (fun (X : World) (hX : Below w.heap.size w X) => few11_any A c l X (HR.out X hX))
  have F2 := Lib.hid (fun (X : World) (hX : Below w.heap.size w X) => few11_any E g m X (HR2.out X hX))
  clear hr hr2 hlaid hbs
  rw [hf1] at F1
  clear hf1
  generalize pfew m = V2 at *
  go_enter Tryd.func7, Tryd.ntmps7
  go_wp2_with fail
  refine (dlAwake w HL.out).mono ?_
  rintro e w1 ⟨rfl, hb⟩
  have B1 := Lib.hid (B0.out.trans (hb.mono B0.out.size))
  clear hb
  go_wp2_with fail
  refine (F1.out _ B1.out).mono ?_
  rintro e w2 ⟨rfl, hb⟩
  have B2 := Lib.hid (B1.out.trans (hb.mono B1.out.size))
  clear hb
  go_wp2_with fail
  refine (F2.out _ B2.out).mono ?_
  rintro e w3 ⟨rfl, hb⟩
  have B3 := Lib.hid (B2.out.trans (hb.mono B2.out.size))
  clear hb
  go_wp2
  go_ret
  exact ⟨rfl, B3.out⟩
set_option maxHeartbeats 8000000 in
theorem parts_few2 (base : ByteArray) (A : Option Addr) (c : Nat) (l : List Pc) (E : Option Addr) (g : Nat) (m : List Pc) (w : World) (hlaid : Laid w) (hbs : base.size ≤ maxLen) (hr : KPc.row w A c l) (hr2 : KPc.row w E g m) (hf1 : pfew l = true) (hf2 : pfew m = false) :
    Calls Tryd.prog 7 #[.string base, .slice A l.length c, .slice E m.length g] w fun e w' => e = .returned (.bool true) ∧ Below w.heap.size w w' := by
  have B0 := Lib.hid (Below.refl w.heap.size w)
  have HL := Lib.hid hlaid
  have HR := Lib.hid (fun (X : World) (hX : Below w.heap.size w X) => Kind.row_below hr hX (Nat.le_refl _))
  have HR2 := Lib.hid (fun (X : World) (hX : Below w.heap.size w X) => Kind.row_below hr2 hX (Nat.le_refl _))
  have F1 := Lib.hid (fun (X : World) (hX : Below w.heap.size w X) => few11_any A c l X (HR.out X hX))
  have F2 := Lib.hid (fun (X : World) (hX : Below w.heap.size w X) => few11_any E g m X (HR2.out X hX))
  clear hr hr2 hlaid hbs
  rw [hf1] at F1
  rw [hf2] at F2
  clear hf1 hf2
  go_enter Tryd.func7, Tryd.ntmps7
  go_wp2_with fail
  refine (dlAwake w HL.out).mono ?_
  rintro e w1 ⟨rfl, hb⟩
  have B1 := Lib.hid (B0.out.trans (hb.mono B0.out.size))
  clear hb
  go_wp2_with fail
  refine (F1.out _ B1.out).mono ?_
  rintro e w2 ⟨rfl, hb⟩
  have B2 := Lib.hid (B1.out.trans (hb.mono B1.out.size))
  clear hb
  go_wp2_with fail
  refine (F2.out _ B2.out).mono ?_
  rintro e w3 ⟨rfl, hb⟩
  have B3 := Lib.hid (B2.out.trans (hb.mono B2.out.size))
  clear hb
  go_wp2
  go_ret
  exact ⟨rfl, B3.out⟩
set_option maxHeartbeats 8000000 in
theorem parts_long (base : ByteArray) (A : Option Addr) (c : Nat) (l : List Pc) (E : Option Addr) (g : Nat) (m : List Pc) (w : World) (hlaid : Laid w) (hbs : base.size ≤ maxLen) (hr : KPc.row w A c l) (hr2 : KPc.row w E g m) (hf1 : pfew l = true) (hf2 : pfew m = true) (t1 : (300 : Int) < (base.size : Int)) :
    Calls Tryd.prog 7 #[.string base, .slice A l.length c, .slice E m.length g] w fun e w' => e = .returned (.bool true) ∧ Below w.heap.size w w' := by
  have B0 := Lib.hid (Below.refl w.heap.size w)
  have HL := Lib.hid hlaid
  have HR := Lib.hid (fun (X : World) (hX : Below w.heap.size w X) => Kind.row_below hr hX (Nat.le_refl _))
  have HR2 := Lib.hid (fun (X : World) (hX : Below w.heap.size w X) => Kind.row_below hr2 hX (Nat.le_refl _))
  have F1 := Lib.hid (fun (X : World) (hX : Below w.heap.size w X) => few11_any A c l X (HR.out X hX))
  have F2 := Lib.hid (fun (X : World) (hX : Below w.heap.size w X) => few11_any E g m X (HR2.out X hX))
  clear hr hr2 hlaid hbs
  rw [hf1] at F1
  rw [hf2] at F2
  clear hf1 hf2
  go_enter Tryd.func7, Tryd.ntmps7
  go_wp2_with fail
  refine (dlAwake w HL.out).mono ?_
  rintro e w1 ⟨rfl, hb⟩
  have B1 := Lib.hid (B0.out.trans (hb.mono B0.out.size))
  clear hb
  go_wp2_with fail
  refine (F1.out _ B1.out).mono ?_
  rintro e w2 ⟨rfl, hb⟩
  have B2 := Lib.hid (B1.out.trans (hb.mono B1.out.size))
  clear hb
  go_wp2_with fail
  refine (F2.out _ B2.out).mono ?_
  rintro e w3 ⟨rfl, hb⟩
  have B3 := Lib.hid (B2.out.trans (hb.mono B2.out.size))
  clear hb
  go_wp2
  go_ret
  exact ⟨rfl, B3.out⟩
set_option maxHeartbeats 8000000 in
theorem parts_nn (base : ByteArray) (A : Option Addr) (c : Nat) (l : List Pc) (E : Option Addr) (g : Nat) (m : List Pc) (w : World) (hlaid : Laid w) (hbs : base.size ≤ maxLen) (hr : KPc.row w A c l) (hr2 : KPc.row w E g m) (hf1 : pfew l = true) (hf2 : pfew m = true) (t1 : ¬ (300 : Int) < (base.size : Int)) (hA : papply base l = none) (hB : papply base m = none) :
    Calls Tryd.prog 7 #[.string base, .slice A l.length c, .slice E m.length g] w fun e w' => e = .returned (.bool true) ∧ Below w.heap.size w w' := by
  have B0 := Lib.hid (Below.refl w.heap.size w)
  have HL := Lib.hid hlaid
  have HR := Lib.hid (fun (X : World) (hX : Below w.heap.size w X) => Kind.row_below hr hX (Nat.le_refl _))
  have HR2 := Lib.hid (fun (X : World) (hX : Below w.heap.size w X) => Kind.row_below hr2 hX (Nat.le_refl _))
  have F1 := Lib.hid (fun (X : World) (hX : Below w.heap.size w X) => few11_any A c l X (HR.out X hX))
  have F2 := Lib.hid (fun (X : World) (hX : Below w.heap.size w X) => few11_any E g m X (HR2.out X hX))
  have HOK : Hid (∀ p ∈ l ++ m, p.Ok) := Lib.hid (fun p hp => by
    rcases List.mem_append.1 hp with h | h
    · exact hr.2.2.2.2 p h
    · exact hr2.2.2.2.2 p h)
  have HBS := Lib.hid hbs
  clear hr hr2 hlaid hbs
  have hq1 := (pfew_iff.1 hf1).1
  have hq2 := (pfew_iff.1 hf2).1
  rw [hf1] at F1
  rw [hf2] at F2
  clear hf1 hf2
  have NL : Hid (0 + l.length ≤ 10000000) := Lib.hid (by omega)
  have NM : Hid (0 + l.length + m.length ≤ 10000000) := Lib.hid (by omega)
  have C1 := Lib.hid (fun (X : World) (hX : Below w.heap.size w X) => apply11_any base A c l X (HR.out X hX) (by omega) HBS.out)
  have C2 := Lib.hid (fun (X : World) (hX : Below w.heap.size w X) => apply11_any base E g m X (HR2.out X hX) (by omega) HBS.out)
  have C3 := Lib.hid (fun AJ cJ (X : World) (hX : KPc.row X AJ cJ (l ++ m)) => apply11_any base AJ cJ (l ++ m) X hX (by rw [List.length_append]; omega) HBS.out)
  simp only [List.length_append] at C3
  obtain ⟨i0, hi, hz0, hz1, hz2⟩ := info_parts infoPc
  have hzl : (KPc.v pc0).cells.size = KPc.n := rfl
  rw [hA] at C1
  rw [parts_no (.inl hA)] at C3
  rw [hB] at C2
  clear hA hB
  unfold apV at C1 C2 C3
  dsimp only at C1 C2 C3
  go_enter Tryd.func7, Tryd.ntmps7
  go_wp2_with fail
  refine (dlAwake w HL.out).mono ?_
  rintro e w1 ⟨rfl, hb⟩
  have B1 := Lib.hid (B0.out.trans (hb.mono B0.out.size))
  clear hb
  go_wp2_with fail
  refine (F1.out _ B1.out).mono ?_
  rintro e w2 ⟨rfl, hb⟩
  have B2 := Lib.hid (B1.out.trans (hb.mono B1.out.size))
  clear hb
  go_wp2_with fail
  refine (F2.out _ B2.out).mono ?_
  rintro e w3 ⟨rfl, hb⟩
  have B3 := Lib.hid (B2.out.trans (hb.mono B2.out.size))
  clear hb
  go_wp2_with fail
  refine (C1.out _ B3.out).mono ?_
  rintro e w4 ⟨rfl, hb⟩
  have B4 := Lib.hid (B3.out.trans (hb.mono B3.out.size))
  clear hb
  go_wp2_with fail
  refine (C2.out _ B4.out).mono ?_
  rintro e w5 ⟨rfl, hb⟩
  have B5 := Lib.hid (B4.out.trans (hb.mono B4.out.size))
  clear hb
  have O5 := Lib.hid (show w5.ownsRow w.heap.size 44 KPc.n (.slice none 0 0) 0 (([] : List Pc).flatMap KPc.cs) from ⟨rfl, .inl ⟨rfl, rfl⟩⟩)
  have R5 := Lib.hid (HR.out _ B5.out)
  have S5 := Lib.hid B5.out.size
  go_wp2_with (first | (at_builtin; refine wpList_append_K (K := KPc) (o := ⟨some 52, _, _, _, _, _⟩) _ rfl _ _ 22 rfl w.heap.size 44 i0 _ 40 Tryd.underlying22 hi hz0 hz1 hz2 hzl (by omega) _ 0 [] rfl O5.out A l.length c l rfl R5.out rfl NL.out S5.out ?_; intro v6 w6 ho6 hg6; have O6 := Lib.hid ho6; have B6 := Lib.hid (B5.out.grown hg6 B5.out.size (fun g hg => own_base O5.out hg)); have R6 := Lib.hid (HR2.out _ B6.out); have S6 := Lib.hid B6.out.size; clear ho6 hg6 O5 R5 S5) | (at_builtin; refine wpList_append_K (K := KPc) (o := ⟨some 54, _, _, _, _, _⟩) _ rfl _ _ 22 rfl w.heap.size 44 i0 _ 40 Tryd.underlying22 hi hz0 hz1 hz2 hzl (by omega) _ (0 + l.length) ([] ++ l) rfl O6.out E m.length g m rfl R6.out rfl NM.out S6.out ?_; intro v7 w7 ho7 hg7; have B7 := Lib.hid (B6.out.grown hg7 B6.out.size (fun g hg => own_base O6.out hg)); obtain ⟨AJ, cJ, rfl, hrJ⟩ := own_row11 (l := l ++ m) (by simpa using ho7) HOK.out; have CJ := Lib.hid (C3.out AJ cJ w7 hrJ); clear ho7 hg7 hrJ O6 R6 S6))
  refine (CJ.out).mono ?_
  rintro e w8 ⟨rfl, hb⟩
  have B8 := Lib.hid (B7.out.trans (hb.mono B7.out.size))
  clear hb
  go_wp2
  go_ret
  exact ⟨rfl, B8.out⟩
set_option maxHeartbeats 8000000 in
theorem parts_ny (base : ByteArray) (A : Option Addr) (c : Nat) (l : List Pc) (E : Option Addr) (g : Nat) (m : List Pc) (w : World) (hlaid : Laid w) (hbs : base.size ≤ maxLen) (hr : KPc.row w A c l) (hr2 : KPc.row w E g m) (hf1 : pfew l = true) (hf2 : pfew m = true) (t1 : ¬ (300 : Int) < (base.size : Int)) (y : ByteArray) (hA : papply base l = none) (hB : papply base m = some y) :
    Calls Tryd.prog 7 #[.string base, .slice A l.length c, .slice E m.length g] w fun e w' => e = .returned (.bool true) ∧ Below w.heap.size w w' := by
  have B0 := Lib.hid (Below.refl w.heap.size w)
  have HL := Lib.hid hlaid
  have HR := Lib.hid (fun (X : World) (hX : Below w.heap.size w X) => Kind.row_below hr hX (Nat.le_refl _))
  have HR2 := Lib.hid (fun (X : World) (hX : Below w.heap.size w X) => Kind.row_below hr2 hX (Nat.le_refl _))
  have F1 := Lib.hid (fun (X : World) (hX : Below w.heap.size w X) => few11_any A c l X (HR.out X hX))
  have F2 := Lib.hid (fun (X : World) (hX : Below w.heap.size w X) => few11_any E g m X (HR2.out X hX))
  have HOK : Hid (∀ p ∈ l ++ m, p.Ok) := Lib.hid (fun p hp => by
    rcases List.mem_append.1 hp with h | h
    · exact hr.2.2.2.2 p h
    · exact hr2.2.2.2.2 p h)
  have HBS := Lib.hid hbs
  clear hr hr2 hlaid hbs
  have hq1 := (pfew_iff.1 hf1).1
  have hq2 := (pfew_iff.1 hf2).1
  rw [hf1] at F1
  rw [hf2] at F2
  clear hf1 hf2
  have NL : Hid (0 + l.length ≤ 10000000) := Lib.hid (by omega)
  have NM : Hid (0 + l.length + m.length ≤ 10000000) := Lib.hid (by omega)
  have C1 := Lib.hid (fun (X : World) (hX : Below w.heap.size w X) => apply11_any base A c l X (HR.out X hX) (by omega) HBS.out)
  have C2 := Lib.hid (fun (X : World) (hX : Below w.heap.size w X) => apply11_any base E g m X (HR2.out X hX) (by omega) HBS.out)
  have C3 := Lib.hid (fun AJ cJ (X : World) (hX : KPc.row X AJ cJ (l ++ m)) => apply11_any base AJ cJ (l ++ m) X hX (by rw [List.length_append]; omega) HBS.out)
  simp only [List.length_append] at C3
  obtain ⟨i0, hi, hz0, hz1, hz2⟩ := info_parts infoPc
  have hzl : (KPc.v pc0).cells.size = KPc.n := rfl
  rw [hA] at C1
  rw [parts_no (.inl hA)] at C3
  rw [hB] at C2
  clear hA hB
  unfold apV at C1 C2 C3
  dsimp only at C1 C2 C3
  go_enter Tryd.func7, Tryd.ntmps7
  go_wp2_with fail
  refine (dlAwake w HL.out).mono ?_
  rintro e w1 ⟨rfl, hb⟩
  have B1 := Lib.hid (B0.out.trans (hb.mono B0.out.size))
  clear hb
  go_wp2_with fail
  refine (F1.out _ B1.out).mono ?_
  rintro e w2 ⟨rfl, hb⟩
  have B2 := Lib.hid (B1.out.trans (hb.mono B1.out.size))
  clear hb
  go_wp2_with fail
  refine (F2.out _ B2.out).mono ?_
  rintro e w3 ⟨rfl, hb⟩
  have B3 := Lib.hid (B2.out.trans (hb.mono B2.out.size))
  clear hb
  go_wp2_with fail
  refine (C1.out _ B3.out).mono ?_
  rintro e w4 ⟨rfl, hb⟩
  have B4 := Lib.hid (B3.out.trans (hb.mono B3.out.size))
  clear hb
  go_wp2_with fail
  refine (C2.out _ B4.out).mono ?_
  rintro e w5 ⟨rfl, hb⟩
  have B5 := Lib.hid (B4.out.trans (hb.mono B4.out.size))
  clear hb
  have O5 := Lib.hid (show w5.ownsRow w.heap.size 44 KPc.n (.slice none 0 0) 0 (([] : List Pc).flatMap KPc.cs) from ⟨rfl, .inl ⟨rfl, rfl⟩⟩)
  have R5 := Lib.hid (HR.out _ B5.out)
  have S5 := Lib.hid B5.out.size
  go_wp2_with (first | (at_builtin; refine wpList_append_K (K := KPc) (o := ⟨some 52, _, _, _, _, _⟩) _ rfl _ _ 22 rfl w.heap.size 44 i0 _ 40 Tryd.underlying22 hi hz0 hz1 hz2 hzl (by omega) _ 0 [] rfl O5.out A l.length c l rfl R5.out rfl NL.out S5.out ?_; intro v6 w6 ho6 hg6; have O6 := Lib.hid ho6; have B6 := Lib.hid (B5.out.grown hg6 B5.out.size (fun g hg => own_base O5.out hg)); have R6 := Lib.hid (HR2.out _ B6.out); have S6 := Lib.hid B6.out.size; clear ho6 hg6 O5 R5 S5) | (at_builtin; refine wpList_append_K (K := KPc) (o := ⟨some 54, _, _, _, _, _⟩) _ rfl _ _ 22 rfl w.heap.size 44 i0 _ 40 Tryd.underlying22 hi hz0 hz1 hz2 hzl (by omega) _ (0 + l.length) ([] ++ l) rfl O6.out E m.length g m rfl R6.out rfl NM.out S6.out ?_; intro v7 w7 ho7 hg7; have B7 := Lib.hid (B6.out.grown hg7 B6.out.size (fun g hg => own_base O6.out hg)); obtain ⟨AJ, cJ, rfl, hrJ⟩ := own_row11 (l := l ++ m) (by simpa using ho7) HOK.out; have CJ := Lib.hid (C3.out AJ cJ w7 hrJ); clear ho7 hg7 hrJ O6 R6 S6))
  refine (CJ.out).mono ?_
  rintro e w8 ⟨rfl, hb⟩
  have B8 := Lib.hid (B7.out.trans (hb.mono B7.out.size))
  clear hb
  go_wp2
  go_ret
  exact ⟨rfl, B8.out⟩
set_option maxHeartbeats 8000000 in
theorem parts_yn (base : ByteArray) (A : Option Addr) (c : Nat) (l : List Pc) (E : Option Addr) (g : Nat) (m : List Pc) (w : World) (hlaid : Laid w) (hbs : base.size ≤ maxLen) (hr : KPc.row w A c l) (hr2 : KPc.row w E g m) (hf1 : pfew l = true) (hf2 : pfew m = true) (t1 : ¬ (300 : Int) < (base.size : Int)) (x : ByteArray) (hA : papply base l = some x) (hB : papply base m = none) :
    Calls Tryd.prog 7 #[.string base, .slice A l.length c, .slice E m.length g] w fun e w' => e = .returned (.bool true) ∧ Below w.heap.size w w' := by
  have B0 := Lib.hid (Below.refl w.heap.size w)
  have HL := Lib.hid hlaid
  have HR := Lib.hid (fun (X : World) (hX : Below w.heap.size w X) => Kind.row_below hr hX (Nat.le_refl _))
  have HR2 := Lib.hid (fun (X : World) (hX : Below w.heap.size w X) => Kind.row_below hr2 hX (Nat.le_refl _))
  have F1 := Lib.hid (fun (X : World) (hX : Below w.heap.size w X) => few11_any A c l X (HR.out X hX))
  have F2 := Lib.hid (fun (X : World) (hX : Below w.heap.size w X) => few11_any E g m X (HR2.out X hX))
  have HOK : Hid (∀ p ∈ l ++ m, p.Ok) := Lib.hid (fun p hp => by
    rcases List.mem_append.1 hp with h | h
    · exact hr.2.2.2.2 p h
    · exact hr2.2.2.2.2 p h)
  have HBS := Lib.hid hbs
  clear hr hr2 hlaid hbs
  have hq1 := (pfew_iff.1 hf1).1
  have hq2 := (pfew_iff.1 hf2).1
  rw [hf1] at F1
  rw [hf2] at F2
  clear hf1 hf2
  have NL : Hid (0 + l.length ≤ 10000000) := Lib.hid (by omega)
  have NM : Hid (0 + l.length + m.length ≤ 10000000) := Lib.hid (by omega)
  have C1 := Lib.hid (fun (X : World) (hX : Below w.heap.size w X) => apply11_any base A c l X (HR.out X hX) (by omega) HBS.out)
  have C2 := Lib.hid (fun (X : World) (hX : Below w.heap.size w X) => apply11_any base E g m X (HR2.out X hX) (by omega) HBS.out)
  have C3 := Lib.hid (fun AJ cJ (X : World) (hX : KPc.row X AJ cJ (l ++ m)) => apply11_any base AJ cJ (l ++ m) X hX (by rw [List.length_append]; omega) HBS.out)
  simp only [List.length_append] at C3
  obtain ⟨i0, hi, hz0, hz1, hz2⟩ := info_parts infoPc
  have hzl : (KPc.v pc0).cells.size = KPc.n := rfl
  rw [hA] at C1
  rw [parts_no (.inr hB)] at C3
  rw [hB] at C2
  clear hA hB
  unfold apV at C1 C2 C3
  dsimp only at C1 C2 C3
  go_enter Tryd.func7, Tryd.ntmps7
  go_wp2_with fail
  refine (dlAwake w HL.out).mono ?_
  rintro e w1 ⟨rfl, hb⟩
  have B1 := Lib.hid (B0.out.trans (hb.mono B0.out.size))
  clear hb
  go_wp2_with fail
  refine (F1.out _ B1.out).mono ?_
  rintro e w2 ⟨rfl, hb⟩
  have B2 := Lib.hid (B1.out.trans (hb.mono B1.out.size))
  clear hb
  go_wp2_with fail
  refine (F2.out _ B2.out).mono ?_
  rintro e w3 ⟨rfl, hb⟩
  have B3 := Lib.hid (B2.out.trans (hb.mono B2.out.size))
  clear hb
  go_wp2_with fail
  refine (C1.out _ B3.out).mono ?_
  rintro e w4 ⟨rfl, hb⟩
  have B4 := Lib.hid (B3.out.trans (hb.mono B3.out.size))
  clear hb
  go_wp2_with fail
  refine (C2.out _ B4.out).mono ?_
  rintro e w5 ⟨rfl, hb⟩
  have B5 := Lib.hid (B4.out.trans (hb.mono B4.out.size))
  clear hb
  have O5 := Lib.hid (show w5.ownsRow w.heap.size 44 KPc.n (.slice none 0 0) 0 (([] : List Pc).flatMap KPc.cs) from ⟨rfl, .inl ⟨rfl, rfl⟩⟩)
  have R5 := Lib.hid (HR.out _ B5.out)
  have S5 := Lib.hid B5.out.size
  go_wp2_with (first | (at_builtin; refine wpList_append_K (K := KPc) (o := ⟨some 52, _, _, _, _, _⟩) _ rfl _ _ 22 rfl w.heap.size 44 i0 _ 40 Tryd.underlying22 hi hz0 hz1 hz2 hzl (by omega) _ 0 [] rfl O5.out A l.length c l rfl R5.out rfl NL.out S5.out ?_; intro v6 w6 ho6 hg6; have O6 := Lib.hid ho6; have B6 := Lib.hid (B5.out.grown hg6 B5.out.size (fun g hg => own_base O5.out hg)); have R6 := Lib.hid (HR2.out _ B6.out); have S6 := Lib.hid B6.out.size; clear ho6 hg6 O5 R5 S5) | (at_builtin; refine wpList_append_K (K := KPc) (o := ⟨some 54, _, _, _, _, _⟩) _ rfl _ _ 22 rfl w.heap.size 44 i0 _ 40 Tryd.underlying22 hi hz0 hz1 hz2 hzl (by omega) _ (0 + l.length) ([] ++ l) rfl O6.out E m.length g m rfl R6.out rfl NM.out S6.out ?_; intro v7 w7 ho7 hg7; have B7 := Lib.hid (B6.out.grown hg7 B6.out.size (fun g hg => own_base O6.out hg)); obtain ⟨AJ, cJ, rfl, hrJ⟩ := own_row11 (l := l ++ m) (by simpa using ho7) HOK.out; have CJ := Lib.hid (C3.out AJ cJ w7 hrJ); clear ho7 hg7 hrJ O6 R6 S6))
  refine (CJ.out).mono ?_
  rintro e w8 ⟨rfl, hb⟩
  have B8 := Lib.hid (B7.out.trans (hb.mono B7.out.size))
  clear hb
  go_wp2
  go_ret
  exact ⟨rfl, B8.out⟩
set_option maxHeartbeats 8000000 in
theorem parts_yy1 (base : ByteArray) (A : Option Addr) (c : Nat) (l : List Pc) (E : Option Addr) (g : Nat) (m : List Pc) (w : World) (hlaid : Laid w) (hbs : base.size ≤ maxLen) (hr : KPc.row w A c l) (hr2 : KPc.row w E g m) (hf1 : pfew l = true) (hf2 : pfew m = true) (t1 : ¬ (300 : Int) < (base.size : Int)) (x y : ByteArray) (hA : papply base l = some x) (hB : papply base m = some y) (k1 : (200 : Int) < (x.size : Int) + (y.size : Int)) :
    Calls Tryd.prog 7 #[.string base, .slice A l.length c, .slice E m.length g] w fun e w' => e = .returned (.bool true) ∧ Below w.heap.size w w' := by
  have B0 := Lib.hid (Below.refl w.heap.size w)
  have HL := Lib.hid hlaid
  have HR := Lib.hid (fun (X : World) (hX : Below w.heap.size w X) => Kind.row_below hr hX (Nat.le_refl _))
  have HR2 := Lib.hid (fun (X : World) (hX : Below w.heap.size w X) => Kind.row_below hr2 hX (Nat.le_refl _))
  have F1 := Lib.hid (fun (X : World) (hX : Below w.heap.size w X) => few11_any A c l X (HR.out X hX))
  have F2 := Lib.hid (fun (X : World) (hX : Below w.heap.size w X) => few11_any E g m X (HR2.out X hX))
  have HOK : Hid (∀ p ∈ l ++ m, p.Ok) := Lib.hid (fun p hp => by
    rcases List.mem_append.1 hp with h | h
    · exact hr.2.2.2.2 p h
    · exact hr2.2.2.2.2 p h)
  have HBS := Lib.hid hbs
  clear hr hr2 hlaid hbs
  have hq1 := (pfew_iff.1 hf1).1
  have hq2 := (pfew_iff.1 hf2).1
  rw [hf1] at F1
  rw [hf2] at F2
  clear hf1 hf2
  have NL : Hid (0 + l.length ≤ 10000000) := Lib.hid (by omega)
  have NM : Hid (0 + l.length + m.length ≤ 10000000) := Lib.hid (by omega)
  have C1 := Lib.hid (fun (X : World) (hX : Below w.heap.size w X) => apply11_any base A c l X (HR.out X hX) (by omega) HBS.out)
  have C2 := Lib.hid (fun (X : World) (hX : Below w.heap.size w X) => apply11_any base E g m X (HR2.out X hX) (by omega) HBS.out)
  have C3 := Lib.hid (fun AJ cJ (X : World) (hX : KPc.row X AJ cJ (l ++ m)) => apply11_any base AJ cJ (l ++ m) X hX (by rw [List.length_append]; omega) HBS.out)
  simp only [List.length_append] at C3
  obtain ⟨i0, hi, hz0, hz1, hz2⟩ := info_parts infoPc
  have hzl : (KPc.v pc0).cells.size = KPc.n := rfl
  rw [hA] at C1
  rw [hB] at C2
  rw [parts_yes hA hB] at C3
  have hx := papply_le hA
  have hy := papply_le hB
  clear hA hB
  rw [if_neg (by omega)] at C3
  unfold apV at C1 C2 C3
  dsimp only at C1 C2 C3
  go_enter Tryd.func7, Tryd.ntmps7
  go_wp2_with fail
  refine (dlAwake w HL.out).mono ?_
  rintro e w1 ⟨rfl, hb⟩
  have B1 := Lib.hid (B0.out.trans (hb.mono B0.out.size))
  clear hb
  go_wp2_with fail
  refine (F1.out _ B1.out).mono ?_
  rintro e w2 ⟨rfl, hb⟩
  have B2 := Lib.hid (B1.out.trans (hb.mono B1.out.size))
  clear hb
  go_wp2_with fail
  refine (F2.out _ B2.out).mono ?_
  rintro e w3 ⟨rfl, hb⟩
  have B3 := Lib.hid (B2.out.trans (hb.mono B2.out.size))
  clear hb
  go_wp2_with fail
  refine (C1.out _ B3.out).mono ?_
  rintro e w4 ⟨rfl, hb⟩
  have B4 := Lib.hid (B3.out.trans (hb.mono B3.out.size))
  clear hb
  go_wp2_with fail
  refine (C2.out _ B4.out).mono ?_
  rintro e w5 ⟨rfl, hb⟩
  have B5 := Lib.hid (B4.out.trans (hb.mono B4.out.size))
  clear hb
  have O5 := Lib.hid (show w5.ownsRow w.heap.size 44 KPc.n (.slice none 0 0) 0 (([] : List Pc).flatMap KPc.cs) from ⟨rfl, .inl ⟨rfl, rfl⟩⟩)
  have R5 := Lib.hid (HR.out _ B5.out)
  have S5 := Lib.hid B5.out.size
  go_wp2_with (first | (at_builtin; refine wpList_append_K (K := KPc) (o := ⟨some 52, _, _, _, _, _⟩) _ rfl _ _ 22 rfl w.heap.size 44 i0 _ 40 Tryd.underlying22 hi hz0 hz1 hz2 hzl (by omega) _ 0 [] rfl O5.out A l.length c l rfl R5.out rfl NL.out S5.out ?_; intro v6 w6 ho6 hg6; have O6 := Lib.hid ho6; have B6 := Lib.hid (B5.out.grown hg6 B5.out.size (fun g hg => own_base O5.out hg)); have R6 := Lib.hid (HR2.out _ B6.out); have S6 := Lib.hid B6.out.size; clear ho6 hg6 O5 R5 S5) | (at_builtin; refine wpList_append_K (K := KPc) (o := ⟨some 54, _, _, _, _, _⟩) _ rfl _ _ 22 rfl w.heap.size 44 i0 _ 40 Tryd.underlying22 hi hz0 hz1 hz2 hzl (by omega) _ (0 + l.length) ([] ++ l) rfl O6.out E m.length g m rfl R6.out rfl NM.out S6.out ?_; intro v7 w7 ho7 hg7; have B7 := Lib.hid (B6.out.grown hg7 B6.out.size (fun g hg => own_base O6.out hg)); obtain ⟨AJ, cJ, rfl, hrJ⟩ := own_row11 (l := l ++ m) (by simpa using ho7) HOK.out; have CJ := Lib.hid (C3.out AJ cJ w7 hrJ); clear ho7 hg7 hrJ O6 R6 S6))
  refine (CJ.out).mono ?_
  rintro e w8 ⟨rfl, hb⟩
  have B8 := Lib.hid (B7.out.trans (hb.mono B7.out.size))
  clear hb
  go_wp2
  go_ret
  exact ⟨rfl, B8.out⟩
set_option maxHeartbeats 8000000 in
theorem parts_yy2 (base : ByteArray) (A : Option Addr) (c : Nat) (l : List Pc) (E : Option Addr) (g : Nat) (m : List Pc) (w : World) (hlaid : Laid w) (hbs : base.size ≤ maxLen) (hr : KPc.row w A c l) (hr2 : KPc.row w E g m) (hf1 : pfew l = true) (hf2 : pfew m = true) (t1 : ¬ (300 : Int) < (base.size : Int)) (x y : ByteArray) (hA : papply base l = some x) (hB : papply base m = some y) (k1 : ¬ (200 : Int) < (x.size : Int) + (y.size : Int)) (k2 : (60 : Int) < (l.length : Int) + (m.length : Int)) :
    Calls Tryd.prog 7 #[.string base, .slice A l.length c, .slice E m.length g] w fun e w' => e = .returned (.bool true) ∧ Below w.heap.size w w' := by
  have B0 := Lib.hid (Below.refl w.heap.size w)
  have HL := Lib.hid hlaid
  have HR := Lib.hid (fun (X : World) (hX : Below w.heap.size w X) => Kind.row_below hr hX (Nat.le_refl _))
  have HR2 := Lib.hid (fun (X : World) (hX : Below w.heap.size w X) => Kind.row_below hr2 hX (Nat.le_refl _))
  have F1 := Lib.hid (fun (X : World) (hX : Below w.heap.size w X) => few11_any A c l X (HR.out X hX))
  have F2 := Lib.hid (fun (X : World) (hX : Below w.heap.size w X) => few11_any E g m X (HR2.out X hX))
  have HOK : Hid (∀ p ∈ l ++ m, p.Ok) := Lib.hid (fun p hp => by
    rcases List.mem_append.1 hp with h | h
    · exact hr.2.2.2.2 p h
    · exact hr2.2.2.2.2 p h)
  have HBS := Lib.hid hbs
  clear hr hr2 hlaid hbs
  have hq1 := (pfew_iff.1 hf1).1
  have hq2 := (pfew_iff.1 hf2).1
  rw [hf1] at F1
  rw [hf2] at F2
  clear hf1 hf2
  have NL : Hid (0 + l.length ≤ 10000000) := Lib.hid (by omega)
  have NM : Hid (0 + l.length + m.length ≤ 10000000) := Lib.hid (by omega)
  have C1 := Lib.hid (fun (X : World) (hX : Below w.heap.size w X) => apply11_any base A c l X (HR.out X hX) (by omega) HBS.out)
  have C2 := Lib.hid (fun (X : World) (hX : Below w.heap.size w X) => apply11_any base E g m X (HR2.out X hX) (by omega) HBS.out)
  have C3 := Lib.hid (fun AJ cJ (X : World) (hX : KPc.row X AJ cJ (l ++ m)) => apply11_any base AJ cJ (l ++ m) X hX (by rw [List.length_append]; omega) HBS.out)
  simp only [List.length_append] at C3
  obtain ⟨i0, hi, hz0, hz1, hz2⟩ := info_parts infoPc
  have hzl : (KPc.v pc0).cells.size = KPc.n := rfl
  rw [hA] at C1
  rw [hB] at C2
  rw [parts_yes hA hB] at C3
  have hx := papply_le hA
  have hy := papply_le hB
  clear hA hB
  rw [if_neg (by omega)] at C3
  unfold apV at C1 C2 C3
  dsimp only at C1 C2 C3
  go_enter Tryd.func7, Tryd.ntmps7
  go_wp2_with fail
  refine (dlAwake w HL.out).mono ?_
  rintro e w1 ⟨rfl, hb⟩
  have B1 := Lib.hid (B0.out.trans (hb.mono B0.out.size))
  clear hb
  go_wp2_with fail
  refine (F1.out _ B1.out).mono ?_
  rintro e w2 ⟨rfl, hb⟩
  have B2 := Lib.hid (B1.out.trans (hb.mono B1.out.size))
  clear hb
  go_wp2_with fail
  refine (F2.out _ B2.out).mono ?_
  rintro e w3 ⟨rfl, hb⟩
  have B3 := Lib.hid (B2.out.trans (hb.mono B2.out.size))
  clear hb
  go_wp2_with fail
  refine (C1.out _ B3.out).mono ?_
  rintro e w4 ⟨rfl, hb⟩
  have B4 := Lib.hid (B3.out.trans (hb.mono B3.out.size))
  clear hb
  go_wp2_with fail
  refine (C2.out _ B4.out).mono ?_
  rintro e w5 ⟨rfl, hb⟩
  have B5 := Lib.hid (B4.out.trans (hb.mono B4.out.size))
  clear hb
  have O5 := Lib.hid (show w5.ownsRow w.heap.size 44 KPc.n (.slice none 0 0) 0 (([] : List Pc).flatMap KPc.cs) from ⟨rfl, .inl ⟨rfl, rfl⟩⟩)
  have R5 := Lib.hid (HR.out _ B5.out)
  have S5 := Lib.hid B5.out.size
  go_wp2_with (first | (at_builtin; refine wpList_append_K (K := KPc) (o := ⟨some 52, _, _, _, _, _⟩) _ rfl _ _ 22 rfl w.heap.size 44 i0 _ 40 Tryd.underlying22 hi hz0 hz1 hz2 hzl (by omega) _ 0 [] rfl O5.out A l.length c l rfl R5.out rfl NL.out S5.out ?_; intro v6 w6 ho6 hg6; have O6 := Lib.hid ho6; have B6 := Lib.hid (B5.out.grown hg6 B5.out.size (fun g hg => own_base O5.out hg)); have R6 := Lib.hid (HR2.out _ B6.out); have S6 := Lib.hid B6.out.size; clear ho6 hg6 O5 R5 S5) | (at_builtin; refine wpList_append_K (K := KPc) (o := ⟨some 54, _, _, _, _, _⟩) _ rfl _ _ 22 rfl w.heap.size 44 i0 _ 40 Tryd.underlying22 hi hz0 hz1 hz2 hzl (by omega) _ (0 + l.length) ([] ++ l) rfl O6.out E m.length g m rfl R6.out rfl NM.out S6.out ?_; intro v7 w7 ho7 hg7; have B7 := Lib.hid (B6.out.grown hg7 B6.out.size (fun g hg => own_base O6.out hg)); obtain ⟨AJ, cJ, rfl, hrJ⟩ := own_row11 (l := l ++ m) (by simpa using ho7) HOK.out; have CJ := Lib.hid (C3.out AJ cJ w7 hrJ); clear ho7 hg7 hrJ O6 R6 S6))
  refine (CJ.out).mono ?_
  rintro e w8 ⟨rfl, hb⟩
  have B8 := Lib.hid (B7.out.trans (hb.mono B7.out.size))
  clear hb
  go_wp2
  go_ret
  exact ⟨rfl, B8.out⟩
set_option maxHeartbeats 8000000 in
theorem parts_yy3 (base : ByteArray) (A : Option Addr) (c : Nat) (l : List Pc) (E : Option Addr) (g : Nat) (m : List Pc) (w : World) (hlaid : Laid w) (hbs : base.size ≤ maxLen) (hr : KPc.row w A c l) (hr2 : KPc.row w E g m) (hf1 : pfew l = true) (hf2 : pfew m = true) (t1 : ¬ (300 : Int) < (base.size : Int)) (x y : ByteArray) (hA : papply base l = some x) (hB : papply base m = some y) (k1 : ¬ (200 : Int) < (x.size : Int) + (y.size : Int)) (k2 : ¬ (60 : Int) < (l.length : Int) + (m.length : Int)) :
    Calls Tryd.prog 7 #[.string base, .slice A l.length c, .slice E m.length g] w fun e w' => e = .returned (.bool true) ∧ Below w.heap.size w w' := by
  have B0 := Lib.hid (Below.refl w.heap.size w)
  have HL := Lib.hid hlaid
  have HR := Lib.hid (fun (X : World) (hX : Below w.heap.size w X) => Kind.row_below hr hX (Nat.le_refl _))
  have HR2 := Lib.hid (fun (X : World) (hX : Below w.heap.size w X) => Kind.row_below hr2 hX (Nat.le_refl _))
  have F1 := Lib.hid (fun (X : World) (hX : Below w.heap.size w X) => few11_any A c l X (HR.out X hX))
  have F2 := Lib.hid (fun (X : World) (hX : Below w.heap.size w X) => few11_any E g m X (HR2.out X hX))
  have HOK : Hid (∀ p ∈ l ++ m, p.Ok) := Lib.hid (fun p hp => by
    rcases List.mem_append.1 hp with h | h
    · exact hr.2.2.2.2 p h
    · exact hr2.2.2.2.2 p h)
  have HBS := Lib.hid hbs
  clear hr hr2 hlaid hbs
  have hq1 := (pfew_iff.1 hf1).1
  have hq2 := (pfew_iff.1 hf2).1
  rw [hf1] at F1
  rw [hf2] at F2
  clear hf1 hf2
  have NL : Hid (0 + l.length ≤ 10000000) := Lib.hid (by omega)
  have NM : Hid (0 + l.length + m.length ≤ 10000000) := Lib.hid (by omega)
  have C1 := Lib.hid (fun (X : World) (hX : Below w.heap.size w X) => apply11_any base A c l X (HR.out X hX) (by omega) HBS.out)
  have C2 := Lib.hid (fun (X : World) (hX : Below w.heap.size w X) => apply11_any base E g m X (HR2.out X hX) (by omega) HBS.out)
  have C3 := Lib.hid (fun AJ cJ (X : World) (hX : KPc.row X AJ cJ (l ++ m)) => apply11_any base AJ cJ (l ++ m) X hX (by rw [List.length_append]; omega) HBS.out)
  simp only [List.length_append] at C3
  obtain ⟨i0, hi, hz0, hz1, hz2⟩ := info_parts infoPc
  have hzl : (KPc.v pc0).cells.size = KPc.n := rfl
  rw [hA] at C1
  rw [hB] at C2
  rw [parts_yes hA hB] at C3
  have hx := papply_le hA
  have hy := papply_le hB
  clear hA hB
  rw [if_pos (by omega)] at C3
  unfold apV at C1 C2 C3
  dsimp only at C1 C2 C3
  have k3 : ¬ 9223372036854775807 < x.size + y.size := by omega
  have h4 : ((x ++ y).toList == (x ++ y).toList) = true := (str_beq _ _).2 rfl
  go_enter Tryd.func7, Tryd.ntmps7
  go_wp2_with fail
  refine (dlAwake w HL.out).mono ?_
  rintro e w1 ⟨rfl, hb⟩
  have B1 := Lib.hid (B0.out.trans (hb.mono B0.out.size))
  clear hb
  go_wp2_with fail
  refine (F1.out _ B1.out).mono ?_
  rintro e w2 ⟨rfl, hb⟩
  have B2 := Lib.hid (B1.out.trans (hb.mono B1.out.size))
  clear hb
  go_wp2_with fail
  refine (F2.out _ B2.out).mono ?_
  rintro e w3 ⟨rfl, hb⟩
  have B3 := Lib.hid (B2.out.trans (hb.mono B2.out.size))
  clear hb
  go_wp2_with fail
  refine (C1.out _ B3.out).mono ?_
  rintro e w4 ⟨rfl, hb⟩
  have B4 := Lib.hid (B3.out.trans (hb.mono B3.out.size))
  clear hb
  go_wp2_with fail
  refine (C2.out _ B4.out).mono ?_
  rintro e w5 ⟨rfl, hb⟩
  have B5 := Lib.hid (B4.out.trans (hb.mono B4.out.size))
  clear hb
  have O5 := Lib.hid (show w5.ownsRow w.heap.size 44 KPc.n (.slice none 0 0) 0 (([] : List Pc).flatMap KPc.cs) from ⟨rfl, .inl ⟨rfl, rfl⟩⟩)
  have R5 := Lib.hid (HR.out _ B5.out)
  have S5 := Lib.hid B5.out.size
  go_wp2_with (first | (at_builtin; refine wpList_append_K (K := KPc) (o := ⟨some 52, _, _, _, _, _⟩) _ rfl _ _ 22 rfl w.heap.size 44 i0 _ 40 Tryd.underlying22 hi hz0 hz1 hz2 hzl (by omega) _ 0 [] rfl O5.out A l.length c l rfl R5.out rfl NL.out S5.out ?_; intro v6 w6 ho6 hg6; have O6 := Lib.hid ho6; have B6 := Lib.hid (B5.out.grown hg6 B5.out.size (fun g hg => own_base O5.out hg)); have R6 := Lib.hid (HR2.out _ B6.out); have S6 := Lib.hid B6.out.size; clear ho6 hg6 O5 R5 S5) | (at_builtin; refine wpList_append_K (K := KPc) (o := ⟨some 54, _, _, _, _, _⟩) _ rfl _ _ 22 rfl w.heap.size 44 i0 _ 40 Tryd.underlying22 hi hz0 hz1 hz2 hzl (by omega) _ (0 + l.length) ([] ++ l) rfl O6.out E m.length g m rfl R6.out rfl NM.out S6.out ?_; intro v7 w7 ho7 hg7; have B7 := Lib.hid (B6.out.grown hg7 B6.out.size (fun g hg => own_base O6.out hg)); obtain ⟨AJ, cJ, rfl, hrJ⟩ := own_row11 (l := l ++ m) (by simpa using ho7) HOK.out; have CJ := Lib.hid (C3.out AJ cJ w7 hrJ); clear ho7 hg7 hrJ O6 R6 S6))
  refine (CJ.out).mono ?_
  rintro e w8 ⟨rfl, hb⟩
  have B8 := Lib.hid (B7.out.trans (hb.mono B7.out.size))
  clear hb
  go_wp2
  go_ret
  exact ⟨rfl, B8.out⟩
theorem walk_deltaParts (base : ByteArray) (A : Option Addr) (n0 c : Nat) (l : List Pc) (E : Option Addr) (n2 g : Nat) (m : List Pc) (w : World) (hlaid : Laid w) (hbs : base.size ≤ maxLen) (hl : l.length = n0) (hr : KPc.row w A c l) (hl2 : m.length = n2) (hr2 : KPc.row w E g m) :
    Calls Tryd.prog 7 #[.string base, .slice A n0 c, .slice E n2 g] w fun e w' => e = .returned (.bool true) ∧ Below w.heap.size w w' := by
  subst hl hl2
  cases hf1 : pfew l
  · exact parts_few1 base A c l E g m w hlaid hbs hr hr2 hf1
  cases hf2 : pfew m
  · exact parts_few2 base A c l E g m w hlaid hbs hr hr2 hf1 hf2
  by_cases t1 : (300 : Int) < (base.size : Int)
  · exact parts_long base A c l E g m w hlaid hbs hr hr2 hf1 hf2 t1
  cases hA : papply base l with
  | none =>
    cases hB : papply base m with
    | none => exact parts_nn base A c l E g m w hlaid hbs hr hr2 hf1 hf2 t1 hA hB
    | some y => exact parts_ny base A c l E g m w hlaid hbs hr hr2 hf1 hf2 t1 y hA hB
  | some x =>
    cases hB : papply base m with
    | none => exact parts_yn base A c l E g m w hlaid hbs hr hr2 hf1 hf2 t1 x hA hB
    | some y =>
      by_cases k1 : (200 : Int) < (x.size : Int) + (y.size : Int)
      · exact parts_yy1 base A c l E g m w hlaid hbs hr hr2 hf1 hf2 t1 x y hA hB k1
      by_cases k2 : (60 : Int) < (l.length : Int) + (m.length : Int)
      · exact parts_yy2 base A c l E g m w hlaid hbs hr hr2 hf1 hf2 t1 x y hA hB k1 k2
      · exact parts_yy3 base A c l E g m w hlaid hbs hr hr2 hf1 hf2 t1 x y hA hB k1 k2
end Go.Proofs.YtnencoainacpoaaDoor

