import Derived.Test.YtnencoainacpoaaDoorDlAwake
import Derived.Test.YtnencoainacpoaaDoorDlProg
import Derived.Test.YtnencoainacpoaaDoorGDlM
import Derived.Test.YtnencoainacpoaaDoorGUni
/-
  The law DeltaOwn: for every text it answers true, and nothing that was there is written. Nothing that was there is written.
-/
namespace Go.Proofs.YtnencoainacpoaaDoor
open Go.RowKit WM
set_option linter.unusedVariables false
set_option maxRecDepth 100000
theorem str_some {s : ByteArray} (h : 1 ≤ s.size) : s.toList.isEmpty = false := by
  cases hs : s.toList.isEmpty
  · rfl
  · have := List.isEmpty_iff.1 hs
    rw [toList_data] at this
    have h2 : s.data.toList.length = s.size := Array.length_toList
    rw [this] at h2
    simp at h2
    omega
theorem own_few {s : ByteArray} (h : s.size ≤ 1000) : (sgOf (nums s)).length ≤ 1000000 := by
  have := sgOf_le (nums s)
  rw [nums_len] at this
  omega
set_option maxHeartbeats 8000000 in
theorem own11_long (s : ByteArray) (w : World) (hlaid : Laid w) (t1 : (200 : Int) < (s.size : Int)) :
    Calls Tryd.prog 8 #[.string s] w fun e w' => e = .returned (.bool true) ∧ Below w.heap.size w w' := by
  have B0 := Lib.hid (Below.refl w.heap.size w)
  have HL := Lib.hid hlaid
  clear hlaid
  go_enter Tryd.func8, Tryd.ntmps8
  go_wp2_with fail
  refine (dlAwake w HL.out).mono ?_
  rintro e w1 ⟨rfl, hb⟩
  have B1 := Lib.hid (B0.out.trans (hb.mono B0.out.size))
  clear hb
  go_wp2
  go_ret
  exact ⟨rfl, B1.out⟩
set_option maxHeartbeats 8000000 in
theorem own11_zero (s : ByteArray) (w : World) (hlaid : Laid w) (hz : s.size = 0) :
    Calls Tryd.prog 8 #[.string s] w fun e w' => e = .returned (.bool true) ∧ Below w.heap.size w w' := by
  have B0 := Lib.hid (Below.refl w.heap.size w)
  have HL := Lib.hid hlaid
  have HLX := Lib.hid (fun (X : World) (hX : Below w.heap.size w X) => hlaid.below hX (Nat.le_refl _))
  have C1 := Lib.hid (fun (X : World) (hB : Below w.heap.size w X) => make11_any none 0 [] s X (HLX.out X hB) (Kind.row_nil X none 0 (by decide) (fun _ => rfl)) (by simp) (by omega))
  have C2 := Lib.hid (fun (X : World) (hX : Below w.heap.size w X) => of10_any s X (HLX.out X hX) (by omega))
  have C3 := Lib.hid (fun A3 c3 (X : World) (hB : Below w.heap.size w X) (hX : KSig.row X A3 c3 (sgOf (nums s))) => make11_any A3 c3 (sgOf (nums s)) s X (HLX.out X hB) hX (own_few (by omega)) (by omega))
  unfold KPost at C1 C2 C3
  rw [show ([] : List Sg).length = 0 from rfl] at C1
  clear hlaid
  rw [make_empty hz, show ([] : List Pc).length = 0 from rfl] at C1
  obtain rfl : s = ⟨#[]⟩ := by
    obtain ⟨d⟩ := s
    congr 1
    exact Array.eq_empty_of_size_eq_zero hz
  clear hz C2 C3
  go_enter Tryd.func8, Tryd.ntmps8
  go_wp2_with fail
  refine (dlAwake w HL.out).mono ?_
  rintro e w1 ⟨rfl, hb⟩
  have B1 := Lib.hid (B0.out.trans (hb.mono B0.out.size))
  clear hb
  go_wp2_with fail
  refine (C1.out w1 B1.out).mono ?_
  rintro e w2 ⟨A2, c2, rfl, hr2, hb⟩
  have B2 := Lib.hid (B1.out.trans (hb.mono B1.out.size))
  have R2 := Lib.hid hr2
  clear hb hr2
  go_wp2
  go_ret
  exact ⟨rfl, B2.out⟩
set_option maxHeartbeats 8000000 in
theorem own11_skip1 (s : ByteArray) (w : World) (hlaid : Laid w) (t1 : ¬ (200 : Int) < (s.size : Int)) (hp : 1 ≤ s.size) (t2 : ¬ (24 : Int) ≤ (s.size : Int)) :
    Calls Tryd.prog 8 #[.string s] w fun e w' => e = .returned (.bool true) ∧ Below w.heap.size w w' := by
  have B0 := Lib.hid (Below.refl w.heap.size w)
  have HL := Lib.hid hlaid
  have HLX := Lib.hid (fun (X : World) (hX : Below w.heap.size w X) => hlaid.below hX (Nat.le_refl _))
  have C1 := Lib.hid (fun (X : World) (hB : Below w.heap.size w X) => make11_any none 0 [] s X (HLX.out X hB) (Kind.row_nil X none 0 (by decide) (fun _ => rfl)) (by simp) (by omega))
  have C2 := Lib.hid (fun (X : World) (hX : Below w.heap.size w X) => of10_any s X (HLX.out X hX) (by omega))
  have C3 := Lib.hid (fun A3 c3 (X : World) (hB : Below w.heap.size w X) (hX : KSig.row X A3 c3 (sgOf (nums s))) => make11_any A3 c3 (sgOf (nums s)) s X (HLX.out X hB) hX (own_few (by omega)) (by omega))
  unfold KPost at C1 C2 C3
  rw [show ([] : List Sg).length = 0 from rfl] at C1
  clear hlaid
  rw [make_none hp, show [pcTxt s].length = 1 from rfl] at C1
  have hm1 := make_some (sig := sgOf (nums s)) hp
  have t3 : s.toList.isEmpty = false := str_some hp
  have t4 : (s.toList == s.toList) = true := (str_beq _ _).2 rfl
  generalize sgOf (nums s) = SG at *
  generalize pmake SG s = L at *
  generalize L.length = n at *
  have t5 : (0 : Int) < (n : Int) := by omega
  have t8 : (1 : Int) ≤ (n : Int) := by omega
  go_enter Tryd.func8, Tryd.ntmps8
  go_wp2_with fail
  refine (dlAwake w HL.out).mono ?_
  rintro e w1 ⟨rfl, hb⟩
  have B1 := Lib.hid (B0.out.trans (hb.mono B0.out.size))
  clear hb
  go_wp2_with fail
  refine (C1.out w1 B1.out).mono ?_
  rintro e w2 ⟨A2, c2, rfl, hr2, hb⟩
  have B2 := Lib.hid (B1.out.trans (hb.mono B1.out.size))
  have R2 := Lib.hid hr2
  clear hb hr2
  obtain ⟨b2, o2, hA2, hlt2, hx2, hi2⟩ := pc_row R2.out (by simp)
  subst hA2
  have ix0 := hi2 0 (by simp) 0 rfl
  obtain ⟨d0, _, _, d3⟩ := pc_cells (hx2 0 (by simp))
  have c0 : w2.cell? ⟨b2, o2 + 0 * 4, none⟩ = some (.bool false) := d0
  have c3 : w2.cell? ⟨b2, o2 + 0 * 4 + 3, none⟩ = some (.string s) := d3
  clear d0 d3
  simp only [List.length_singleton] at ix0
  generalize o2 + 0 * 4 = o at *
  clear hx2 hi2 hlt2
  go_wp2_with fail
  refine (C2.out _ B2.out).mono ?_
  rintro e w3 ⟨A3, c3, rfl, hr3, hb⟩
  have B3 := Lib.hid (B2.out.trans (hb.mono B2.out.size))
  have R3 := Lib.hid hr3
  clear hb hr3
  go_wp2_with fail
  refine (C3.out A3 c3 _ B3.out R3.out).mono ?_
  rintro e w4 ⟨A4, c4, rfl, hr4, hb⟩
  have B4 := Lib.hid (B3.out.trans (hb.mono B3.out.size))
  have R4 := Lib.hid hr4
  clear hb hr4 R3
  go_wp2
  go_loopw [6] (fun i wr => i = .int .i64 0 ∧ Below w4.heap.size w4 wr) (fun i _ => 0)
  case atStart => exact ⟨rfl, Below.refl _ _⟩
  case round =>
    obtain ⟨rfl, hb⟩ := hrel
    have HBB := Lib.hid hb
    clear hb
    go_wp2
    go_ret
    exact ⟨rfl, B4.out.trans (HBB.out.mono B4.out.size)⟩
set_option maxHeartbeats 8000000 in
theorem own11_skip2 (s : ByteArray) (w : World) (hlaid : Laid w) (t1 : ¬ (200 : Int) < (s.size : Int)) (hp : 1 ≤ s.size) (t2 : (24 : Int) ≤ (s.size : Int)) (t6 : ¬ (s.size : Int) % 8 = 0) :
    Calls Tryd.prog 8 #[.string s] w fun e w' => e = .returned (.bool true) ∧ Below w.heap.size w w' := by
  have B0 := Lib.hid (Below.refl w.heap.size w)
  have HL := Lib.hid hlaid
  have HLX := Lib.hid (fun (X : World) (hX : Below w.heap.size w X) => hlaid.below hX (Nat.le_refl _))
  have C1 := Lib.hid (fun (X : World) (hB : Below w.heap.size w X) => make11_any none 0 [] s X (HLX.out X hB) (Kind.row_nil X none 0 (by decide) (fun _ => rfl)) (by simp) (by omega))
  have C2 := Lib.hid (fun (X : World) (hX : Below w.heap.size w X) => of10_any s X (HLX.out X hX) (by omega))
  have C3 := Lib.hid (fun A3 c3 (X : World) (hB : Below w.heap.size w X) (hX : KSig.row X A3 c3 (sgOf (nums s))) => make11_any A3 c3 (sgOf (nums s)) s X (HLX.out X hB) hX (own_few (by omega)) (by omega))
  unfold KPost at C1 C2 C3
  rw [show ([] : List Sg).length = 0 from rfl] at C1
  clear hlaid
  rw [make_none hp, show [pcTxt s].length = 1 from rfl] at C1
  have hm1 := make_some (sig := sgOf (nums s)) hp
  have t3 : s.toList.isEmpty = false := str_some hp
  have t4 : (s.toList == s.toList) = true := (str_beq _ _).2 rfl
  generalize sgOf (nums s) = SG at *
  generalize pmake SG s = L at *
  generalize L.length = n at *
  have t5 : (0 : Int) < (n : Int) := by omega
  have t8 : (1 : Int) ≤ (n : Int) := by omega
  go_enter Tryd.func8, Tryd.ntmps8
  go_wp2_with fail
  refine (dlAwake w HL.out).mono ?_
  rintro e w1 ⟨rfl, hb⟩
  have B1 := Lib.hid (B0.out.trans (hb.mono B0.out.size))
  clear hb
  go_wp2_with fail
  refine (C1.out w1 B1.out).mono ?_
  rintro e w2 ⟨A2, c2, rfl, hr2, hb⟩
  have B2 := Lib.hid (B1.out.trans (hb.mono B1.out.size))
  have R2 := Lib.hid hr2
  clear hb hr2
  obtain ⟨b2, o2, hA2, hlt2, hx2, hi2⟩ := pc_row R2.out (by simp)
  subst hA2
  have ix0 := hi2 0 (by simp) 0 rfl
  obtain ⟨d0, _, _, d3⟩ := pc_cells (hx2 0 (by simp))
  have c0 : w2.cell? ⟨b2, o2 + 0 * 4, none⟩ = some (.bool false) := d0
  have c3 : w2.cell? ⟨b2, o2 + 0 * 4 + 3, none⟩ = some (.string s) := d3
  clear d0 d3
  simp only [List.length_singleton] at ix0
  generalize o2 + 0 * 4 = o at *
  clear hx2 hi2 hlt2
  go_wp2_with fail
  refine (C2.out _ B2.out).mono ?_
  rintro e w3 ⟨A3, c3, rfl, hr3, hb⟩
  have B3 := Lib.hid (B2.out.trans (hb.mono B2.out.size))
  have R3 := Lib.hid hr3
  clear hb hr3
  go_wp2_with fail
  refine (C3.out A3 c3 _ B3.out R3.out).mono ?_
  rintro e w4 ⟨A4, c4, rfl, hr4, hb⟩
  have B4 := Lib.hid (B3.out.trans (hb.mono B3.out.size))
  have R4 := Lib.hid hr4
  clear hb hr4 R3
  go_wp2
  go_loopw [6] (fun i wr => i = .int .i64 0 ∧ Below w4.heap.size w4 wr) (fun i _ => 0)
  case atStart => exact ⟨rfl, Below.refl _ _⟩
  case round =>
    obtain ⟨rfl, hb⟩ := hrel
    have HBB := Lib.hid hb
    clear hb
    go_wp2
    go_ret
    exact ⟨rfl, B4.out.trans (HBB.out.mono B4.out.size)⟩
set_option maxHeartbeats 8000000 in
theorem own11_loop (s : ByteArray) (w : World) (hlaid : Laid w) (t1 : ¬ (200 : Int) < (s.size : Int)) (hp : 1 ≤ s.size) (t2 : (24 : Int) ≤ (s.size : Int)) (t6 : (s.size : Int) % 8 = 0) :
    Calls Tryd.prog 8 #[.string s] w fun e w' => e = .returned (.bool true) ∧ Below w.heap.size w w' := by
  have B0 := Lib.hid (Below.refl w.heap.size w)
  have HL := Lib.hid hlaid
  have HLX := Lib.hid (fun (X : World) (hX : Below w.heap.size w X) => hlaid.below hX (Nat.le_refl _))
  have C1 := Lib.hid (fun (X : World) (hB : Below w.heap.size w X) => make11_any none 0 [] s X (HLX.out X hB) (Kind.row_nil X none 0 (by decide) (fun _ => rfl)) (by simp) (by omega))
  have C2 := Lib.hid (fun (X : World) (hX : Below w.heap.size w X) => of10_any s X (HLX.out X hX) (by omega))
  have C3 := Lib.hid (fun A3 c3 (X : World) (hB : Below w.heap.size w X) (hX : KSig.row X A3 c3 (sgOf (nums s))) => make11_any A3 c3 (sgOf (nums s)) s X (HLX.out X hB) hX (own_few (by omega)) (by omega))
  unfold KPost at C1 C2 C3
  rw [show ([] : List Sg).length = 0 from rfl] at C1
  clear hlaid
  rw [make_none hp, show [pcTxt s].length = 1 from rfl] at C1
  have hm1 := make_some (sig := sgOf (nums s)) hp
  have t3 : s.toList.isEmpty = false := str_some hp
  have t4 : (s.toList == s.toList) = true := (str_beq _ _).2 rfl
  have hown := make_own (s := s) (by omega) (by omega)
  generalize sgOf (nums s) = SG at *
  generalize pmake SG s = L at *
  go_enter Tryd.func8, Tryd.ntmps8
  go_wp2_with fail
  refine (dlAwake w HL.out).mono ?_
  rintro e w1 ⟨rfl, hb⟩
  have B1 := Lib.hid (B0.out.trans (hb.mono B0.out.size))
  clear hb
  go_wp2_with fail
  refine (C1.out w1 B1.out).mono ?_
  rintro e w2 ⟨A2, c2, rfl, hr2, hb⟩
  have B2 := Lib.hid (B1.out.trans (hb.mono B1.out.size))
  have R2 := Lib.hid hr2
  clear hb hr2
  obtain ⟨b2, o2, hA2, hlt2, hx2, hi2⟩ := pc_row R2.out (by simp)
  subst hA2
  have ix0 := hi2 0 (by simp) 0 rfl
  obtain ⟨d0, _, _, d3⟩ := pc_cells (hx2 0 (by simp))
  have c0 : w2.cell? ⟨b2, o2 + 0 * 4, none⟩ = some (.bool false) := d0
  have c3 : w2.cell? ⟨b2, o2 + 0 * 4 + 3, none⟩ = some (.string s) := d3
  clear d0 d3
  simp only [List.length_singleton] at ix0
  generalize o2 + 0 * 4 = o at *
  clear hx2 hi2 hlt2
  go_wp2_with fail
  refine (C2.out _ B2.out).mono ?_
  rintro e w3 ⟨A3, c3, rfl, hr3, hb⟩
  have B3 := Lib.hid (B2.out.trans (hb.mono B2.out.size))
  have R3 := Lib.hid hr3
  clear hb hr3
  go_wp2_with fail
  refine (C3.out A3 c3 _ B3.out R3.out).mono ?_
  rintro e w4 ⟨A4, c4, rfl, hr4, hb⟩
  have B4 := Lib.hid (B3.out.trans (hb.mono B3.out.size))
  have R4 := Lib.hid hr4
  clear hb hr4 R3
  have HLN : ∃ n, n = L.length := ⟨_, rfl⟩
  obtain ⟨n, hn⟩ := HLN
  have R5 := Lib.hid (fun h => pc_row R4.out h)
  have hmx := Nat.le_trans R4.out.1 R4.out.2.1
  rw [← hn] at hm1 R5 hmx ⊢
  simp only [maxLen] at hmx
  have HON := Lib.hid hown
  have HN := Lib.hid hn
  clear hown hn R4
  go_wp2
  go_loopw [6] (fun i wr => ∃ k : Nat, k ≤ n ∧ i = .int .i64 k ∧ Below w4.heap.size w4 wr) (fun i _ => n - (intOf i).toNat)
  case atStart => exact ⟨0, Nat.zero_le _, rfl, Below.refl _ _⟩
  case round =>
    obtain ⟨k, hk, rfl, hb⟩ := hrel
    have HBB := Lib.hid hb
    by_cases hlt : k < n
    · have t7 : (k : Int) < (n : Int) := by omega
      obtain ⟨b1, off1, hA1, hb1w, hx1, hi1⟩ := R5.out (by omega)
      have ix1 := hi1 k hlt k rfl
      rw [← hA1] at ix1
      obtain ⟨c0, _, _, _⟩ := pc_cells (hx1 k hlt)
      have c0 := (hb.cell (p := ⟨b1, off1 + k * 4, none⟩) hb1w).trans c0
      rw [HON.out (L.getD k pc0) (by rw [List.getD_eq_getElem?_getD, List.getElem?_eq_getElem (by rw [← HN.out]; exact hlt)]; exact List.getElem_mem _)] at c0
      generalize off1 + k * 4 = o1 at *
      clear hx1 hi1 hA1 hb
      go_wp2
      go_roundw
      case rel => exact ⟨k + 1, by omega, by go_num, HBB.out⟩
      case measure => simp [intOf]; omega
    · obtain rfl : k = n := by omega
      have t7 : ¬ (k : Int) < (k : Int) := by omega
      have t8 : (1 : Int) ≤ (k : Int) := by omega
      go_wp2
      go_ret
      exact ⟨rfl, B4.out.trans (HBB.out.mono B4.out.size)⟩
theorem walk_deltaOwn (s : ByteArray) (w : World) (hlaid : Laid w) (hs : s.size ≤ maxLen) :
    Calls Tryd.prog 8 #[.string s] w fun e w' => e = .returned (.bool true) ∧ Below w.heap.size w w' := by
  by_cases t1 : (200 : Int) < (s.size : Int)
  · exact own11_long s w hlaid t1
  rcases Nat.eq_zero_or_pos s.size with hz | hp
  · exact own11_zero s w hlaid hz
  by_cases t2 : (24 : Int) ≤ (s.size : Int)
  · by_cases t6 : (s.size : Int) % 8 = 0
    · exact own11_loop s w hlaid t1 hp t2 t6
    · exact own11_skip2 s w hlaid t1 hp t2 t6
  · exact own11_skip1 s w hlaid t1 hp t2
end Go.Proofs.YtnencoainacpoaaDoor

