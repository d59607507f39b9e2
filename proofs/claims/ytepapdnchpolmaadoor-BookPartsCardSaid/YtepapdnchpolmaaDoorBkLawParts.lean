import Derived.Test.YtepapdnchpolmaaDoorBkAwake
import Derived.Test.YtepapdnchpolmaaDoorGArgs
import Derived.Test.YtepapdnchpolmaaDoorBkFew
import Derived.Test.YtepapdnchpolmaaDoorBkPartsMath
import Derived.Test.YtepapdnchpolmaaDoorGUni
import Derived.Deep.RegionHeld3
/-
  The law BookParts: for every book and number it answers true, and nothing that was there is written.
-/
namespace Go.Proofs.YtepapdnchpolmaaDoor
open Go.RowKit WM
set_option linter.unusedVariables false
set_option maxRecDepth 100000
theorem sl_rec (b off len cap k : Nat) (h : k < cap) (K H : Int) (eK : K = k) (eH : H = k + 1) (w : World) : (Instr.slice 39 (.slice (some ⟨b, off, none⟩) len cap) (some (.int .i64 K)) (some (.int .i64 H)) none).run Tryd.prog w = .ok (.slice (some ⟨b, off + k * 19, none⟩) 1 (cap - k)) w := by
  subst eK eH
  rw [run_slice_lh w 39 _ len cap (by rw [elemRec]; exact Tryd.underlying39) .i64 .i64 k (k + 1) (by omega) (by omega) (by omega), elemRec, sizeRecW]
  have h1 : ((k : Int) + 1).toNat = k + 1 := by omega
  have h2 : (k : Int).toNat = k := by omega
  have h3 : k + 1 - k = 1 := by omega
  simp [sliced, Result.andThen, Addr.add_lit, h1, h2, h3]
  omega
theorem bbuilt_none : Tryd.prog.built 41 [] = some #[.slice none 0 0] := by kernel_rfl
theorem bbook_none (w : World) : (Instr.build 41 #[]).run Tryd.prog w = .ok (.agg #[.slice none 0 0]) w := run_build w _ _ _ bbuilt_none
theorem bbuilt_one (A : Option Addr) (l c : Nat) : Tryd.prog.built 41 [(0, .slice A l c)] = some #[.slice A l c] := by kernel_rfl
theorem bbook_one' (A : Option Addr) (l c : Nat) (w : World) : (Instr.build 41 #[(0, .slice A l c)]).run Tryd.prog w = .ok (.agg #[.slice A l c]) w := run_build w _ _ _ (bbuilt_one A l c)
theorem bbook_one {A : Option Addr} {l c : Nat} (w : World) : (Instr.build 41 #[(0, .slice A l c)]).run Tryd.prog w = .ok (.agg #[.slice A l c]) w := bbook_one' A l c w
theorem bk_sub {w : World} {b0 o c : Nat} {x : RcA} (hb : b0 < w.heap.size) (h1 : 1 ≤ c) (h2 : c ≤ maxLen) (hx : RecAt w b0 o x) (hv : RvAt w x) : BkAt w ⟨[x], some ⟨b0, o, none⟩, c⟩ :=
  ⟨h1, h2, (fun e => by cases e), fun _ => ⟨b0, o, rfl, hb, fun i hi => by
    obtain rfl : i = 0 := by simpa using hi
    simpa using hx⟩, fun y hy => by rw [List.mem_singleton.1 hy]; exact hv⟩
set_option maxHeartbeats 16000000 in
theorem bparts_few (b : Bk) (n : Int) (w : World) (hlaid : Laid w) (wb : BkAt w b) (iPB : fewB b.rs = false) :
    Calls Tryd.prog 9 #[.agg #[.slice b.A b.xs.length b.c], .int .i64 n] w fun e w' => e = .returned (.bool true) ∧ Below w.heap.size w w' := by
  have HLA := Lib.hid (fun (X : World) (hX : Below w.heap.size w X) => hlaid.below hX (Nat.le_refl _))
  have Fb := Lib.hid wb
  have PB := Lib.hid iPB
  clear hlaid wb iPB
  have B1 := Lib.hid (Below.refl w.heap.size w)
  have T2n := BoAt.new w (.slice b.A b.xs.length b.c)
  have T2 := Lib.hid T2n
  clear T2n
  have B3 := Lib.hid (B1.out.alloc B1.out.size (.cells #[(.slice b.A b.xs.length b.c)] 41))
  have F4 := Lib.hid (Fb.out.below B3.out (Nat.le_refl _))
  go_enter Tryd.func9, Tryd.ntmps9
  have C5 := Lib.hid (bkAwake (w.alloc (.cells #[(.slice b.A b.xs.length b.c)] 41)) (HLA.out _ B3.out))
  go_wp2_with fail
  refine C5.out.mono ?_
  rintro e w6 ⟨rfl, hb7⟩
  have T8 := Lib.hid (T2.out.below hb7 T2.out.lt)
  have F9 := Lib.hid (F4.out.below hb7 (Nat.le_refl _))
  have B10 := Lib.hid (B3.out.trans (hb7.mono B3.out.size))
  clear hb7
  have M11 := Lib.hid (T8.out.load)
  have C12 := Lib.hid (fewB_any b w6 F9.out)
  rw [PB.out] at C12
  go_wp2_with (first | ((with_reducible refine wpList_load_by (o := ⟨some 13, .load 41 (.tmp 2), _, _, _, _⟩) ?e1 41 (.tmp 2) ?e2 ⟨w.heap.size, 0, none⟩ ?e3 _ M11.out ?_); (case e1 => rfl); (case e2 => rfl); (case e3 => rfl)))
  refine C12.out.mono ?_
  rintro e w13 ⟨rfl, hb14⟩
  have T15 := Lib.hid (T8.out.below hb14 T8.out.lt)
  have F16 := Lib.hid (F9.out.below hb14 (Nat.le_refl _))
  have B17 := Lib.hid (B10.out.trans (hb14.mono B10.out.size))
  clear hb14
  go_wp2
  go_ret
  exact ⟨rfl, B17.out⟩
set_option maxHeartbeats 16000000 in
theorem bparts_may (b : Bk) (n : Int) (w : World) (hlaid : Laid w) (wb : BkAt w b) (iPB : fewB b.rs = true) (iMB : bmay b.rs = false) :
    Calls Tryd.prog 9 #[.agg #[.slice b.A b.xs.length b.c], .int .i64 n] w fun e w' => e = .returned (.bool true) ∧ Below w.heap.size w w' := by
  have HLA := Lib.hid (fun (X : World) (hX : Below w.heap.size w X) => hlaid.below hX (Nat.le_refl _))
  have Fb := Lib.hid wb
  have PB := Lib.hid iPB
  have MB := Lib.hid iMB
  clear hlaid wb iPB iMB
  have B1 := Lib.hid (Below.refl w.heap.size w)
  have T2n := BoAt.new w (.slice b.A b.xs.length b.c)
  have T2 := Lib.hid T2n
  clear T2n
  have B3 := Lib.hid (B1.out.alloc B1.out.size (.cells #[(.slice b.A b.xs.length b.c)] 41))
  have F4 := Lib.hid (Fb.out.below B3.out (Nat.le_refl _))
  go_enter Tryd.func9, Tryd.ntmps9
  have C5 := Lib.hid (bkAwake (w.alloc (.cells #[(.slice b.A b.xs.length b.c)] 41)) (HLA.out _ B3.out))
  go_wp2_with fail
  refine C5.out.mono ?_
  rintro e w6 ⟨rfl, hb7⟩
  have T8 := Lib.hid (T2.out.below hb7 T2.out.lt)
  have F9 := Lib.hid (F4.out.below hb7 (Nat.le_refl _))
  have B10 := Lib.hid (B3.out.trans (hb7.mono B3.out.size))
  clear hb7
  have M11 := Lib.hid (T8.out.load)
  have C12 := Lib.hid (fewB_any b w6 F9.out)
  rw [PB.out] at C12
  go_wp2_with (first | ((with_reducible refine wpList_load_by (o := ⟨some 13, .load 41 (.tmp 2), _, _, _, _⟩) ?e1 41 (.tmp 2) ?e2 ⟨w.heap.size, 0, none⟩ ?e3 _ M11.out ?_); (case e1 => rfl); (case e2 => rfl); (case e3 => rfl)))
  refine C12.out.mono ?_
  rintro e w13 ⟨rfl, hb14⟩
  have T15 := Lib.hid (T8.out.below hb14 T8.out.lt)
  have F16 := Lib.hid (F9.out.below hb14 (Nat.le_refl _))
  have B17 := Lib.hid (B10.out.trans (hb14.mono B10.out.size))
  clear hb14
  have M18 := Lib.hid (T15.out.load)
  have C19 := Lib.hid (bmay_any b w13 F16.out)
  rw [MB.out] at C19
  go_wp2_with (first | ((with_reducible refine wpList_load_by (o := ⟨some 22, .load 41 (.tmp 2), _, _, _, _⟩) ?e1 41 (.tmp 2) ?e2 ⟨w.heap.size, 0, none⟩ ?e3 _ M18.out ?_); (case e1 => rfl); (case e2 => rfl); (case e3 => rfl)))
  refine C19.out.mono ?_
  rintro e w20 ⟨rfl, hb21⟩
  have T22 := Lib.hid (T15.out.below hb21 T15.out.lt)
  have F23 := Lib.hid (F16.out.below hb21 (Nat.le_refl _))
  have B24 := Lib.hid (B17.out.trans (hb21.mono B17.out.size))
  clear hb21
  go_wp2
  go_ret
  exact ⟨rfl, B24.out⟩
set_option maxHeartbeats 16000000 in
theorem bparts_low (b : Bk) (n : Int) (w : World) (hlaid : Laid w) (wb : BkAt w b) (t1 : n < 0) (iPB : fewB b.rs = true) (iMB : bmay b.rs = true) :
    Calls Tryd.prog 9 #[.agg #[.slice b.A b.xs.length b.c], .int .i64 n] w fun e w' => e = .returned (.bool true) ∧ Below w.heap.size w w' := by
  have HLA := Lib.hid (fun (X : World) (hX : Below w.heap.size w X) => hlaid.below hX (Nat.le_refl _))
  have Fb := Lib.hid wb
  have PB := Lib.hid iPB
  have MB := Lib.hid iMB
  clear hlaid wb iPB iMB
  have B1 := Lib.hid (Below.refl w.heap.size w)
  have T2n := BoAt.new w (.slice b.A b.xs.length b.c)
  have T2 := Lib.hid T2n
  clear T2n
  have B3 := Lib.hid (B1.out.alloc B1.out.size (.cells #[(.slice b.A b.xs.length b.c)] 41))
  have F4 := Lib.hid (Fb.out.below B3.out (Nat.le_refl _))
  go_enter Tryd.func9, Tryd.ntmps9
  have C5 := Lib.hid (bkAwake (w.alloc (.cells #[(.slice b.A b.xs.length b.c)] 41)) (HLA.out _ B3.out))
  go_wp2_with fail
  refine C5.out.mono ?_
  rintro e w6 ⟨rfl, hb7⟩
  have T8 := Lib.hid (T2.out.below hb7 T2.out.lt)
  have F9 := Lib.hid (F4.out.below hb7 (Nat.le_refl _))
  have B10 := Lib.hid (B3.out.trans (hb7.mono B3.out.size))
  clear hb7
  have M11 := Lib.hid (T8.out.load)
  have C12 := Lib.hid (fewB_any b w6 F9.out)
  rw [PB.out] at C12
  go_wp2_with (first | ((with_reducible refine wpList_load_by (o := ⟨some 13, .load 41 (.tmp 2), _, _, _, _⟩) ?e1 41 (.tmp 2) ?e2 ⟨w.heap.size, 0, none⟩ ?e3 _ M11.out ?_); (case e1 => rfl); (case e2 => rfl); (case e3 => rfl)))
  refine C12.out.mono ?_
  rintro e w13 ⟨rfl, hb14⟩
  have T15 := Lib.hid (T8.out.below hb14 T8.out.lt)
  have F16 := Lib.hid (F9.out.below hb14 (Nat.le_refl _))
  have B17 := Lib.hid (B10.out.trans (hb14.mono B10.out.size))
  clear hb14
  have M18 := Lib.hid (T15.out.load)
  have C19 := Lib.hid (bmay_any b w13 F16.out)
  rw [MB.out] at C19
  go_wp2_with (first | ((with_reducible refine wpList_load_by (o := ⟨some 22, .load 41 (.tmp 2), _, _, _, _⟩) ?e1 41 (.tmp 2) ?e2 ⟨w.heap.size, 0, none⟩ ?e3 _ M18.out ?_); (case e1 => rfl); (case e2 => rfl); (case e3 => rfl)))
  refine C19.out.mono ?_
  rintro e w20 ⟨rfl, hb21⟩
  have T22 := Lib.hid (T15.out.below hb21 T15.out.lt)
  have F23 := Lib.hid (F16.out.below hb21 (Nat.le_refl _))
  have B24 := Lib.hid (B17.out.trans (hb21.mono B17.out.size))
  clear hb21
  go_wp2
  go_ret
  exact ⟨rfl, B24.out⟩
set_option maxHeartbeats 16000000 in
theorem bparts_high (b : Bk) (n : Int) (w : World) (hlaid : Laid w) (wb : BkAt w b) (t1 : ¬ n < 0) (t2 : (b.xs.length : Int) ≤ n) (iPB : fewB b.rs = true) (iMB : bmay b.rs = true) :
    Calls Tryd.prog 9 #[.agg #[.slice b.A b.xs.length b.c], .int .i64 n] w fun e w' => e = .returned (.bool true) ∧ Below w.heap.size w w' := by
  have HLA := Lib.hid (fun (X : World) (hX : Below w.heap.size w X) => hlaid.below hX (Nat.le_refl _))
  have Fb := Lib.hid wb
  have PB := Lib.hid iPB
  have MB := Lib.hid iMB
  clear hlaid wb iPB iMB
  have B1 := Lib.hid (Below.refl w.heap.size w)
  have T2n := BoAt.new w (.slice b.A b.xs.length b.c)
  have T2 := Lib.hid T2n
  clear T2n
  have B3 := Lib.hid (B1.out.alloc B1.out.size (.cells #[(.slice b.A b.xs.length b.c)] 41))
  have F4 := Lib.hid (Fb.out.below B3.out (Nat.le_refl _))
  go_enter Tryd.func9, Tryd.ntmps9
  have C5 := Lib.hid (bkAwake (w.alloc (.cells #[(.slice b.A b.xs.length b.c)] 41)) (HLA.out _ B3.out))
  go_wp2_with fail
  refine C5.out.mono ?_
  rintro e w6 ⟨rfl, hb7⟩
  have T8 := Lib.hid (T2.out.below hb7 T2.out.lt)
  have F9 := Lib.hid (F4.out.below hb7 (Nat.le_refl _))
  have B10 := Lib.hid (B3.out.trans (hb7.mono B3.out.size))
  clear hb7
  have M11 := Lib.hid (T8.out.load)
  have C12 := Lib.hid (fewB_any b w6 F9.out)
  rw [PB.out] at C12
  go_wp2_with (first | ((with_reducible refine wpList_load_by (o := ⟨some 13, .load 41 (.tmp 2), _, _, _, _⟩) ?e1 41 (.tmp 2) ?e2 ⟨w.heap.size, 0, none⟩ ?e3 _ M11.out ?_); (case e1 => rfl); (case e2 => rfl); (case e3 => rfl)))
  refine C12.out.mono ?_
  rintro e w13 ⟨rfl, hb14⟩
  have T15 := Lib.hid (T8.out.below hb14 T8.out.lt)
  have F16 := Lib.hid (F9.out.below hb14 (Nat.le_refl _))
  have B17 := Lib.hid (B10.out.trans (hb14.mono B10.out.size))
  clear hb14
  have M18 := Lib.hid (T15.out.load)
  have C19 := Lib.hid (bmay_any b w13 F16.out)
  rw [MB.out] at C19
  go_wp2_with (first | ((with_reducible refine wpList_load_by (o := ⟨some 22, .load 41 (.tmp 2), _, _, _, _⟩) ?e1 41 (.tmp 2) ?e2 ⟨w.heap.size, 0, none⟩ ?e3 _ M18.out ?_); (case e1 => rfl); (case e2 => rfl); (case e3 => rfl)))
  refine C19.out.mono ?_
  rintro e w20 ⟨rfl, hb21⟩
  have T22 := Lib.hid (T15.out.below hb21 T15.out.lt)
  have F23 := Lib.hid (F16.out.below hb21 (Nat.le_refl _))
  have B24 := Lib.hid (B17.out.trans (hb21.mono B17.out.size))
  clear hb21
  have c0 := T22.out.c0
  go_wp2
  go_ret
  exact ⟨rfl, B24.out⟩
set_option maxHeartbeats 16000000 in
theorem bparts_yes (b : Bk) (n : Nat) (w : World) (hlaid : Laid w) (wb : BkAt w b) (hn : n < b.xs.length) (iPB : fewB b.rs = true) (iMB : bmay b.rs = true) :
    Calls Tryd.prog 9 #[.agg #[.slice b.A b.xs.length b.c], .int .i64 n] w fun e w' => e = .returned (.bool true) ∧ Below w.heap.size w w' := by
  have HLA := Lib.hid (fun (X : World) (hX : Below w.heap.size w X) => hlaid.below hX (Nat.le_refl _))
  have Fb := Lib.hid wb
  have PB := Lib.hid iPB
  have MB := Lib.hid iMB
  have t8 : ¬ (n : Int) < 0 := by omega
  have t9 : ¬ (b.xs.length : Int) ≤ (n : Int) := by omega
  have e28 : decide ((n : Int) < 0) = false := decide_eq_false t8
  have e35 : decide (b.xs.length ≤ n) = false := decide_eq_false (by omega)
  have hlen := (fewB_fs iPB).1
  have HRV := Lib.hid (fun i (hi : i < b.xs.length) => RsAt.rv wb hi)
  obtain ⟨hbl, hbm, -, hcell, -⟩ := wb
  have HBC := Lib.hid (And.intro hbl hbm)
  have HC := Lib.hid hcell
  clear hlaid hbl hbm hcell iPB iMB
  have B1 := Lib.hid (Below.refl w.heap.size w)
  have T2n := BoAt.new w (.slice b.A b.xs.length b.c)
  have T2 := Lib.hid T2n
  clear T2n
  have B3 := Lib.hid (B1.out.alloc B1.out.size (.cells #[(.slice b.A b.xs.length b.c)] 41))
  have F4 := Lib.hid (Fb.out.below B3.out (Nat.le_refl _))
  go_enter Tryd.func9, Tryd.ntmps9
  have C5 := Lib.hid (bkAwake (w.alloc (.cells #[(.slice b.A b.xs.length b.c)] 41)) (HLA.out _ B3.out))
  go_wp2_with fail
  refine C5.out.mono ?_
  rintro e w6 ⟨rfl, hb7⟩
  have T8 := Lib.hid (T2.out.below hb7 T2.out.lt)
  have F9 := Lib.hid (F4.out.below hb7 (Nat.le_refl _))
  have B10 := Lib.hid (B3.out.trans (hb7.mono B3.out.size))
  clear hb7
  have M11 := Lib.hid (T8.out.load)
  have C12 := Lib.hid (fewB_any b w6 F9.out)
  rw [PB.out] at C12
  go_wp2_with (first | ((with_reducible refine wpList_load_by (o := ⟨some 13, .load 41 (.tmp 2), _, _, _, _⟩) ?e1 41 (.tmp 2) ?e2 ⟨w.heap.size, 0, none⟩ ?e3 _ M11.out ?_); (case e1 => rfl); (case e2 => rfl); (case e3 => rfl)))
  refine C12.out.mono ?_
  rintro e w13 ⟨rfl, hb14⟩
  have T15 := Lib.hid (T8.out.below hb14 T8.out.lt)
  have F16 := Lib.hid (F9.out.below hb14 (Nat.le_refl _))
  have B17 := Lib.hid (B10.out.trans (hb14.mono B10.out.size))
  clear hb14
  have M18 := Lib.hid (T15.out.load)
  have C19 := Lib.hid (bmay_any b w13 F16.out)
  rw [MB.out] at C19
  go_wp2_with (first | ((with_reducible refine wpList_load_by (o := ⟨some 22, .load 41 (.tmp 2), _, _, _, _⟩) ?e1 41 (.tmp 2) ?e2 ⟨w.heap.size, 0, none⟩ ?e3 _ M18.out ?_); (case e1 => rfl); (case e2 => rfl); (case e3 => rfl)))
  refine C19.out.mono ?_
  rintro e w20 ⟨rfl, hb21⟩
  have T22 := Lib.hid (T15.out.below hb21 T15.out.lt)
  have F23 := Lib.hid (F16.out.below hb21 (Nat.le_refl _))
  have B24 := Lib.hid (B17.out.trans (hb21.mono B17.out.size))
  clear hb21
  have c0 := T22.out.c0
  have hbz := bbook_none
  have HNE := Lib.hid (show w.heap.size < w20.heap.size from T22.out.lt)
  have hb25 := (Below.refl w20.heap.size w20).alloc (Nat.le_refl _) (.cells #[.slice none 0 0] 41)
  have T26 := Lib.hid (BoAt.new w20 (.slice none 0 0))
  have T27 := Lib.hid (T22.out.below hb25 T22.out.lt)
  have F28 := Lib.hid (F23.out.below hb25 (Nat.le_refl _))
  have B29 := Lib.hid (B24.out.trans (hb25.mono B24.out.size))
  clear hb25
  go_wp2
  clear c0
  go_loopw [8] (fun i wr => ∃ k : Nat, k ≤ b.xs.length ∧ i = .int .i64 k ∧ BoAt wr w.heap.size (.slice b.A b.xs.length b.c) ∧ Below w.heap.size w wr ∧ ∃ d : Bk, d.rs = part b.rs n k ∧ BkAt wr d ∧ BoAt wr w20.heap.size (.slice d.A d.xs.length d.c)) (fun i _ => b.xs.length - (intOf i).toNat)
  case atStart => exact ⟨0, Nat.zero_le _, rfl, T27.out, B29.out, bk0, (part_zero _ _).symm, BkAt.zero _, T26.out⟩
  case round =>
    obtain ⟨k, hk, rfl, h2, hb, d, hd, hkd, h7⟩ := hrel
    have c0 := h2.c0
    have D2 := Lib.hid h2
    have D7 := Lib.hid h7
    have HB := Lib.hid hb
    have HD := Lib.hid hd
    have HK := Lib.hid hkd
    clear h2 h7 hb hd hkd
    by_cases hlt : k < b.xs.length
    · have t1 : (k : Int) < (b.xs.length : Int) := by omega
      have t0 : ¬ (b.xs.length : Int) = 0 := by omega
      obtain ⟨b0, off, hA, hb0, hcc⟩ := HC.out (by omega)
      obtain ⟨m, hm⟩ : ∃ m, m = (k + n) % b.xs.length := ⟨_, rfl⟩
      have hml : m < b.xs.length := by rw [hm]; exact Nat.mod_lt _ (by omega)
      have hx0 := hcc m hml
      have hbc := HBC.out
      have SL := Lib.hid (sl_rec b0 off b.xs.length b.c m (by omega) (m : Int) ((m : Int) + 1) rfl rfl)
      rw [← hA] at SL
      have HW : Hid (IntKind.i64.wrap ((m : Int) + 1) = (m : Int) + 1) := Lib.hid (by rw [IntKind.wrap_i64]; omega)
      have w1 : IntKind.i64.wrap ((k : Int) + (n : Int)) = (k : Int) + (n : Int) := IntWalk.i64_in _ (by omega)
      have hrem : Int.tmod ((k : Int) + (n : Int)) (b.xs.length : Int) = (m : Int) := by rw [hm]; rfl
      have w2 : IntKind.i64.wrap (m : Int) = (m : Int) := IntWalk.i64_in _ (by omega)
      have PS := part_succ (n := n) (i := k) MB.out (by unfold Bk.rs; rw [List.length_map]; omega)
      have hgx : b.rs.getD ((k + n) % b.rs.length) rc0 = (b.xs.getD m rcA0).R := by
        have e9 : b.rs.length = b.xs.length := by unfold Bk.rs; rw [List.length_map]
        rw [e9, ← hm]
        unfold Bk.rs
        simp [List.getD, List.getElem?_eq_getElem hml]
      rw [hgx, ← HD.out] at PS
      have HX := Lib.hid hx0
      have HVX := Lib.hid (HRV.out m hml)
      generalize b.xs.getD m rcA0 = x at *
      have HS1 : Hid (BkAt w ⟨[x], some ⟨b0, off + m * 19, none⟩, b.c - m⟩) := Lib.hid (bk_sub hb0 (by omega) (by omega) HX.out HVX.out)
      have HJ := Lib.hid (fun (w9 : World) (hS : Below wr.heap.size wr w9) => bjoin_any ⟨[x], some ⟨b0, off + m * 19, none⟩, b.c - m⟩ d w9 (HLA.out _ (HB.out.trans (hS.mono HB.out.size))) (HS1.out.below (HB.out.trans (hS.mono HB.out.size)) (Nat.le_refl _)) (HK.out.below hS (Nat.le_refl _)))
      have hPS : bjE (Bk.rs ⟨[x], some ⟨b0, off + m * 19, none⟩, b.c - m⟩) d.rs = (0, part b.rs n (k + 1)) := PS
      rw [hPS] at HJ
      unfold BJoinPost at HJ
      dsimp only [List.length_cons, List.length_nil] at HJ
      clear hcc hx0 PS hPS hgx hbc hm hA
      go_wp2_with fail
      refine wp_region_held_drew (S := fun w' => Below wr.heap.size wr w') (by kernel_rfl) ((Below.refl wr.heap.size wr).drew) (fun hS => ?_)
      refine wpAnyH_take (i := 0) (oi := ⟨some 54, _, _, _, _, _⟩) (v := ?_) rfl (by kernel_rfl) (by kernel_rfl) (by kernel_rfl) (fun _ _ _ h => h) (Or.inl ⟨by rfl, ?_⟩) hS ?_; rotate_left; (focus (intro w9 hSw; (try dsimp only at hSw); go_simp; try with_reducible rfl)); simp only [Act.put, List.setIfInBounds_toArray, List.set_cons_zero, List.set_cons_succ]
      refine wpAnyH_take (i := 1) (oi := ⟨some 55, _, _, _, _, _⟩) (v := ?_) rfl (by kernel_rfl) (by kernel_rfl) (by kernel_rfl) (fun _ _ _ h => h) (Or.inl ⟨by rfl, ?_⟩) hS ?_; rotate_left; (focus (intro w9 hSw; (try dsimp only at hSw); have q0 := (D2.out.below hSw D2.out.lt).c0; go_simp; try with_reducible rfl)); simp only [Act.put, List.setIfInBounds_toArray, List.set_cons_zero, List.set_cons_succ]
      refine wpAnyH_take (i := 2) (oi := ⟨some 56, _, _, _, _, _⟩) (v := ?_) rfl (by kernel_rfl) (by kernel_rfl) (by kernel_rfl) (fun _ _ _ h => h) (Or.inl ⟨by rfl, ?_⟩) hS ?_; rotate_left; (focus (intro w9 hSw; (try dsimp only at hSw); go_simp; try with_reducible rfl)); simp only [Act.put, List.setIfInBounds_toArray, List.set_cons_zero, List.set_cons_succ]
      refine wpAnyH_take (i := 3) (oi := ⟨some 57, _, _, _, _, _⟩) (v := ?_) rfl (by kernel_rfl) (by kernel_rfl) (by kernel_rfl) (fun _ _ _ h => h) (Or.inl ⟨by rfl, ?_⟩) hS ?_; rotate_left; (focus (intro w9 hSw; (try dsimp only at hSw); go_simp; try with_reducible rfl)); simp only [Act.put, List.setIfInBounds_toArray, List.set_cons_zero, List.set_cons_succ]
      refine wpAnyH_take (i := 4) (oi := ⟨some 58, _, _, _, _, _⟩) (v := (.int .i64 ((m : Int) + 1))) rfl (by kernel_rfl) (by kernel_rfl) (by kernel_rfl) (fun _ _ _ h => h) (Or.inl ⟨by rfl, ?_⟩) hS ?_; (focus (intro w9 hSw; (try dsimp only at hSw); go_simp; exact HW.out)); simp only [Act.put, List.setIfInBounds_toArray, List.set_cons_zero, List.set_cons_succ]
      refine wpAnyH_take (i := 5) (oi := ⟨some 59, _, _, _, _, _⟩) (v := (.slice (some ⟨b0, off + m * 19, none⟩) 1 (b.c - m))) rfl (by kernel_rfl) (by kernel_rfl) (by kernel_rfl) (fun _ _ _ h => h) (Or.inl ⟨by rfl, ?_⟩) hS ?_; (focus (intro w9 hSw; (try dsimp only at hSw); have q0 := SL.out w9; go_simp; try rfl)); simp only [Act.put, List.setIfInBounds_toArray, List.set_cons_zero, List.set_cons_succ]
      refine wpAnyH_take (i := 6) (oi := ⟨some 60, _, _, _, _, _⟩) (v := (.agg #[(.slice (some ⟨b0, off + m * 19, none⟩) 1 (b.c - m))])) rfl (by kernel_rfl) (by kernel_rfl) (by kernel_rfl) (fun _ _ _ h => h) (Or.inl ⟨by rfl, ?_⟩) hS ?_; (focus (intro w9 hSw; (try dsimp only at hSw); refine exec_build_by _ _ rfl #[(0, (.slice (some ⟨b0, off + m * 19, none⟩) 1 (b.c - m)))] ?_ (bbook_one w9); simp only [List.map_toArray, List.map_cons, List.map_nil]; rfl)); simp only [Act.put, List.setIfInBounds_toArray, List.set_cons_zero, List.set_cons_succ]
      refine wpAnyH_take (i := 7) (oi := ⟨some 61, _, _, _, _, _⟩) (v := (.agg #[.slice d.A d.xs.length d.c])) rfl (by kernel_rfl) (by kernel_rfl) (by kernel_rfl) (fun _ _ _ h => h) (Or.inl ⟨by rfl, ?_⟩) hS ?_; (focus (intro w9 hSw; (try dsimp only at hSw); exact exec_load_by 41 _ rfl ⟨w20.heap.size, 0, none⟩ rfl (D7.out.below hSw D7.out.lt).load)); simp only [Act.put, List.setIfInBounds_toArray, List.set_cons_zero, List.set_cons_succ]
      refine wpAnyH_ready (rs := [8, 12]) (by kernel_rfl) (by simp) (AllReadyH.cons (o := ⟨some 62, _, _, _, _, _⟩) rfl (fun K hK => ?_) (AllReadyH.cons (o := ⟨some 10, _, _, _, _, _⟩) rfl (fun K hK => ?_) AllReadyH.nil))
      · go_simp
        refine (HJ.out _ hS).mono ?_
        rintro e x0 ⟨d', rfl, hd, hk, hb0⟩
        have hbx := hS.trans (hb0.mono hS.size)
        clear hS
        refine hK.out _ _ hbx (fun hS => ?_)
        clear hK K
        refine wpAnyH_take (i := 9) (oi := ⟨some 53, _, _, _, _, _⟩) (v := ?_) rfl (by kernel_rfl) (by kernel_rfl) (by kernel_rfl) (fun _ _ _ h => h) (Or.inl ⟨by rfl, ?_⟩) hS ?_; rotate_left; (focus (intro w9 hSw; (try dsimp only at hSw); go_simp; try with_reducible rfl)); simp only [Act.put, List.setIfInBounds_toArray, List.set_cons_zero, List.set_cons_succ]
        refine wpAnyH_take (i := 10) (oi := ⟨some 63, _, _, _, _, _⟩) (v := ?_) rfl (by kernel_rfl) (by kernel_rfl) (by kernel_rfl) (fun _ _ _ h => h) (Or.inl ⟨by rfl, ?_⟩) hS ?_; rotate_left; (focus (intro w9 hSw; (try dsimp only at hSw); go_simp; try with_reducible rfl)); simp only [Act.put, List.setIfInBounds_toArray, List.set_cons_zero, List.set_cons_succ]
        refine wpAnyH_take (i := 11) (oi := ⟨some 64, _, _, _, _, _⟩) (v := ?_) rfl (by kernel_rfl) (by kernel_rfl) (by kernel_rfl) (fun _ _ _ h => h) (Or.inl ⟨by rfl, ?_⟩) hS ?_; rotate_left; (focus (intro w9 hSw; (try dsimp only at hSw); go_simp; try with_reducible rfl)); simp only [Act.put, List.setIfInBounds_toArray, List.set_cons_zero, List.set_cons_succ]
        refine wpAnyH_ready (rs := [12]) (by kernel_rfl) (by simp) (AllReadyH.cons (o := ⟨some 10, _, _, _, _, _⟩) rfl (fun K hK => ?_) AllReadyH.nil)
        go_simp
        refine hK.out _ _ (hbx.alloc hbx.size _) (fun hS => ?_)
        clear hK K
        have G := BoAt.new x0 (.slice none 0 0)
        have E10 := Lib.hid (BoAt.new x0 (.slice d'.A d'.xs.length d'.c))
        have EB := Lib.hid (hbx.alloc hbx.size (.cells #[(.slice d'.A d'.xs.length d'.c)] 41))
        have KD := Lib.hid (hk.below ((Below.refl x0.heap.size x0).alloc (Nat.le_refl _) (.cells #[(.slice d'.A d'.xs.length d'.c)] 41)) (Nat.le_refl _))
        clear hk hb0
        refine wpAnyH_ready (rs := [13]) (by kernel_rfl) (by simp) (AllReadyH.cons (o := ⟨none, _, _, _, _, _⟩) rfl (fun K hK => ?_) AllReadyH.nil)
        have g0 := G.c0
        have gf := G.fz 0
        go_simp
        refine hK.out _ _ EB.out (fun hS => ?_)
        clear hK K g0 gf
        refine wpAnyH_take (i := 14) (oi := ⟨some 11, _, _, _, _, _⟩) (v := ?_) rfl (by kernel_rfl) (by kernel_rfl) (by kernel_rfl) (fun _ _ _ h => h) (Or.inl ⟨by rfl, ?_⟩) hS ?_; rotate_left; (focus (intro w9 hSw; (try dsimp only at hSw); go_simp; try with_reducible rfl)); simp only [Act.put, List.setIfInBounds_toArray, List.set_cons_zero, List.set_cons_succ]
        have D2x := Lib.hid (D2.out.below EB.out D2.out.lt)
        have D7x := Lib.hid (D7.out.below EB.out D7.out.lt)
        have EW := Lib.hid (HB.out.trans (EB.out.mono HB.out.size))
        have HD2 := Lib.hid hd
        have L10 := Lib.hid E10.out.load
        clear hd c0
        refine wpAnyH_done (by kernel_rfl) ?_ _
        go_wp2_with (first | ((with_reducible refine wpList_load_by (o := ⟨some 67, .load 41 (.tmp 10), _, _, _, _⟩) ?e1 41 (.tmp 10) ?e2 ⟨x0.heap.size, 0, none⟩ ?e3 _ L10.out ?_); (case e1 => rfl); (case e2 => rfl); (case e3 => rfl)) | ((with_reducible refine wpList_store_oldb (o := ⟨none, .store 41 (.tmp 7) (.tmp 67), _, _, _, _⟩) ?e1 (.tmp 7) (.tmp 67) ?e2 w20.heap.size _ D7x.out ?e3 (.slice d'.A d'.xs.length d'.c) ?e4 ?e5 ?_); (case e1 => rfl); (case e2 => rfl); (case e3 => rfl); (case e4 => rfl); (case e5 => rfl); intro w2 hg2 hx2; have G9 := Lib.hid hg2; have X9 := Lib.hid hx2; clear hg2 hx2))
        go_roundw
        case rel => exact ⟨k + 1, by omega, by go_num, D2x.out.same (G9.out.block _ D2x.out.lt (fun e => by have := Option.some.inj e; have := HNE.out; omega)), EW.out.grown G9.out EW.out.size (fun k e => by have := Option.some.inj e; have := HNE.out; omega), d', HD2.out, KD.out.kept_bo G9.out D7x.out, X9.out⟩
        case measure => simp [intOf]; omega
      · go_simp
        refine hK.out _ _ (hS.alloc hS.size _) (fun hS => ?_)
        clear hK K
        have hb1 := hS
        have G1 : BoAt (wr.drew.alloc (.cells #[.slice none 0 0] 41)) wr.heap.size (.slice none 0 0) := BoAt.new wr.drew (.slice none 0 0)
        refine wpAnyH_ready (rs := [8]) (by kernel_rfl) (by simp) (AllReadyH.cons (o := ⟨some 62, _, _, _, _, _⟩) rfl (fun K hK => ?_) AllReadyH.nil)
        go_simp
        refine (HJ.out _ hS).mono ?_
        rintro e x0 ⟨d', rfl, hd, hk, hb0⟩
        have hbx := hb1.trans (hb0.mono hb1.size)
        have G := G1.below hb0 G1.lt
        clear hS hb1 G1
        refine hK.out _ _ hbx (fun hS => ?_)
        clear hK K
        refine wpAnyH_take (i := 9) (oi := ⟨some 53, _, _, _, _, _⟩) (v := ?_) rfl (by kernel_rfl) (by kernel_rfl) (by kernel_rfl) (fun _ _ _ h => h) (Or.inl ⟨by rfl, ?_⟩) hS ?_; rotate_left; (focus (intro w9 hSw; (try dsimp only at hSw); go_simp; try with_reducible rfl)); simp only [Act.put, List.setIfInBounds_toArray, List.set_cons_zero, List.set_cons_succ]
        refine wpAnyH_take (i := 10) (oi := ⟨some 63, _, _, _, _, _⟩) (v := ?_) rfl (by kernel_rfl) (by kernel_rfl) (by kernel_rfl) (fun _ _ _ h => h) (Or.inl ⟨by rfl, ?_⟩) hS ?_; rotate_left; (focus (intro w9 hSw; (try dsimp only at hSw); go_simp; try with_reducible rfl)); simp only [Act.put, List.setIfInBounds_toArray, List.set_cons_zero, List.set_cons_succ]
        refine wpAnyH_take (i := 11) (oi := ⟨some 64, _, _, _, _, _⟩) (v := ?_) rfl (by kernel_rfl) (by kernel_rfl) (by kernel_rfl) (fun _ _ _ h => h) (Or.inl ⟨by rfl, ?_⟩) hS ?_; rotate_left; (focus (intro w9 hSw; (try dsimp only at hSw); go_simp; try with_reducible rfl)); simp only [Act.put, List.setIfInBounds_toArray, List.set_cons_zero, List.set_cons_succ]
        have E10 := Lib.hid (G.put0 (.slice d'.A d'.xs.length d'.c))
        have EB := Lib.hid (hbx.setCell (p := ⟨wr.heap.size, 0, none⟩) (Nat.le_refl _) (.slice d'.A d'.xs.length d'.c))
        have KD := Lib.hid (hk.kept_bo (grownBy_setCell18 _ _ 0 (.slice d'.A d'.xs.length d'.c)) G)
        clear hk hb0
        refine wpAnyH_ready (rs := [13]) (by kernel_rfl) (by simp) (AllReadyH.cons (o := ⟨none, _, _, _, _, _⟩) rfl (fun K hK => ?_) AllReadyH.nil)
        have g0 := G.c0
        have gf := G.fz 0
        go_simp
        refine hK.out _ _ EB.out (fun hS => ?_)
        clear hK K g0 gf
        refine wpAnyH_take (i := 14) (oi := ⟨some 11, _, _, _, _, _⟩) (v := ?_) rfl (by kernel_rfl) (by kernel_rfl) (by kernel_rfl) (fun _ _ _ h => h) (Or.inl ⟨by rfl, ?_⟩) hS ?_; rotate_left; (focus (intro w9 hSw; (try dsimp only at hSw); go_simp; try with_reducible rfl)); simp only [Act.put, List.setIfInBounds_toArray, List.set_cons_zero, List.set_cons_succ]
        have D2x := Lib.hid (D2.out.below EB.out D2.out.lt)
        have D7x := Lib.hid (D7.out.below EB.out D7.out.lt)
        have EW := Lib.hid (HB.out.trans (EB.out.mono HB.out.size))
        have HD2 := Lib.hid hd
        have L10 := Lib.hid E10.out.load
        clear hd c0
        refine wpAnyH_done (by kernel_rfl) ?_ _
        go_wp2_with (first | ((with_reducible refine wpList_load_by (o := ⟨some 67, .load 41 (.tmp 10), _, _, _, _⟩) ?e1 41 (.tmp 10) ?e2 ⟨wr.heap.size, 0, none⟩ ?e3 _ L10.out ?_); (case e1 => rfl); (case e2 => rfl); (case e3 => rfl)) | ((with_reducible refine wpList_store_oldb (o := ⟨none, .store 41 (.tmp 7) (.tmp 67), _, _, _, _⟩) ?e1 (.tmp 7) (.tmp 67) ?e2 w20.heap.size _ D7x.out ?e3 (.slice d'.A d'.xs.length d'.c) ?e4 ?e5 ?_); (case e1 => rfl); (case e2 => rfl); (case e3 => rfl); (case e4 => rfl); (case e5 => rfl); intro w2 hg2 hx2; have G9 := Lib.hid hg2; have X9 := Lib.hid hx2; clear hg2 hx2))
        go_roundw
        case rel => exact ⟨k + 1, by omega, by go_num, D2x.out.same (G9.out.block _ D2x.out.lt (fun e => by have := Option.some.inj e; have := HNE.out; omega)), EW.out.grown G9.out EW.out.size (fun k e => by have := Option.some.inj e; have := HNE.out; omega), d', HD2.out, KD.out.kept_bo G9.out D7x.out, X9.out⟩
        case measure => simp [intOf]; omega

    · have t1 : ¬ (k : Int) < (b.xs.length : Int) := by omega
      obtain rfl : k = b.xs.length := by omega
      have SS : bsame d.rs b.rs = true := bsame_iff.2 (by
        rw [HD.out, show b.xs.length = b.rs.length from by unfold Bk.rs; rw [List.length_map]]
        exact part_all (by unfold Bk.rs; rw [List.length_map]; exact hn))
      have C := Lib.hid (bsame_any d b wr HK.out (Fb.out.below HB.out (Nat.le_refl _)))
      rw [SS] at C
      have M7 := Lib.hid D7.out.load
      have M2 := Lib.hid D2.out.load
      clear SS
      go_wp2_with (first | ((with_reducible refine wpList_load_by (o := ⟨some 68, .load 41 (.tmp 7), _, _, _, _⟩) ?e1 41 (.tmp 7) ?e2 ⟨w20.heap.size, 0, none⟩ ?e3 _ M7.out ?_); (case e1 => rfl); (case e2 => rfl); (case e3 => rfl)) | ((with_reducible refine wpList_load_by (o := ⟨some 69, .load 41 (.tmp 2), _, _, _, _⟩) ?e1 41 (.tmp 2) ?e2 ⟨w.heap.size, 0, none⟩ ?e3 _ M2.out ?_); (case e1 => rfl); (case e2 => rfl); (case e3 => rfl)))
      refine C.out.mono ?_
      rintro e w3 ⟨rfl, hb3⟩
      have B3 := Lib.hid (HB.out.trans (hb3.mono HB.out.size))
      clear hb3
      go_wp2
      go_ret
      exact ⟨rfl, B3.out⟩
theorem walk_bookParts (b : Bk) (n : Int) (w : World) (hlaid : Laid w) (wb : BkAt w b) :
    Calls Tryd.prog 9 #[.agg #[.slice b.A b.xs.length b.c], .int .i64 n] w fun e w' => e = .returned (.bool true) ∧ Below w.heap.size w w' := by
  cases p : fewB b.rs
  · exact bparts_few b n w hlaid wb p
  · cases m : bmay b.rs
    · exact bparts_may b n w hlaid wb p m
    · by_cases t1 : n < 0
      · exact bparts_low b n w hlaid wb t1 p m
      · by_cases t2 : (b.xs.length : Int) ≤ n
        · exact bparts_high b n w hlaid wb t1 t2 p m
        · obtain ⟨k, rfl⟩ : ∃ k : Nat, n = (k : Int) := ⟨n.toNat, by omega⟩
          exact bparts_yes b k w hlaid wb (by omega) p m
end Go.Proofs.YtepapdnchpolmaaDoor

