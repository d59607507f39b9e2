import Derived.Test.YtnencoainacpoaaDoorDlAwake
import Derived.Test.YtnencoainacpoaaDoorDlProg
import Derived.Test.YtnencoainacpoaaDoorGDlM
/-
  The law DeltaBytes: for every list of pieces and all bytes it answers true, and nothing that was there is written. Nothing that was there is written.
-/
namespace Go.Proofs.YtnencoainacpoaaDoor
open Go.RowKit WM
set_option linter.unusedVariables false
set_option maxRecDepth 100000
set_option maxHeartbeats 4000000 in
theorem walk_deltaBytes (A : Option Addr) (n0 c : Nat) (l : List Pc) (B : Option Addr) (len cap : Nat) (zs : List Int) (w : World) (hlaid : Laid w) (hl : l.length = n0) (hr : KPc.row w A c l) (hx : IsRow .u8 w B len cap zs) :
    Calls Tryd.prog 4 #[.slice A n0 c, .slice B len cap] w fun e w' => e = .returned (.bool true) ∧ Below w.heap.size w w' := by
  subst hl
  obtain ⟨hy, hxl, hxb, hlc, hcm⟩ := hx.byt
  clear hx
  generalize zs.take len = zs at *
  have B0 := Lib.hid (Below.refl w.heap.size w)
  have HL := Lib.hid hlaid
  have HE : Hid (∀ X : World, KPc.row X none 0 []) := Lib.hid (fun X => Kind.row_nil X none 0 (by decide) (fun _ => rfl))
  have HR := Lib.hid (fun (X : World) (hX : Below w.heap.size w X) => Kind.row_below hr hX (Nat.le_refl _))
  have F1 := Lib.hid (fun (X : World) (hX : Below w.heap.size w X) => few11_any A c l X (HR.out X hX))
  have HX := Lib.hid (fun (X : World) (hX : Below w.heap.size w X) => (Byt.below hy hX).wide hX.size)
  have XL := Lib.hid hxl
  have XB := Lib.hid hxb
  have LC := Lib.hid hlc
  have CM := Lib.hid hcm
  clear hr hlaid hy hxl hxb hlc hcm
  have hv0 := @pfew_iff l
  generalize pfew l = V1 at *
  cases V1
  · clear hv0 HE
    go_enter Tryd.func4, Tryd.ntmps4
    go_wp2_with fail
    refine (dlAwake w HL.out).mono ?_
    rintro e w1 ⟨rfl, hb⟩
    have B1 := Lib.hid (B0.out.trans (hb.mono B0.out.size))
    clear hb
    go_wp2_with fail
    refine (F1.out _ B1.out).mono ?_
    rintro e w2 ⟨rfl, hb⟩
    have B2 := Lib.hid (B1.out.trans (hb.mono B1.out.size))
    clear hb
    go_wp2
    go_ret
    exact ⟨rfl, B2.out⟩
  have hq1 := (hv0.1 rfl).1
  clear hv0
  by_cases t1 : (400 : Int) < (len : Int)
  · clear hq1 HE
    go_enter Tryd.func4, Tryd.ntmps4
    go_wp2_with fail
    refine (dlAwake w HL.out).mono ?_
    rintro e w1 ⟨rfl, hb⟩
    have B1 := Lib.hid (B0.out.trans (hb.mono B0.out.size))
    clear hb
    go_wp2_with fail
    refine (F1.out _ B1.out).mono ?_
    rintro e w2 ⟨rfl, hb⟩
    have B2 := Lib.hid (B1.out.trans (hb.mono B1.out.size))
    clear hb
    go_wp2
    go_ret
    exact ⟨rfl, B2.out⟩
  have C1 := Lib.hid (fun (X : World) (hX : Below w.heap.size w X) => put11_any A c l X (HR.out X hX) (by omega))
  have C2 := Lib.hid (fun (X : World) (hX : Below w.heap.size w X) => rput11_any A c l X (HR.out X hX) (by omega))
  have C3 := Lib.hid (fun (X : World) (hX : Below w.heap.size w X) => get11_any B len cap zs X (HX.out X hX) XL.out XB.out LC.out CM.out (by omega))
  have C4 := Lib.hid (fun (X : World) (hX : Below w.heap.size w X) => rget11_any B len cap zs X (HX.out X hX) XL.out XB.out LC.out CM.out (by omega))
  have HLL : Hid (∀ L a, pget zs = some (L, a) → L.length ≤ 1000000) := Lib.hid (fun L a h => by
    have h1 := (pget_got XB.out h).1
    have h2 := (pmay_iff.1 h1).2.1
    omega)
  unfold DPutPost at C1 C2
  unfold DGetPost at C3 C4
  generalize pputB l = Z at *
  generalize pget zs = VG at *
  clear hq1 HX XL XB LC CM HR
  cases hv1 : pmay l
  · simp only [hv1, Bool.false_eq_true, if_false] at C1 C2
    clear hv1
    rcases VG with _ | ⟨L, a⟩
    · dsimp only at C3 C4
      clear HLL
      go_enter Tryd.func4, Tryd.ntmps4
      go_wp2_with fail
      refine (dlAwake w HL.out).mono ?_
      rintro e w1 ⟨rfl, hb⟩
      have B1 := Lib.hid (B0.out.trans (hb.mono B0.out.size))
      clear hb
      go_wp2_with fail
      refine (F1.out _ B1.out).mono ?_
      rintro e w2 ⟨rfl, hb⟩
      have B2 := Lib.hid (B1.out.trans (hb.mono B1.out.size))
      clear hb
      go_wp2_with fail
      refine (C1.out _ B2.out).mono ?_
      rintro e w3 ⟨rfl, hb⟩
      have B3 := Lib.hid (B2.out.trans (hb.mono B2.out.size))
      clear hb
      go_wp2_with fail
      refine (C2.out _ B3.out).mono ?_
      rintro e w4 ⟨rfl, hb⟩
      have B4 := Lib.hid (B3.out.trans (hb.mono B3.out.size))
      clear hb
      go_wp2_with fail
      refine (C3.out _ B4.out).mono ?_
      rintro e w5 ⟨rfl, hb⟩
      have B5 := Lib.hid (B4.out.trans (hb.mono B4.out.size))
      clear hb
      go_wp2_with fail
      refine (C4.out _ B5.out).mono ?_
      rintro e w6 ⟨rfl, hb⟩
      have B6 := Lib.hid (B5.out.trans (hb.mono B5.out.size))
      have C5 := rsame11_any none none 0 0 [] [] w6 (HE.out _) (HE.out _) (by simp)
      rw [decide_eq_true rfl] at C5
      have C5 := Lib.hid C5
      clear hb
      go_wp2_with fail
      refine (C5.out).mono ?_
      rintro e w7 ⟨rfl, hb⟩
      have B7 := Lib.hid (B6.out.trans (hb.mono B6.out.size))
      clear hb
      have q1 := (Byt.nil (w := w7) (B := 0) (A := none)).text (P := Tryd.prog) (len := 0) (cap := 0) rfl 31 5 9 Tryd.underlying31 Tryd.underlying5 Tryd.underlying9
      have h4 : ((strOfNums []).toList == (strOfNums []).toList) = true := (str_beq _ _).2 rfl
      generalize strOfNums [] = SZ at *
      go_wp2
      go_ret
      exact ⟨rfl, B7.out⟩
    · dsimp only at C3 C4
      have HLL := Lib.hid (HLL.out L a rfl)
      clear HE
      go_enter Tryd.func4, Tryd.ntmps4
      go_wp2_with fail
      refine (dlAwake w HL.out).mono ?_
      rintro e w1 ⟨rfl, hb⟩
      have B1 := Lib.hid (B0.out.trans (hb.mono B0.out.size))
      clear hb
      go_wp2_with fail
      refine (F1.out _ B1.out).mono ?_
      rintro e w2 ⟨rfl, hb⟩
      have B2 := Lib.hid (B1.out.trans (hb.mono B1.out.size))
      clear hb
      go_wp2_with fail
      refine (C1.out _ B2.out).mono ?_
      rintro e w3 ⟨rfl, hb⟩
      have B3 := Lib.hid (B2.out.trans (hb.mono B2.out.size))
      clear hb
      go_wp2_with fail
      refine (C2.out _ B3.out).mono ?_
      rintro e w4 ⟨rfl, hb⟩
      have B4 := Lib.hid (B3.out.trans (hb.mono B3.out.size))
      clear hb
      go_wp2_with fail
      refine (C3.out _ B4.out).mono ?_
      rintro e w5 ⟨A3, c3, rfl, hr3, hb⟩
      have B5 := Lib.hid (B4.out.trans (hb.mono B4.out.size))
      have R3 := Lib.hid hr3
      clear hb hr3
      go_wp2_with fail
      refine (C4.out _ B5.out).mono ?_
      rintro e w6 ⟨A4, c4, rfl, hr4, hb⟩
      have B6 := Lib.hid (B5.out.trans (hb.mono B5.out.size))
      have C5 := rsame11_any A3 A4 c3 c4 L L w6 (Kind.row_below R3.out hb (Nat.le_refl _)) hr4 HLL.out
      rw [decide_eq_true rfl] at C5
      have C5 := Lib.hid C5
      clear hb hr4
      go_wp2_with fail
      refine (C5.out).mono ?_
      rintro e w7 ⟨rfl, hb⟩
      have B7 := Lib.hid (B6.out.trans (hb.mono B6.out.size))
      clear hb
      have q1 := (Byt.nil (w := w7) (B := 0) (A := none)).text (P := Tryd.prog) (len := 0) (cap := 0) rfl 31 5 9 Tryd.underlying31 Tryd.underlying5 Tryd.underlying9
      have h4 : ((strOfNums []).toList == (strOfNums []).toList) = true := (str_beq _ _).2 rfl
      generalize strOfNums [] = SZ at *
      go_wp2
      go_ret
      exact ⟨rfl, B7.out⟩
  · simp only [hv1, if_true] at C1 C2
    clear hv1
    rcases VG with _ | ⟨L, a⟩
    · dsimp only at C3 C4
      clear HLL
      go_enter Tryd.func4, Tryd.ntmps4
      go_wp2_with fail
      refine (dlAwake w HL.out).mono ?_
      rintro e w1 ⟨rfl, hb⟩
      have B1 := Lib.hid (B0.out.trans (hb.mono B0.out.size))
      clear hb
      go_wp2_with fail
      refine (F1.out _ B1.out).mono ?_
      rintro e w2 ⟨rfl, hb⟩
      have B2 := Lib.hid (B1.out.trans (hb.mono B1.out.size))
      clear hb
      go_wp2_with fail
      refine (C1.out _ B2.out).mono ?_
      rintro e w3 ⟨A1, n1, c1, rfl, hn1, hc1, hm1, ho1, hb⟩
      have B3 := Lib.hid (B2.out.trans (hb.mono B2.out.size))
      have Y1 := Lib.hid (Byt.own ho1)
      have S1 := Lib.hid (Nat.le_refl w3.heap.size)
      have N1 := Lib.hid hn1
      clear hb ho1 hn1
      go_wp2_with fail
      refine (C2.out _ B3.out).mono ?_
      rintro e w4 ⟨A2, n2, c2, rfl, hn2, hc2, hm2, ho2, hb⟩
      have B4 := Lib.hid (B3.out.trans (hb.mono B3.out.size))
      have Y1 := Lib.hid (Y1.out.below hb)
      have Y2 := Lib.hid (Byt.own ho2)
      have S2 := Lib.hid (Nat.le_refl w4.heap.size)
      have S1 := Lib.hid (Nat.le_trans S1.out hb.size)
      have N2 := Lib.hid hn2
      clear hb ho2 hn2
      go_wp2_with fail
      refine (C3.out _ B4.out).mono ?_
      rintro e w5 ⟨rfl, hb⟩
      have B5 := Lib.hid (B4.out.trans (hb.mono B4.out.size))
      have Y1 := Lib.hid (Y1.out.below (hb.mono S1.out))
      have Y2 := Lib.hid (Y2.out.below (hb.mono S2.out))
      have S1 := Lib.hid (Nat.le_trans S1.out hb.size)
      have S2 := Lib.hid (Nat.le_trans S2.out hb.size)
      clear hb
      go_wp2_with fail
      refine (C4.out _ B5.out).mono ?_
      rintro e w6 ⟨rfl, hb⟩
      have B6 := Lib.hid (B5.out.trans (hb.mono B5.out.size))
      have Y1 := Lib.hid (Y1.out.below (hb.mono S1.out))
      have Y2 := Lib.hid (Y2.out.below (hb.mono S2.out))
      have S1 := Lib.hid (Nat.le_trans S1.out hb.size)
      have S2 := Lib.hid (Nat.le_trans S2.out hb.size)
      have C5 := rsame11_any none none 0 0 [] [] w6 (HE.out _) (HE.out _) (by simp)
      rw [decide_eq_true rfl] at C5
      have C5 := Lib.hid C5
      clear hb
      go_wp2_with fail
      refine (C5.out).mono ?_
      rintro e w7 ⟨rfl, hb⟩
      have B7 := Lib.hid (B6.out.trans (hb.mono B6.out.size))
      have Y1 := Lib.hid (Y1.out.below (hb.mono S1.out))
      have Y2 := Lib.hid (Y2.out.below (hb.mono S2.out))
      have S1 := Lib.hid (Nat.le_trans S1.out hb.size)
      have S2 := Lib.hid (Nat.le_trans S2.out hb.size)
      clear hb
      have q1 := Y1.out.text (P := Tryd.prog) (len := n1) (cap := c1) N1.out 31 5 9 Tryd.underlying31 Tryd.underlying5 Tryd.underlying9
      have q2 := Y2.out.text (P := Tryd.prog) (len := n2) (cap := c2) N2.out 31 5 9 Tryd.underlying31 Tryd.underlying5 Tryd.underlying9
      have h4 : ((strOfNums Z).toList == (strOfNums Z).toList) = true := (str_beq _ _).2 rfl
      generalize strOfNums Z = SZ at *
      go_wp2
      go_ret
      exact ⟨rfl, B7.out⟩
    · dsimp only at C3 C4
      have HLL := Lib.hid (HLL.out L a rfl)
      clear HE
      go_enter Tryd.func4, Tryd.ntmps4
      go_wp2_with fail
      refine (dlAwake w HL.out).mono ?_
      rintro e w1 ⟨rfl, hb⟩
      have B1 := Lib.hid (B0.out.trans (hb.mono B0.out.size))
      clear hb
      go_wp2_with fail
      refine (F1.out _ B1.out).mono ?_
      rintro e w2 ⟨rfl, hb⟩
      have B2 := Lib.hid (B1.out.trans (hb.mono B1.out.size))
      clear hb
      go_wp2_with fail
      refine (C1.out _ B2.out).mono ?_
      rintro e w3 ⟨A1, n1, c1, rfl, hn1, hc1, hm1, ho1, hb⟩
      have B3 := Lib.hid (B2.out.trans (hb.mono B2.out.size))
      have Y1 := Lib.hid (Byt.own ho1)
      have S1 := Lib.hid (Nat.le_refl w3.heap.size)
      have N1 := Lib.hid hn1
      clear hb ho1 hn1
      go_wp2_with fail
      refine (C2.out _ B3.out).mono ?_
      rintro e w4 ⟨A2, n2, c2, rfl, hn2, hc2, hm2, ho2, hb⟩
      have B4 := Lib.hid (B3.out.trans (hb.mono B3.out.size))
      have Y1 := Lib.hid (Y1.out.below hb)
      have Y2 := Lib.hid (Byt.own ho2)
      have S2 := Lib.hid (Nat.le_refl w4.heap.size)
      have S1 := Lib.hid (Nat.le_trans S1.out hb.size)
      have N2 := Lib.hid hn2
      clear hb ho2 hn2
      go_wp2_with fail
      refine (C3.out _ B4.out).mono ?_
      rintro e w5 ⟨A3, c3, rfl, hr3, hb⟩
      have B5 := Lib.hid (B4.out.trans (hb.mono B4.out.size))
      have R3 := Lib.hid hr3
      have Y1 := Lib.hid (Y1.out.below (hb.mono S1.out))
      have Y2 := Lib.hid (Y2.out.below (hb.mono S2.out))
      have S1 := Lib.hid (Nat.le_trans S1.out hb.size)
      have S2 := Lib.hid (Nat.le_trans S2.out hb.size)
      clear hb hr3
      go_wp2_with fail
      refine (C4.out _ B5.out).mono ?_
      rintro e w6 ⟨A4, c4, rfl, hr4, hb⟩
      have B6 := Lib.hid (B5.out.trans (hb.mono B5.out.size))
      have C5 := rsame11_any A3 A4 c3 c4 L L w6 (Kind.row_below R3.out hb (Nat.le_refl _)) hr4 HLL.out
      rw [decide_eq_true rfl] at C5
      have C5 := Lib.hid C5
      have Y1 := Lib.hid (Y1.out.below (hb.mono S1.out))
      have Y2 := Lib.hid (Y2.out.below (hb.mono S2.out))
      have S1 := Lib.hid (Nat.le_trans S1.out hb.size)
      have S2 := Lib.hid (Nat.le_trans S2.out hb.size)
      clear hb hr4
      go_wp2_with fail
      refine (C5.out).mono ?_
      rintro e w7 ⟨rfl, hb⟩
      have B7 := Lib.hid (B6.out.trans (hb.mono B6.out.size))
      have Y1 := Lib.hid (Y1.out.below (hb.mono S1.out))
      have Y2 := Lib.hid (Y2.out.below (hb.mono S2.out))
      have S1 := Lib.hid (Nat.le_trans S1.out hb.size)
      have S2 := Lib.hid (Nat.le_trans S2.out hb.size)
      clear hb
      have q1 := Y1.out.text (P := Tryd.prog) (len := n1) (cap := c1) N1.out 31 5 9 Tryd.underlying31 Tryd.underlying5 Tryd.underlying9
      have q2 := Y2.out.text (P := Tryd.prog) (len := n2) (cap := c2) N2.out 31 5 9 Tryd.underlying31 Tryd.underlying5 Tryd.underlying9
      have h4 : ((strOfNums Z).toList == (strOfNums Z).toList) = true := (str_beq _ _).2 rfl
      generalize strOfNums Z = SZ at *
      go_wp2
      go_ret
      exact ⟨rfl, B7.out⟩
end Go.Proofs.YtnencoainacpoaaDoor

