import Derived.Test.YtnencoainacpoaaDoorDlAwake
import Derived.Test.YtnencoainacpoaaDoorDlProg
import Derived.Test.YtnencoainacpoaaDoorGDlM
/-
  The law DeltaTells: for every value, list of pieces and list of blocks it answers true, and nothing that was there is written. Nothing that was there is written.
-/
namespace Go.Proofs.YtnencoainacpoaaDoor
open Go.RowKit WM
set_option linter.unusedVariables false
set_option maxRecDepth 100000
theorem wpList_at {P : Program} {ops : Array Oper} {rest : List Oper} {o : Oper} {a : Act} {w : World} {Q : Exit → Act → World → Prop} (hw : Region.wanted o (yielded ops a.tmps) = true) {v : Value} (h1 : (execOp a.eval o).run P w = .ok (.value v) w)
    (h : wpList P ops Q rest (a.put o.dst v) w) : wpList P ops Q (o :: rest) a w :=
  BigFrame.wpList_want hw fun _ hK => by
    unfold Oper.wp
    rw [h1]
    exact hK _ _ h
set_option maxHeartbeats 4000000 in
theorem walk_deltaTells (base : ByteArray) (A : Option Addr) (n0 c : Nat) (l : List Pc) (D : Option Addr) (n1 d : Nat) (sig : List Sg) (s : ByteArray) (E : Option Addr) (n2 g : Nat) (m : List Pc) (w : World) (hlaid : Laid w) (hbs : base.size ≤ maxLen) (hl : l.length = n0) (hr : KPc.row w A c l) (hl1 : sig.length = n1) (hr1 : KSig.row w D d sig) (hss : s.size ≤ maxLen) (hl2 : m.length = n2) (hr2 : KPc.row w E g m) :
    Calls Tryd.prog 3 #[.string base, .slice A n0 c, .slice D n1 d, .string s, .slice E n2 g] w fun e w' => e = .returned (.bool true) ∧ Below w.heap.size w w' := by
  subst hl hl1 hl2
  have B0 := Lib.hid (Below.refl w.heap.size w)
  have HL := Lib.hid hlaid
  have HLX := Lib.hid (fun (X : World) (hX : Below w.heap.size w X) => hlaid.below hX (Nat.le_refl _))
  have HR := Lib.hid (fun (X : World) (hX : Below w.heap.size w X) => Kind.row_below hr hX (Nat.le_refl _))
  have HR1 := Lib.hid (fun (X : World) (hX : Below w.heap.size w X) => Kind.row_below hr1 hX (Nat.le_refl _))
  have HR2 := Lib.hid (fun (X : World) (hX : Below w.heap.size w X) => Kind.row_below hr2 hX (Nat.le_refl _))
  have F1 := Lib.hid (fun (X : World) (hX : Below w.heap.size w X) => few11_any A c l X (HR.out X hX))
  have F2 := Lib.hid (fun (X : World) (hX : Below w.heap.size w X) => few11_any E g m X (HR2.out X hX))
  have HBS := Lib.hid hbs
  have HSS := Lib.hid hss
  clear hr hr1 hr2 hlaid hbs hss
  have hv1 := @pfew_iff l
  have hv2 := @pfew_iff m
  generalize pfew l = V1 at *
  generalize pfew m = V2 at *
  cases V1
  · clear hv1 hv2
    go_enter Tryd.func3, Tryd.ntmps3
    go_wp2_with fail
    refine (dlAwake w HL.out).mono ?_
    rintro e w1 ⟨rfl, hb⟩
    have B1 := Lib.hid (B0.out.trans (hb.mono B0.out.size))
    clear hb
    go_wp2_with fail
    refine (F1.out _ B1.out).mono ?_
    rintro e w2 ⟨rfl, hb⟩
    have B2 := Lib.hid (B1.out.trans (hb.mono B1.out.size))
    clear hb
    go_wp2_with fail
    refine (F2.out _ B2.out).mono ?_
    rintro e w3 ⟨rfl, hb⟩
    have B3 := Lib.hid (B2.out.trans (hb.mono B2.out.size))
    clear hb
    go_wp2
    go_ret
    exact ⟨rfl, B3.out⟩
  cases V2
  · clear hv1 hv2
    go_enter Tryd.func3, Tryd.ntmps3
    go_wp2_with fail
    refine (dlAwake w HL.out).mono ?_
    rintro e w1 ⟨rfl, hb⟩
    have B1 := Lib.hid (B0.out.trans (hb.mono B0.out.size))
    clear hb
    go_wp2_with fail
    refine (F1.out _ B1.out).mono ?_
    rintro e w2 ⟨rfl, hb⟩
    have B2 := Lib.hid (B1.out.trans (hb.mono B1.out.size))
    clear hb
    go_wp2_with fail
    refine (F2.out _ B2.out).mono ?_
    rintro e w3 ⟨rfl, hb⟩
    have B3 := Lib.hid (B2.out.trans (hb.mono B2.out.size))
    clear hb
    go_wp2
    go_ret
    exact ⟨rfl, B3.out⟩
  have hq1 := (hv1.1 rfl).1
  have hq2 := (hv2.1 rfl).1
  clear hv1 hv2
  by_cases t1 : (300 : Int) < (base.size : Int)
  · clear hq1 hq2
    go_enter Tryd.func3, Tryd.ntmps3
    go_wp2_with fail
    refine (dlAwake w HL.out).mono ?_
    rintro e w1 ⟨rfl, hb⟩
    have B1 := Lib.hid (B0.out.trans (hb.mono B0.out.size))
    clear hb
    go_wp2_with fail
    refine (F1.out _ B1.out).mono ?_
    rintro e w2 ⟨rfl, hb⟩
    have B2 := Lib.hid (B1.out.trans (hb.mono B1.out.size))
    clear hb
    go_wp2_with fail
    refine (F2.out _ B2.out).mono ?_
    rintro e w3 ⟨rfl, hb⟩
    have B3 := Lib.hid (B2.out.trans (hb.mono B2.out.size))
    clear hb
    go_wp2
    go_ret
    exact ⟨rfl, B3.out⟩
  by_cases t2 : (60 : Int) < (sig.length : Int)
  · clear hq1 hq2
    go_enter Tryd.func3, Tryd.ntmps3
    go_wp2_with fail
    refine (dlAwake w HL.out).mono ?_
    rintro e w1 ⟨rfl, hb⟩
    have B1 := Lib.hid (B0.out.trans (hb.mono B0.out.size))
    clear hb
    go_wp2_with fail
    refine (F1.out _ B1.out).mono ?_
    rintro e w2 ⟨rfl, hb⟩
    have B2 := Lib.hid (B1.out.trans (hb.mono B1.out.size))
    clear hb
    go_wp2_with fail
    refine (F2.out _ B2.out).mono ?_
    rintro e w3 ⟨rfl, hb⟩
    have B3 := Lib.hid (B2.out.trans (hb.mono B2.out.size))
    clear hb
    go_wp2
    go_ret
    exact ⟨rfl, B3.out⟩
  by_cases t3 : (300 : Int) < (s.size : Int)
  · clear hq1 hq2
    go_enter Tryd.func3, Tryd.ntmps3
    go_wp2_with fail
    refine (dlAwake w HL.out).mono ?_
    rintro e w1 ⟨rfl, hb⟩
    have B1 := Lib.hid (B0.out.trans (hb.mono B0.out.size))
    clear hb
    go_wp2_with fail
    refine (F1.out _ B1.out).mono ?_
    rintro e w2 ⟨rfl, hb⟩
    have B2 := Lib.hid (B1.out.trans (hb.mono B1.out.size))
    clear hb
    go_wp2_with fail
    refine (F2.out _ B2.out).mono ?_
    rintro e w3 ⟨rfl, hb⟩
    have B3 := Lib.hid (B2.out.trans (hb.mono B2.out.size))
    clear hb
    go_wp2
    go_ret
    exact ⟨rfl, B3.out⟩
  have C1 := Lib.hid (fun (X : World) (hX : Below w.heap.size w X) => apply11_any base A c l X (HR.out X hX) (by omega) HBS.out)
  have C2 := Lib.hid (fun (X : World) (hX : Below w.heap.size w X) => rapply11_any base A c l X (HR.out X hX) (by omega) HBS.out)
  have C3 := Lib.hid (fun (X : World) (hX : Below w.heap.size w X) => make11_any D d sig s X (HLX.out X hX) (HR1.out X hX) (by omega) (by omega))
  have C4 := Lib.hid (fun (X : World) (hX : Below w.heap.size w X) => rmake11_any D d sig s X (HR1.out X hX) (by omega) (by omega))
  have C6 := Lib.hid (fun (X : World) (hX : Below w.heap.size w X) => rmay11_any A c l X (HR.out X hX) (by omega))
  have C7 := Lib.hid (fun (X : World) (hX : Below w.heap.size w X) => rsame11_any A E c g l m X (HR.out X hX) (HR2.out X hX) (by omega))
  have C8 := Lib.hid (fun (X : World) (hX : Below w.heap.size w X) => may11_any A c l X (HR.out X hX) (by omega))
  have C9 := Lib.hid (fun (X : World) (hX : Below w.heap.size w X) => same11_any A E c g l m X (HR.out X hX) (HR2.out X hX) (by omega))
  have HLL : Hid ((pmake sig s).length ≤ 1000000) := Lib.hid (by
    have h1 := pmake_ind (sig := sig) (s := s) (P := fun a out => PFits sig.length a out) (fun a out _ h h1 => by
      obtain ⟨_, i, hi, hil, _⟩ := pfind_range (Nat.le_refl sig.length) h
      exact h1.copy h (by rw [hi]; omega)) (fun a out ha _ h1 => h1.text (by rw [ByteArray.size_extract]; omega)) (PFits.nil _)
    have h2 := h1.1
    omega)
  unfold KPost at C3 C4
  generalize pmake sig s = L at *
  generalize decide (l = m) = V2 at *
  generalize pmay l = V1 at *
  generalize papply base l = VA at *
  clear hq1 hq2 HR HR1 HR2
  cases VA
  all_goals
    simp only [apV] at C1 C2
    go_enter Tryd.func3, Tryd.ntmps3
    go_wp2_with fail
    refine (dlAwake w HL.out).mono ?_
    rintro e w1 ⟨rfl, hb⟩
    have B1 := Lib.hid (B0.out.trans (hb.mono B0.out.size))
    clear hb
    go_wp2_with fail
    refine (F1.out _ B1.out).mono ?_
    rintro e w2 ⟨rfl, hb⟩
    have B2 := Lib.hid (B1.out.trans (hb.mono B1.out.size))
    clear hb
    go_wp2_with fail
    refine (F2.out _ B2.out).mono ?_
    rintro e w3 ⟨rfl, hb⟩
    have B3 := Lib.hid (B2.out.trans (hb.mono B2.out.size))
    clear hb
    go_wp2_with fail
    refine (C1.out _ B3.out).mono ?_
    rintro e w4 ⟨rfl, hb⟩
    have B4 := Lib.hid (B3.out.trans (hb.mono B3.out.size))
    clear hb
    go_wp2_with fail
    refine (C2.out _ B4.out).mono ?_
    rintro e w5 ⟨rfl, hb⟩
    have B5 := Lib.hid (B4.out.trans (hb.mono B4.out.size))
    clear hb
    go_wp2_with fail
    refine (C3.out _ B5.out).mono ?_
    rintro e w6 ⟨A1, c1, rfl, r1, hb⟩
    have B6 := Lib.hid (B5.out.trans (hb.mono B5.out.size))
    have R1 := Lib.hid r1
    clear hb r1
    go_wp2_with fail
    refine (C4.out _ B6.out).mono ?_
    rintro e w7 ⟨A2, c2, rfl, r2, hb⟩
    have B7 := Lib.hid (B6.out.trans (hb.mono B6.out.size))
    have C5 := rsame11_any A1 A2 c1 c2 L L w7 (Kind.row_below R1.out hb (Nat.le_refl _)) r2 HLL.out
    rw [decide_eq_true rfl] at C5
    have C5 := Lib.hid C5
    clear hb r2
    go_wp2_with fail
    refine (C5.out).mono ?_
    rintro e w8 ⟨rfl, hb⟩
    have B8 := Lib.hid (B7.out.trans (hb.mono B7.out.size))
    clear hb
    go_wp2_with fail
    refine (C6.out _ B8.out).mono ?_
    rintro e w9 ⟨rfl, hb⟩
    have B9 := Lib.hid (B8.out.trans (hb.mono B8.out.size))
    clear hb
    go_wp2_with fail
    refine (C7.out _ B9.out).mono ?_
    rintro e w10 ⟨rfl, hb⟩
    have B10 := Lib.hid (B9.out.trans (hb.mono B9.out.size))
    clear hb
    go_wp2_with fail
    refine (C8.out _ B10.out).mono ?_
    rintro e w11 ⟨rfl, hb⟩
    have B11 := Lib.hid (B10.out.trans (hb.mono B10.out.size))
    clear hb
    go_wp2_with fail
    refine (C9.out _ B11.out).mono ?_
    rintro e w12 ⟨rfl, hb⟩
    have B12 := Lib.hid (B11.out.trans (hb.mono B11.out.size))
    clear hb
    go_wp2
    go_ret
    exact ⟨rfl, B12.out⟩
end Go.Proofs.YtnencoainacpoaaDoor

