import Derived.Test.YtnencoainacpoaaDoorDlAwM
import Derived.Test.YtnencoainacpoaaDoorDlProg
import Derived.Test.YtnencoainacpoaaDoorGSgO
import Derived.Test.YtnencoainacpoaaDoorGUni
/-
  What awake of layer 11 answers. Nothing that was there is written.
-/
namespace Go.Proofs.YtnencoainacpoaaDoor
open Go.RowKit WM
set_option linter.unusedVariables false
set_option maxRecDepth 100000
theorem build17_0 (w : World) : (Instr.build 44 #[(3, .string ⟨#[120]⟩)]).run Tryd.prog w = .ok (.agg #[.bool false, .int .i64 0, .int .i64 0, .string ⟨#[120]⟩]) w := run_build w _ _ _ (by kernel_rfl)
theorem build17_1 (w : World) : (Instr.build 44 #[(0, .bool true), (2, .int .i64 16)]).run Tryd.prog w = .ok (.agg #[.bool true, .int .i64 0, .int .i64 16, .string ⟨#[]⟩]) w := run_build w _ _ _ (by kernel_rfl)
def p17 : Pc := ⟨false, 0, 0, ⟨#[120]⟩⟩
def q17 : Pc := ⟨true, 0, 16, ⟨#[]⟩⟩
theorem p17_ok : p17.Ok := ⟨by decide, by decide, by decide⟩
theorem q17_ok : q17.Ok := ⟨by decide, by decide, by decide⟩
theorem s24_eq : s24 = ⟨#[97, 98, 99, 100, 101, 102, 103, 104, 105, 106, 107, 108, 109, 110, 111, 112, 113, 114, 115, 116, 117, 118, 119, 120]⟩ := rfl
theorem s17_eq : s17 = ⟨#[120, 97, 98, 99, 100, 101, 102, 103, 104, 105, 106, 107, 108, 109, 110, 111, 112]⟩ := rfl
theorem wpList_eql_at {P : Program} {ops : Array Oper} {rest : List Oper} {o : Oper} {a : Act} {w : World} {Q : Exit → Act → World → Prop} (hw : Region.wanted o (yielded ops a.tmps) = true) (t : TypeId) (x y : Operand) (u : TypeId) (ho : o.op = .binOp .eql t x y u)
    {xs ys : Array Value} (hx : a.eval x = .agg xs) (hy : a.eval y = .agg ys) (hm : P.eqGuardType P.depth t = false) {b : Bool} (h1 : (Op.equalIn 10000 t (.agg xs) (.agg ys)).run P w = .ok b w)
    (h : wpList P ops Q rest (a.put o.dst (.bool b)) w) : wpList P ops Q (o :: rest) a w :=
  BigFrame.wpList_want hw fun _ hK => by
    unfold Oper.wp
    rw [exec_eql_at t x y u ho hx hy hm h1]
    exact hK _ _ h
set_option maxHeartbeats 4000000 in
theorem dlAwake (w : World) (hlaid : Laid w) : Calls Tryd.prog 11 #[] w fun e w' => e = .returned (.bool true) ∧ Below w.heap.size w w' := by
  have C1 := Lib.hid (of10_any s24 w hlaid (by decide))
  have C2 := Lib.hid (fun A c (X : World) (hB : Below w.heap.size w X) (hX : KSig.row X A c sg24) => make11_any A c sg24 s17 X (hlaid.below hB (Nat.le_refl _)) hX (by decide) (by decide))
  have C3 := Lib.hid (fun A c (X : World) (hX : KPc.row X A c l17) => apply11_any s24 A c l17 X hX (by decide) (by decide))
  have C4 := Lib.hid (fun A c (X : World) (hX : KPc.row X A c l17) => put11_any A c l17 X hX (by decide))
  have C5 := Lib.hid (fun A n c (X : World) (hX : Byt X X.heap.size A [2, 0, 1, 120, 1, 0, 16]) (hn : 7 = n) (hc : n ≤ c) (hm : c ≤ maxLen) => get11_any A n c [2, 0, 1, 120, 1, 0, 16] X hX (by rw [← hn]; rfl) (by unfold AllBytes; decide) hc hm (by omega))
  rw [pmake17] at C2
  rw [papply17] at C3
  rw [pget17] at C5
  unfold DPutPost at C4
  simp only [pmay17, pputB17, if_true] at C4
  unfold DGetPost at C5
  dsimp only at C5
  unfold apV at C3
  dsimp only at C3
  unfold KPost at C1 C2
  rw [show sgOf (nums s24) = sg24 from rfl, show sg24.length = 3 from rfl] at C1
  rw [show sg24.length = 3 from rfl, show l17.length = 2 from rfl] at C2
  rw [show l17.length = 2 from rfl] at C3 C4 C5
  rw [s24_eq] at C1 C3
  rw [s17_eq] at C2 C3
  have HR : Hid (∀ A c (X : World), KPc.row X A c l17 → ∃ b off, A = some ⟨b, off, none⟩ ∧ b < X.heap.size ∧ (∀ i, i < 2 → KPc.at X b (off + i * 4) (l17.getD i pc0)) ∧ ∀ (i : Nat), i < 2 → ∀ (I : Int), I = i → ∀ (Y : World), (Instr.indexAt 22 (.slice (some ⟨b, off, none⟩) 2 c) (.int .i64 I)).run Tryd.prog Y = .ok (.pointer (some ⟨b, off + i * 4, none⟩)) Y) := Lib.hid (fun A c X hX => pc_row hX (by decide))
  have HG0 : Hid (l17.getD 0 pc0 = p17) := Lib.hid rfl
  have HG1 : Hid (l17.getD 1 pc0 = q17) := Lib.hid rfl
  have HB0 := Lib.hid build17_0
  have HB1 := Lib.hid build17_1
  have X0 := Lib.hid p17_ok
  have X1 := Lib.hid q17_ok
  have HQ0 : Hid (∀ w9, (Op.equalIn 10000 44 (.agg #[.bool false, .int .i64 0, .int .i64 0, .string ⟨#[120]⟩]) (.agg #[.bool false, .int .i64 0, .int .i64 0, .string ⟨#[120]⟩])).run Tryd.prog w9 = .ok true w9) := Lib.hid (fun w9 => eq_pc p17_ok p17_ok w9)
  have HQ1 : Hid (∀ w9, (Op.equalIn 10000 44 (.agg #[.bool true, .int .i64 0, .int .i64 16, .string ⟨#[]⟩]) (.agg #[.bool true, .int .i64 0, .int .i64 16, .string ⟨#[]⟩])).run Tryd.prog w9 = .ok true w9) := Lib.hid (fun w9 => eq_pc q17_ok q17_ok w9)
  generalize l17 = L at *
  generalize sg24 = SG at *
  clear hlaid
  go_enter Tryd.func11, Tryd.ntmps11
  go_wp2_with fail
  refine C1.out.mono ?_
  rintro e w1 ⟨A1, c1, rfl, hr, hb⟩
  have B1 := Lib.hid hb
  have C2' := Lib.hid (C2.out A1 c1 w1 B1.out hr)
  clear hr hb C1 C2
  go_wp2_with fail
  refine C2'.out.mono ?_
  rintro e w2 ⟨A2, c2, rfl, hr, hb⟩
  have B2 := Lib.hid (B1.out.trans (hb.mono B1.out.size))
  have C3' := Lib.hid (C3.out A2 c2 w2 hr)
  have R2 := Lib.hid hr
  clear hr hb C3 C2'
  go_wp2_with fail
  refine C3'.out.mono ?_
  rintro e w3 ⟨rfl, hb⟩
  have B3 := Lib.hid (B2.out.trans (hb.mono B2.out.size))
  have R3 := Lib.hid (Kind.row_below R2.out hb (Nat.le_refl _))
  have C4' := Lib.hid (C4.out A2 c2 w3 R3.out)
  clear hb C4 C3'
  go_wp2_with fail
  refine C4'.out.mono ?_
  rintro e w4 ⟨A4, n4, c4, rfl, hn, hnc, hcm, ho, hb⟩
  have B4 := Lib.hid (B3.out.trans (hb.mono B3.out.size))
  have R4 := Lib.hid (Kind.row_below R3.out hb (Nat.le_refl _))
  obtain rfl : 7 = n4 := hn
  have C5' := Lib.hid (C5.out A4 7 c4 w4 (Byt.own ho) rfl hnc hcm)
  clear hb ho C5 C4'
  go_wp2_with fail
  refine C5'.out.mono ?_
  rintro e w5 ⟨A5, c5, rfl, hr, hb⟩
  have B5 := Lib.hid (B4.out.trans (hb.mono B4.out.size))
  have R5 := Lib.hid (Kind.row_below R4.out hb (Nat.le_refl _))
  obtain ⟨b, off, rfl, hbw, hat, hix⟩ := HR.out A2 c2 w5 R5.out
  have IX0 := Lib.hid (hix 0 (by decide) 0 rfl)
  have IX1 := Lib.hid (hix 1 (by decide) 1 rfl)
  have Q0 := Lib.hid (hat 0 (by decide))
  have Q1 := Lib.hid (hat 1 (by decide))
  rw [HG0.out] at Q0
  rw [HG1.out] at Q1
  have hbw := Lib.hid hbw
  have LD0 := Lib.hid (load_pcK Q0.out X0.out (Below.refl w5.heap.size w5) hbw.out)
  have LD1 := Lib.hid (load_pcK Q1.out X1.out (Below.refl w5.heap.size w5) hbw.out)
  have q0 := IX0.out
  have q1 := IX1.out
  rw [show (off + 0 * 4 : Nat) = off by omega] at LD0 q0
  rw [show (off + 1 * 4 : Nat) = off + 4 by omega] at LD1 q1
  have LD0 := Lib.hid (show (loadVar 44 ⟨b, off, none⟩).run Tryd.prog w5 = .ok (.agg #[.bool false, .int .i64 0, .int .i64 0, .string ⟨#[120]⟩]) w5 from LD0.out)
  have LD1 := Lib.hid (show (loadVar 44 ⟨b, off + 4, none⟩).run Tryd.prog w5 = .ok (.agg #[.bool true, .int .i64 0, .int .i64 16, .string ⟨#[]⟩]) w5 from LD1.out)
  clear hr hb C5' hat hix HR HG0 HG1
  go_wp2_with (first | ((with_reducible refine wpList_load_at (o := ⟨some 36, .load 44 (.tmp 35), _, _, _, _⟩) ?e1 44 (.tmp 35) ?e2 ⟨b, off, none⟩ ?e3 (.agg #[.bool false, .int .i64 0, .int .i64 0, .string ⟨#[120]⟩]) LD0.out ?_); (case e1 => rfl); (case e2 => rfl); (case e3 => rfl)) | ((with_reducible refine wpList_build_at (o := ⟨some 37, .build 44 #[(3, .const (.string ⟨#[120]⟩))], _, _, _, _⟩) ?e1 44 #[(3, .const (.string ⟨#[120]⟩))] ?e2 #[(3, .string ⟨#[120]⟩)] ?e3 _ (HB0.out _) ?_); (case e1 => rfl); (case e2 => rfl); (case e3 => rfl)) | ((with_reducible refine wpList_eql_at (o := ⟨some 38, .binOp .eql 44 (.tmp 36) (.tmp 37) 44, _, _, _, _⟩) ?e1 44 (.tmp 36) (.tmp 37) 44 ?e2 ?e3 ?e4 guardPc (HQ0.out _) ?_); (case e1 => rfl); (case e2 => rfl); (case e3 => rfl); (case e4 => rfl)) | ((with_reducible refine wpList_load_at (o := ⟨some 43, .load 44 (.tmp 42), _, _, _, _⟩) ?e1 44 (.tmp 42) ?e2 ⟨b, off + 4, none⟩ ?e3 (.agg #[.bool true, .int .i64 0, .int .i64 16, .string ⟨#[]⟩]) LD1.out ?_); (case e1 => rfl); (case e2 => rfl); (case e3 => rfl)) | ((with_reducible refine wpList_build_at (o := ⟨some 44, .build 44 #[(0, .const (.bool true)), (2, .const (.int .i64 16))], _, _, _, _⟩) ?e1 44 #[(0, .const (.bool true)), (2, .const (.int .i64 16))] ?e2 #[(0, .bool true), (2, .int .i64 16)] ?e3 _ (HB1.out _) ?_); (case e1 => rfl); (case e2 => rfl); (case e3 => rfl)) | ((with_reducible refine wpList_eql_at (o := ⟨some 45, .binOp .eql 44 (.tmp 43) (.tmp 44) 44, _, _, _, _⟩) ?e1 44 (.tmp 43) (.tmp 44) 44 ?e2 ?e3 ?e4 guardPc (HQ1.out _) ?_); (case e1 => rfl); (case e2 => rfl); (case e3 => rfl); (case e4 => rfl)))
  go_ret
  exact ⟨rfl, B5.out⟩
end Go.Proofs.YtnencoainacpoaaDoor

