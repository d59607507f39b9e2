import Derived.Test.YtlahjooofjbfbaaDoorSgAwake
import Derived.Test.YtlahjooofjbfbaaDoorSgRefSame
import Derived.Test.YtlahjooofjbfbaaDoorSgRefOf
import Derived.Test.YtlahjooofjbfbaaDoorSgRefFind
/-
  The law SignTells: for every text, list of blocks and part it answers true, and nothing that was there is written. Nothing that was there is written.
-/
namespace Go.Proofs.YtlahjooofjbfbaaDoor
open Go.RowKit WM
set_option linter.unusedVariables false
set_option maxRecDepth 100000
set_option maxHeartbeats 4000000 in
theorem walk_signTells (s : ByteArray) (A : Option Addr) (len c : Nat) (l : List Sg) (part : ByteArray) (w : World) (hlaid : Laid w) (hs : s.size ≤ maxLen) (hl : l.length = len) (hr : KSig.row w A c l) (hp : part.size ≤ maxLen) :
    Calls Tryd.prog 3 #[.string s, .slice A len c, .string part] w fun e w' => e = .returned (.bool true) ∧ Below w.heap.size w w' := by
  subst hl
  have B0 := Lib.hid (Below.refl w.heap.size w)
  have HL := Lib.hid hlaid
  have HLA := Lib.hid (fun (X : World) (hX : Below w.heap.size w X) => hlaid.below hX (Nat.le_refl _))
  have HR := Lib.hid hr
  clear hs hp hr hlaid
  by_cases t1 : (300 : Int) < (s.size : Int)
  · clear HLA HR
    go_enter Tryd.func3, Tryd.ntmps3
    go_wp2_with fail
    refine (sgAwake w HL.out).mono ?_
    rintro e w1 ⟨rfl, hb⟩
    have B1 := Lib.hid (B0.out.trans (hb.mono B0.out.size))
    clear hb
    go_wp2
    go_ret
    exact ⟨rfl, B1.out⟩
  by_cases t2 : (60 : Int) < (l.length : Int)
  · clear HLA HR
    go_enter Tryd.func3, Tryd.ntmps3
    go_wp2_with fail
    refine (sgAwake w HL.out).mono ?_
    rintro e w1 ⟨rfl, hb⟩
    have B1 := Lib.hid (B0.out.trans (hb.mono B0.out.size))
    clear hb
    go_wp2
    go_ret
    exact ⟨rfl, B1.out⟩
  by_cases t3 : (300 : Int) < (part.size : Int)
  · clear HLA HR
    go_enter Tryd.func3, Tryd.ntmps3
    go_wp2_with fail
    refine (sgAwake w HL.out).mono ?_
    rintro e w1 ⟨rfl, hb⟩
    have B1 := Lib.hid (B0.out.trans (hb.mono B0.out.size))
    clear hb
    go_wp2
    go_ret
    exact ⟨rfl, B1.out⟩
  have C1 := Lib.hid (fun X (hX : Below w.heap.size w X) => of10_any s X (HLA.out X hX) (by omega))
  have C2 := Lib.hid (fun X => rof10_any s X (by omega))
  have C4 := Lib.hid (fun X (hX : Below w.heap.size w X) => one_any part X (HLA.out X hX) (by omega))
  have C5 := Lib.hid (fun X => rone_any part X (by omega))
  have C6 := Lib.hid (fun X (hX : Below w.heap.size w X) => find10_any A c l part X (HLA.out X hX) (Kind.row_below HR.out hX (Nat.le_refl _)) (by omega) (by omega))
  have C7 := Lib.hid (fun X (hX : Below w.heap.size w X) => rfind10_any A c l part X (Kind.row_below HR.out hX (Nat.le_refl _)) (by omega) (by omega))
  have HLL : Hid ((sgOf (nums s)).length ≤ 1000000) := Lib.hid (by
    have h1 := nums_len s
    have h2 := sgOf_le (nums s)
    omega)
  have hok := sgOne_ok (nums part)
  have hq : ∀ w9, (Op.equalIn 10000 30 (.agg (KSig.cs (sgOne (nums part))).toArray) (.agg (KSig.cs (sgOne (nums part))).toArray)).run Tryd.prog w9 = .ok true w9 := fun w9 => by
    rw [← show decide (sgOne (nums part) = sgOne (nums part)) = true by simp]; exact eq_sig hok hok w9
  have hgd := guardSig
  rw [show KSig.v (sgOne (nums part)) = .agg (KSig.cs (sgOne (nums part))).toArray from rfl] at C4 C5
  unfold KPost at C1 C2
  generalize sgOf (nums s) = L at *
  generalize (KSig.cs (sgOne (nums part))).toArray = X at *
  generalize sgFind l (nums part) = V at *
  clear hok HLA HR
  go_enter Tryd.func3, Tryd.ntmps3
  go_wp2_with fail
  refine (sgAwake w HL.out).mono ?_
  rintro e w1 ⟨rfl, hb⟩
  have B1 := Lib.hid (B0.out.trans (hb.mono B0.out.size))
  clear hb
  go_wp2_with fail
  refine (C1.out _ B1.out).mono ?_
  rintro e w2 ⟨A1, c1, rfl, r1, hb⟩
  have B2 := Lib.hid (B1.out.trans (hb.mono B1.out.size))
  have R1 := Lib.hid r1
  clear hb r1
  go_wp2_with fail
  refine (C2.out _).mono ?_
  rintro e w3 ⟨A2, c2, rfl, r2, hb⟩
  have B3 := Lib.hid (B2.out.trans (hb.mono B2.out.size))
  have C3 := rsame10_any A1 A2 c1 c2 L L w3 (Kind.row_below R1.out hb (Nat.le_refl _)) r2 HLL.out
  rw [decide_eq_true rfl] at C3
  have C3 := Lib.hid C3
  clear hb r2
  go_wp2_with fail
  refine (C3.out).mono ?_
  rintro e w4 ⟨rfl, hb⟩
  have B4 := Lib.hid (B3.out.trans (hb.mono B3.out.size))
  clear hb
  go_wp2_with fail
  refine (C4.out _ B4.out).mono ?_
  rintro e w5 ⟨rfl, hb⟩
  have B5 := Lib.hid (B4.out.trans (hb.mono B4.out.size))
  clear hb
  go_wp2_with fail
  refine (C5.out _).mono ?_
  rintro e w6 ⟨rfl, hb⟩
  have B6 := Lib.hid (B5.out.trans (hb.mono B5.out.size))
  clear hb
  go_wp2_with fail
  refine (C6.out _ B6.out).mono ?_
  rintro e w7 ⟨rfl, hb⟩
  have B7 := Lib.hid (B6.out.trans (hb.mono B6.out.size))
  clear hb
  go_wp2_with fail
  refine (C7.out _ B7.out).mono ?_
  rintro e w8 ⟨rfl, hb⟩
  have B8 := Lib.hid (B7.out.trans (hb.mono B7.out.size))
  clear hb
  go_wp2
  go_ret
  exact ⟨rfl, B8.out⟩
end Go.Proofs.YtlahjooofjbfbaaDoor

