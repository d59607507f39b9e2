/-
  What rec.rising hands back, and what it goes through: the cells of a map by rising numbers, for whatever loop's body that keeps the map.
-/
import Derived.Test.YtonbhcbkelmhgaaDoorRcGather
import Derived.RangeFuncNested
import Derived.RangeFuncBound
import Derived.RangeFuncCalls
import Derived.RangeFuncLeaves
import Derived.Shelf.Abstract
import Derived.Shelf.RegionOpen
import Derived.WalkKit
import Derived.OwnWalkIn
import Derived.TacticsInMore
import Derived.LoopNIn
import Derived.LoopIn
import Derived.Maps.OwnIn
namespace Go.Proofs.YtonbhcbkelmhgaaDoor
open Go.RowKit Go.Shelf WM
set_option linter.unusedVariables false
attribute [local go_sem] Oper.semAt_some
def riseL (f : Int → Option Cel) : Nat → List (Int × Cel)
  | 0 => []
  | k + 1 => riseL f k ++ (match f k with | some c => [((k : Int), c)] | none => [])
theorem riseL_len (f : Int → Option Cel) : ∀ k, (riseL f k).length ≤ k
  | 0 => Nat.le_refl _
  | k + 1 => by
    have := riseL_len f k
    rw [riseL, List.length_append]
    cases f k <;> simp <;> omega
theorem riseL_none {f : Int → Option Cel} {k : Nat} (h : f k = none) : riseL f (k + 1) = riseL f k := by simp [riseL, h]
theorem riseL_some {f : Int → Option Cel} {k : Nat} {c : Cel} (h : f k = some c) : riseL f (k + 1) = riseL f k ++ [((k : Int), c)] := by simp [riseL, h]
def encC (x : Int × Cel) : Array Value := #[.int .i64 x.1, x.2.v]
/-- The map's block, and its box, lie as they lay. -/
def Kp2 (Bx bm : Nat) (A B : World) : Prop := B.heap[Bx]? = A.heap[Bx]? ∧ B.heap[bm]? = A.heap[bm]?
def BoxM (w : World) (Bx bm : Nat) : Prop := w.heap[Bx]? = some (.cells #[.map (some bm)] 75)
theorem BoxM.lt {w : World} {Bx bm : Nat} (h : BoxM w Bx bm) : Bx < w.heap.size := (Array.getElem?_eq_some_iff.1 h).1
set_option maxRecDepth 100000 in
set_option maxHeartbeats 4000000 in
theorem rise1_in (n : Nat) (hn : 1 ≤ n) (l Bx bm N : Nat) (f : Int → Option Cel) (J Jx : List (Int × Cel) → World → Prop) (W : World) (hJ : AbidesFrom W.heap.size J)
    (hY : ∀ pre x W, J pre W → pre.length < 8 → YieldAt Fence.wide (n - 1) Tryd.prog l (encC x) W fun e W' =>
      (e = .returned (.bool true) ∧ J (pre ++ [x]) W' ∧ Kp2 Bx bm W W') ∨ (e = .returned (.bool false) ∧ Jx (pre ++ [x]) W'))
    (hBx : BoxM W Bx bm) (hM : MIs W bm N f) (h0 : J [] W) :
    CallsIn Fence.wide n Tryd.prog 71 #[.func (.yield l) #[] #[], .pointer (some ⟨Bx, 0, none⟩)] W fun e W' => (∃ v, e = .returned v) ∧
      ((∃ ys, ys = riseL f 8 ∧ J ys W') ∨ (∃ pre, True ∧ Jx pre W')) := by
  refine callsIn_of_wp Tryd.func71 rfl trivial ?_ rfl
  simp only [Tryd.ntmps71, List.size_toArray, List.length_cons, List.length_nil, Nat.reduceAdd, Nat.reduceSub, Array.replicate_succ, Array.replicate_zero, List.push_toArray, List.append_toArray, List.nil_append, List.cons_append]
  gi_wp2
  gi_loopw [6] (fun i wr => ∃ k : Nat, k ≤ 8 ∧ i = .int .i64 k ∧ J (riseL f k) wr ∧ MIs wr bm N f ∧ BoxM wr Bx bm) (fun i _ => 8 - (intOf i).toNat)
  case atStart => exact ⟨0, Nat.zero_le _, rfl, h0, hM, hBx⟩
  case round =>
    obtain ⟨k, hk, rfl, hJs, hMs, hBs⟩ := hrel
    have cB : wr.cell? ⟨Bx, 0, none⟩ = some (.map (some bm)) := by rw [cell_of_row _ _ _ _ _ _ hBs]; rfl
    by_cases hlt : k < 8
    · have LK := hMs.look (k := (k : Int)) (wf_i64 (by omega) (by omega))
      cases hf : f k with
      | none =>
        rw [hf] at LK
        dsimp only [Option.getD_none, Option.isSome_none, Cel.v, cel00] at LK
        have hJ1 := hJ _ _ _ none hJs (World.grownBy_alloc wr (.cells #[.int .i64 0, .int .i64 0, .string ⟨#[]⟩] 25) none) (fun r e => by cases e)
        have hb := (Below.refl wr.heap.size wr).alloc (Nat.le_refl _) (.cells #[.int .i64 0, .int .i64 0, .string ⟨#[]⟩] 25)
        have HJ1 := Lib.hid hJ1
        have HM1 := Lib.hid (hMs.below hb hMs.lt)
        have HB1 : Hid (BoxM (wr.alloc (.cells #[.int .i64 0, .int .i64 0, .string ⟨#[]⟩] 25)) Bx bm) := Lib.hid ((hb.block _ hBs.lt).trans hBs)
        have HR := Lib.hid (riseL_none hf)
        clear hJ1 hb hf hJs hMs hBs
        gi_wp2
        refine ⟨fun _ h => (by cases h), ?_⟩
        gi_wp2
        go_roundw
        case rel => exact ⟨k + 1, by omega, by simp, by rw [HR.out]; exact HJ1.out, HM1.out, HB1.out⟩
        case measure => simp [intOf]; omega
      | some c =>
        rw [hf] at LK
        dsimp only [Option.getD_some, Option.isSome_some, Cel.v] at LK
        have hJ1 := hJ _ _ _ none hJs (World.grownBy_alloc wr (.cells #[.int .i64 c.n, .int .i64 c.r, .string c.s] 25) none) (fun r e => by cases e)
        have hb := (Below.refl wr.heap.size wr).alloc (Nat.le_refl _) (.cells #[.int .i64 c.n, .int .i64 c.r, .string c.s] 25)
        obtain ⟨fn, tmps, assign, body, hy, hR⟩ := hY _ ((k : Int), c) _ hJ1 (Nat.lt_of_le_of_lt (riseL_len f k) hlt)
        dsimp only [encC, Cel.v] at hy
        have HM1 := Lib.hid (hMs.below hb hMs.lt)
        have HB1 : Hid (BoxM (wr.alloc (.cells #[.int .i64 c.n, .int .i64 c.r, .string c.s] 25)) Bx bm) := Lib.hid ((hb.block _ hBs.lt).trans hBs)
        have HRL := Lib.hid (riseL_some hf)
        have HRR := Lib.hid hR
        clear hJ1 hb hf hJs hMs hBs hR
        gi_wp2
        refine HRR.out.mono ?_
        rintro e W3 (⟨rfl, hJ3, hk3⟩ | ⟨rfl, hJx3⟩)
        · have HJ3 := Lib.hid hJ3
          have HM3 := Lib.hid (HM1.out.same hk3.2)
          have HB3 : Hid (BoxM W3 Bx bm) := Lib.hid (hk3.1.trans HB1.out)
          clear hJ3 hk3
          gi_wp2
          go_roundw
          case rel => exact ⟨k + 1, by omega, by simp, by rw [HRL.out]; exact HJ3.out, HM3.out, HB3.out⟩
          case measure => simp [intOf]; omega
        · have HX := Lib.hid hJx3
          clear hJx3
          gi_wp2
          refine bodyPost_ret (results_none rfl _ _ _) rfl ?_
          exact ⟨⟨_, rfl⟩, .inr ⟨_, trivial, HX.out⟩⟩
    · obtain rfl : k = 8 := by omega
      have HJ8 := Lib.hid hJs
      clear hJs hMs hBs
      gi_wp2
      go_end0
      exact ⟨⟨_, rfl⟩, .inl ⟨_, rfl, HJ8.out⟩⟩
theorem rise_stops (n : Nat) (hn : 1 ≤ n) (Bx bm N : Nat) (f : Int → Option Cel) (w : World) (hBx : BoxM w Bx bm) (hM : MIs w bm N f) :
    SeqStopsK Fence.wide n Tryd.prog 71 #[.pointer (some ⟨Bx, 0, none⟩)] encC (Kp2 Bx bm) (fun ys => ys = riseL f 8) (fun _ => True) 8 w := fun l J Jx W hW hJ _ hY h0 =>
  rise1_in n hn l Bx bm N f J Jx W hJ hY ((hW.block _ hBx.lt).trans hBx) (hM.below hW hM.lt) h0
/-- rec.rising: the map is boxed; the function value captures the box. -/
theorem rising_any (bm : Nat) (w : World) : Calls Tryd.prog 54 #[.map (some bm)] w fun e w' =>
    e = .returned (.func (.func 71) #[] #[.pointer (some ⟨w.heap.size, 0, none⟩)]) ∧ w' = w.alloc (.cells #[.map (some bm)] 75) := by
  go_enter Tryd.func54, Tryd.ntmps54
  go_wp2
  go_ret
  exact ⟨rfl, rfl⟩
end Go.Proofs.YtonbhcbkelmhgaaDoor
