import Derived.Test.YtmhdidnahikmbaaRlChk
import Derived.RangeFuncNested
import Derived.RangeFuncBound
import Derived.RangeFuncCalls
import Derived.RangeFuncLeaves
import Derived.RangeFuncBox
import Derived.Shelf.Abstract
import Derived.Shelf.RegionOpen
import Derived.WalkKit
import Derived.OwnWalkIn
import Derived.TacticsInMore
import Derived.LoopNIn
import Derived.LoopIn
/-
  What package roll's along hands back, and what it goes through: the checks of all parts, for whatever loop's body that keeps the two boxes; and what All answers. Nothing that was there is written.
-/
namespace Go.Proofs.Ytmhdidnahikmbaa
open Go.RowKit Go.Shelf WM
set_option linter.unusedVariables false
set_option maxRecDepth 100000
attribute [local go_sem] Oper.semAt_some
def enc9 (x : Int) : Array Value := #[.int .u32 x]
def Kp9 (Bs Bm : Nat) (A B : World) : Prop := B.heap[Bs]? = A.heap[Bs]? ∧ B.heap[Bm]? = A.heap[Bm]?
def BoxS (w : World) (B : Nat) (s : ByteArray) : Prop := w.heap[B]? = some (.cells #[.string s] 9)
def BoxI (w : World) (B : Nat) (m : Int) : Prop := w.heap[B]? = some (.cells #[.int .i64 m] 3)
theorem BoxS.lt {w : World} {B : Nat} {s : ByteArray} (h : BoxS w B s) : B < w.heap.size := (Array.getElem?_eq_some_iff.1 h).1
theorem BoxI.lt {w : World} {B : Nat} {s : Int} (h : BoxI w B s) : B < w.heap.size := (Array.getElem?_eq_some_iff.1 h).1
theorem BoxS.c {w : World} {B : Nat} {s : ByteArray} (h : BoxS w B s) : w.cell? ⟨B, 0, none⟩ = some (.string s) := by rw [cell_of_row _ _ _ _ _ _ h]; rfl
theorem BoxI.c {w : World} {B : Nat} {m : Int} (h : BoxI w B m) : w.cell? ⟨B, 0, none⟩ = some (.int .i64 m) := by rw [cell_of_row _ _ _ _ _ _ h]; rfl
theorem abides_below {α : Type} {B : Nat} {J : α → World → Prop} (hJ : AbidesFrom B J) {s : α} {W W' : World} (h : J s W) (hb : Below W.heap.size W W') : J s W' :=
  hJ _ _ _ none h ⟨hb.os, hb.tape, hb.output, hb.size, fun k hk _ => hb.block k hk⟩ (fun r e => by cases e)
theorem sl_upto (s : ByteArray) (m : Nat) (hm : m ≤ s.size) (w : World) : (Instr.slice 9 (.string s) none (some (.int .i64 (m : Int))) none).run Try.prog w = .ok (.string (s.extract 0 m)) w := by
  have h := run_slice_string_h (P := Try.prog) (w := w) (t := 9) (s := s) Try.underlying9 .i64 (m : Int) (by omega) (by omega)
  simpa using h
set_option maxHeartbeats 4000000 in
theorem along1_in (n : Nat) (hn : 1 ≤ n) (l Bs Bm : Nat) (s : ByteArray) (q N : Nat) (hq1 : 1 ≤ q) (hqN : q ≤ N) (hN : s.size = N) (hs : N ≤ 100000) (J Jx : List Int → World → Prop) (W : World) (hJ : AbidesFrom W.heap.size J)
    (hY : ∀ pre x W, J pre W → pre.length < 100001 → YieldAt Fence.wide (n - 1) Try.prog l (enc9 x) W fun e W' =>
      (e = .returned (.bool true) ∧ J (pre ++ [x]) W' ∧ Kp9 Bs Bm W W') ∨ (e = .returned (.bool false) ∧ Jx (pre ++ [x]) W'))
    (hBs : BoxS W Bs s) (hBm : BoxI W Bm q) (h0 : J [] W) :
    CallsIn Fence.wide n Try.prog 20 #[.func (.yield l) #[] #[], .pointer (some ⟨Bs, 0, none⟩), .pointer (some ⟨Bm, 0, none⟩)] W fun e W' => (∃ v, e = .returned v) ∧
      ((∃ ys, ys = rlA (nums s) q ∧ J ys W') ∨ (∃ pre, True ∧ Jx pre W')) := by
  have hNN : (nums s).length = N := by rw [nums_len, hN]
  have HLN := Lib.hid (rlA_len (zs := nums s) hq1 (by rw [hNN]; exact hqN))
  rw [hNN] at HLN
  have HAT := Lib.hid (fun k (hk : k + q ≤ N) => rlA_at (zs := nums s) hq1 (by rw [hNN]; exact hqN) (k := k) (by rw [hNN]; exact hk))
  have HNX0 := Lib.hid (fun k (hk : k + q < N) => next_part (zs := nums s) (k := k) (m := q) hq1 (by rw [hNN]; exact hk))
  have HIX := Lib.hid (fun (k : Nat) (hk : k < N) (K : Int) (e : K = k) (w : World) => ix_strR s k (by rw [hNN]; exact hk) K e w)
  have HBY := Lib.hid (fun k => byte_at s k)
  have HC := Lib.hid (fun w => rlsum_any (s.extract 0 q) w (by rw [extract_size _ _ _ (by omega)]; omega))
  have hz := HAT.out 0 (by omega)
  rw [List.drop_zero] at hz
  rw [show nums (s.extract 0 q) = (nums s).take q by rw [nums_extract]; simp, ← hz] at HC
  have HL0 := Lib.hid (rlS_range ((nums s).take q))
  have hsl := sl_upto s q (by omega)
  have hsz := hN
  generalize s.extract 0 q = p at *
  have HNE := Lib.hid (fun k (hk : k + q ≤ N) => rlS_range (((nums s).drop k).take q))
  generalize rlA (nums s) (q : Int) = L at *
  have HJ := Lib.hid (fun pre X Y (h : J pre X) (hb : Below X.heap.size X Y) => abides_below hJ h hb)
  have HS0 := Lib.hid hBs
  have HM0 := Lib.hid hBm
  have H0 := Lib.hid h0
  have cs0 := hBs.c
  have cm0 := hBm.c
  clear hz hNN hBs hBm h0 hJ
  refine callsIn_of_wp Try.func20 rfl trivial ?_ rfl
  simp only [Try.ntmps20, List.size_toArray, List.length_cons, List.length_nil, Nat.reduceAdd, Nat.reduceSub, Array.replicate_succ, Array.replicate_zero, List.push_toArray, List.append_toArray, List.nil_append, List.cons_append]
  refine wpIn_wide.2 ?_
  go_wp2_with fail
  refine (HC.out _).mono ?_
  rintro e w1 ⟨rfl, hb⟩
  have cs1 := (hb.cell (p := ⟨Bs, 0, none⟩) HS0.out.lt).trans cs0
  have cm1 := (hb.cell (p := ⟨Bm, 0, none⟩) HM0.out.lt).trans cm0
  have HS1 : Hid (BoxS w1 Bs s) := Lib.hid ((hb.block _ HS0.out.lt).trans HS0.out)
  have HM1 : Hid (BoxI w1 Bm q) := Lib.hid ((hb.block _ HM0.out.lt).trans HM0.out)
  have H1 := Lib.hid (HJ.out _ _ _ H0.out hb)
  clear hb cs0 cm0
  go_wp2
  go_loopw [4, 5] (fun a i wr => ∃ k e : Nat, k < N - q + 1 ∧ e = q + k ∧ i = .int .i64 e ∧ a = .int .u32 (L.getD k 0) ∧ J (L.take k) wr ∧ BoxS wr Bs s ∧ BoxI wr Bm q) (fun _ i _ => N + 1 - (intOf i).toNat)
  case atStart => exact ⟨0, q, by omega, rfl, rfl, rfl, H1.out, HS1.out, HM1.out⟩
  case round =>
    obtain ⟨k, e, hk, he, rfl, rfl, hJs, hBs, hBm⟩ := hrel
    obtain ⟨fn, tmps, assign, body, hy, hR⟩ := hY _ (L.getD k 0) _ hJs (by rw [List.length_take]; omega)
    unfold enc9 at hy
    have HRR := Lib.hid hR
    have HTK := Lib.hid (show L.take (k + 1) = L.take k ++ [L.getD k 0] by
      rw [List.take_succ_eq_append_getElem (by rw [HLN.out]; exact hk), List.getD_eq_getElem?_getD, List.getElem?_eq_getElem (by rw [HLN.out]; exact hk)]
      rfl)
    have HSR := Lib.hid hBs
    have HMR := Lib.hid hBm
    have csr := hBs.c
    rw [← HTK.out] at HRR
    have HX := Lib.hid (HAT.out k (by omega))
    have HXR := Lib.hid (show 0 ≤ L.getD k 0 ∧ L.getD k 0 ≤ 4294967295 by rw [HX.out]; exact rlS_range _)
    generalize hx : L.getD k 0 = x at *
    clear hJs hBs hBm hR cs1 cm1 hx
    refine (wpIn_wide (n := n)).1 ?_
    gi_wp2_with fail
    refine HRR.out.mono ?_
    rintro e2 W3 (⟨rfl, hJ3, hk3⟩ | ⟨rfl, hJx3⟩)
    · have HJ3 := Lib.hid hJ3
      have HS3 : Hid (BoxS W3 Bs s) := Lib.hid (hk3.1.trans HSR.out)
      have HM3 : Hid (BoxI W3 Bm q) := Lib.hid (hk3.2.trans HMR.out)
      have CS2 := Lib.hid HS3.out.c
      have CM2 := Lib.hid HM3.out.c
      have cs3 := HS3.out.c
      have HBS2 := Lib.hid HS3.out.lt
      have HBM2 := Lib.hid HM3.out.lt
      clear hJ3 hk3 csr
      by_cases hlt : e < N
      · have t1 : (e : Int) < (N : Int) := by omega
        have IX1 := Lib.hid (HIX.out k (by omega) (k : Int) rfl)
        have IX2 := Lib.hid (HIX.out e hlt (e : Int) rfl)
        have FE := Lib.hid (show IntKind.i64.wrap ((e : Int) - (q : Int)) = (k : Int) by rw [IntWalk.i64_in _ (by omega)]; omega)
        have hnx := HNX0.out k (by omega)
        rw [← HX.out, show k + q = e by omega, ← HAT.out (k + 1) (by omega)] at hnx
        have HNX := Lib.hid (fun w => rlnext_any x q ((nums s).getD k 0) ((nums s).getD e 0) w HXR.out.1 HXR.out.2 (by omega) (by omega) (HBY.out k).1 (HBY.out k).2 (HBY.out e).1 (HBY.out e).2)
        rw [hnx] at HNX
        have HE := Lib.hid he
        generalize hy2 : L.getD (k + 1) 0 = y2 at *
        have HY2 := Lib.hid hy2
        generalize (nums s).getD k 0 = b1 at *
        generalize (nums s).getD e 0 = b2 at *
        clear hnx he hy2
        gi_wp2_with fail
        refine wpIn_wide.2 ?_
        refine wp_region_G _ (by kernel_rfl) ?_
        refine wpG_take (i := 0) (oi := ⟨some 22, _, _, _, _, _⟩) (v := ?_) rfl (by kernel_rfl) (by kernel_rfl) (by kernel_rfl) (Or.inl ⟨by rfl, unib_val ?_⟩) ?_; rotate_left; (focus (intro w9 hSw; go_simp; try with_reducible rfl)); simp only [Act.put, List.setIfInBounds_toArray, List.set_cons_zero, List.set_cons_succ]
        refine wpG_take (i := 1) (oi := ⟨some 23, _, _, _, _, _⟩) (v := ?_) rfl (by kernel_rfl) (by kernel_rfl) (by kernel_rfl) (Or.inl ⟨by rfl, unib_val ?_⟩) ?_; rotate_left; (focus (intro w9 hSw; have q0 := (hSw.cell (p := ⟨Bm, 0, none⟩) HBM2.out).trans CM2.out; go_simp; try with_reducible rfl)); simp only [Act.put, List.setIfInBounds_toArray, List.set_cons_zero, List.set_cons_succ]
        refine wpG_take (i := 2) (oi := ⟨some 24, _, _, _, _, _⟩) (v := ?_) rfl (by kernel_rfl) (by kernel_rfl) (by kernel_rfl) (Or.inl ⟨by rfl, unib_val ?_⟩) ?_; rotate_left; (focus (intro w9 hSw; have q0 := (hSw.cell (p := ⟨Bs, 0, none⟩) HBS2.out).trans CS2.out; go_simp; try with_reducible rfl)); simp only [Act.put, List.setIfInBounds_toArray, List.set_cons_zero, List.set_cons_succ]
        refine wpG_take (i := 3) (oi := ⟨some 25, _, _, _, _, _⟩) (v := ?_) rfl (by kernel_rfl) (by kernel_rfl) (by kernel_rfl) (Or.inl ⟨by rfl, unib_val ?_⟩) ?_; rotate_left; (focus (intro w9 hSw; go_simp; try with_reducible rfl)); simp only [Act.put, List.setIfInBounds_toArray, List.set_cons_zero, List.set_cons_succ]
        refine wpG_take (i := 4) (oi := ⟨some 26, _, _, _, _, _⟩) (v := ?_) rfl (by kernel_rfl) (by kernel_rfl) (by kernel_rfl) (Or.inl ⟨by rfl, unib_val ?_⟩) ?_; rotate_left; (focus (intro w9 hSw; have q0 := (hSw.cell (p := ⟨Bm, 0, none⟩) HBM2.out).trans CM2.out; go_simp; try with_reducible rfl)); simp only [Act.put, List.setIfInBounds_toArray, List.set_cons_zero, List.set_cons_succ]
        refine wpG_take (i := 5) (oi := ⟨some 27, _, _, _, _, _⟩) (v := ?_) rfl (by kernel_rfl) (by kernel_rfl) (by kernel_rfl) (Or.inl ⟨by rfl, unib_val ?_⟩) ?_; rotate_left; (focus (intro w9 hSw; have q0 := FE.out; go_simp; try with_reducible rfl)); simp only [Act.put, List.setIfInBounds_toArray, List.set_cons_zero, List.set_cons_succ]
        refine wpG_take (i := 6) (oi := ⟨some 28, _, _, _, _, _⟩) (v := ?_) rfl (by kernel_rfl) (by kernel_rfl) (by kernel_rfl) (Or.inl ⟨by rfl, unib_val ?_⟩) ?_; rotate_left; (focus (intro w9 hSw; have q0 := IX1.out w9; go_simp; try with_reducible rfl)); simp only [Act.put, List.setIfInBounds_toArray, List.set_cons_zero, List.set_cons_succ]
        refine wpG_take (i := 7) (oi := ⟨some 29, _, _, _, _, _⟩) (v := ?_) rfl (by kernel_rfl) (by kernel_rfl) (by kernel_rfl) (Or.inl ⟨by rfl, unib_val ?_⟩) ?_; rotate_left; (focus (intro w9 hSw; have q0 := (hSw.cell (p := ⟨Bs, 0, none⟩) HBS2.out).trans CS2.out; go_simp; try with_reducible rfl)); simp only [Act.put, List.setIfInBounds_toArray, List.set_cons_zero, List.set_cons_succ]
        refine wpG_take (i := 8) (oi := ⟨some 30, _, _, _, _, _⟩) (v := ?_) rfl (by kernel_rfl) (by kernel_rfl) (by kernel_rfl) (Or.inl ⟨by rfl, unib_val ?_⟩) ?_; rotate_left; (focus (intro w9 hSw; go_simp; try with_reducible rfl)); simp only [Act.put, List.setIfInBounds_toArray, List.set_cons_zero, List.set_cons_succ]
        refine wpG_take (i := 9) (oi := ⟨some 31, _, _, _, _, _⟩) (v := ?_) rfl (by kernel_rfl) (by kernel_rfl) (by kernel_rfl) (Or.inl ⟨by rfl, unib_val ?_⟩) ?_; rotate_left; (focus (intro w9 hSw; have q0 := IX2.out w9; go_simp; try with_reducible rfl)); simp only [Act.put, List.setIfInBounds_toArray, List.set_cons_zero, List.set_cons_succ]
        refine wpG_take (i := 10) (oi := ⟨some 32, _, _, _, _, _⟩) rfl (by kernel_rfl) (by kernel_rfl) (by kernel_rfl) (Or.inl ⟨by rfl, unib_call ?_ HNX.out⟩) ?_; (focus (intro w9 hSw; go_simp; try with_reducible rfl)); simp only [Act.put, List.setIfInBounds_toArray, List.set_cons_zero, List.set_cons_succ]
        refine wpG_take (i := 11) (oi := ⟨some 4, _, _, _, _, _⟩) (v := ?_) rfl (by kernel_rfl) (by kernel_rfl) (by kernel_rfl) (Or.inl ⟨by rfl, unib_val ?_⟩) ?_; rotate_left; (focus (intro w9 hSw; go_simp; try with_reducible rfl)); simp only [Act.put, List.setIfInBounds_toArray, List.set_cons_zero, List.set_cons_succ]
        refine wpG_done (by kernel_rfl) ?_ _
        intro w9 hSw _
        have FIN := Lib.hid (show J (L.take (k + 1)) w9 ∧ BoxS w9 Bs s ∧ BoxI w9 Bm q from ⟨HJ.out _ _ _ HJ3.out hSw, (hSw.block _ HBS2.out).trans HS3.out, (hSw.block _ HBM2.out).trans HM3.out⟩)
        clear hSw cs3
        gi_wp2
        go_roundw
        case rel => exact ⟨k + 1, e + 1, by have := HE.out; omega, by have := HE.out; omega, by go_num, by rw [HY2.out], FIN.out.1, FIN.out.2.1, FIN.out.2.2⟩
        case measure => simp [intOf]; omega
      · have t1 : ¬ (e : Int) < (N : Int) := by omega
        have HEND := Lib.hid (show L.take (k + 1) = L from List.take_of_length_le (by rw [HLN.out]; omega))
        rw [HEND.out] at HJ3
        gi_wp2
        go_end0
        exact ⟨⟨_, rfl⟩, .inl ⟨_, rfl, HJ3.out⟩⟩
    · have HX3 := Lib.hid hJx3
      clear hJx3
      gi_wp2
      go_end0
      exact ⟨⟨_, rfl⟩, .inr ⟨_, trivial, HX3.out⟩⟩
theorem along_stops (n : Nat) (hn : 1 ≤ n) (Bs Bm : Nat) (s : ByteArray) (q N : Nat) (hq1 : 1 ≤ q) (hqN : q ≤ N) (hN : s.size = N) (hs : N ≤ 100000) (w : World) (hBs : BoxS w Bs s) (hBm : BoxI w Bm q) :
    SeqStopsK Fence.wide n Try.prog 20 #[.pointer (some ⟨Bs, 0, none⟩), .pointer (some ⟨Bm, 0, none⟩)] enc9 (Kp9 Bs Bm) (fun ys => ys = rlA (nums s) q) (fun _ => True) 100001 w := fun l J Jx W hW hJ _ hY h0 =>
  along1_in n hn l Bs Bm s q N hq1 hqN hN hs J Jx W hJ hY ((hW.block _ hBs.lt).trans hBs) ((hW.block _ hBm.lt).trans hBm) h0
theorem along_any (s : ByteArray) (m : Int) (w : World) : Calls Try.prog 17 #[.string s, .int .i64 m] w fun e w' =>
    e = .returned (.func (.func 20) #[] #[.pointer (some ⟨w.heap.size, 0, none⟩), .pointer (some ⟨w.heap.size + 1, 0, none⟩)]) ∧ w' = (w.alloc (.cells #[.string s] 9)).alloc (.cells #[.int .i64 m] 3) := by
  go_enter Try.func17, Try.ntmps17
  go_wp2
  go_ret
  exact ⟨by simp, rfl⟩
end Go.Proofs.Ytmhdidnahikmbaa

