import Derived.Test.YtcmknbdeafcknaaGreatDoorGClG
import Derived.Test.YtcmknbdeafcknaaGreatDoorBkRec
import Derived.Test.YtcmknbdeafcknaaGreatDoorRcConcat
import Derived.WalkLawsBesides
import Derived.Recover
/-
  The reader of package canon: a block that holds bytes still to be read; what need, pass, bytes, count, no answer, or that they panic.
-/
namespace Go.Proofs.YtcmknbdeafcknaaGreatDoor
open Go.RowKit WM
set_option linter.unusedVariables false
set_option maxRecDepth 20000
/-- What the reader panics with. -/
def pan : List PanicEntry := [{ v := .iface 9 (.string ⟨#[99, 97, 110, 111, 110, 58, 32, 98, 121, 116, 101, 115, 32, 111, 102, 32, 110, 111, 32, 98, 111, 111, 107]⟩), recovered := false }]
/-- Block q holds a reader whose bytes still to be read are zs. -/
def RdAt (w : World) (q : Nat) (zs : List Int) : Prop := ∃ A len cap, w.heap[q]? = some (.cells #[.slice A len cap] 84) ∧ Byt w q A zs ∧ zs.length = len ∧ len ≤ cap ∧ cap ≤ maxLen ∧ AllBytes zs
section
variable {w w' : World} {q : Nat} {zs : List Int}
theorem RdAt.lt (h : RdAt w q zs) : q < w.heap.size := by
  obtain ⟨A, len, cap, h, _⟩ := h
  exact (Array.getElem?_eq_some_iff.1 h).1
theorem RdAt.below {B : Nat} (h : RdAt w q zs) (hb : Below B w w') (hB : w.heap.size ≤ B) : RdAt w' q zs := by
  have hq := h.lt
  obtain ⟨A, len, cap, h, h1, h2⟩ := h
  exact ⟨A, len, cap, (hb.block q (by omega)).trans h, h1.move fun p hp => hb.cell (by omega), h2⟩
theorem RdAt.kept {row : Option Nat} (h : RdAt w q zs) (hg : w.grownBy w' row) (hr : ∀ k, row = some k → q < k) : RdAt w' q zs := by
  have hq := h.lt
  obtain ⟨A, len, cap, h, h1, h2⟩ := h
  refine ⟨A, len, cap, (hg.block q hq (fun e => by have := hr q e.symm; omega)).trans h, h1.move fun p hp => World.cell?_of_block (hg.block p.block (by omega) (fun e => by have := hr _ e.symm; omega)), h2⟩
end
theorem grown_trans {a b c : World} {row : Option Nat} (h : a.grownBy b row) (k : b.grownBy c row) : a.grownBy c row :=
  ⟨k.os.trans h.os, k.tape.trans h.tape, k.output.trans h.output, Nat.le_trans h.size k.size, fun i hi hne => (k.block i (Nat.lt_of_lt_of_le hi h.size) hne).trans (h.block i hi hne)⟩
theorem grown_new {a b c : World} {row row' : Option Nat} (h : a.grownBy b row) (k : b.grownBy c row') (hr : ∀ g, row' = some g → a.heap.size ≤ g) : a.grownBy c row :=
  ⟨k.os.trans h.os, k.tape.trans h.tape, k.output.trans h.output, Nat.le_trans h.size k.size, fun i hi hne => (k.block i (Nat.lt_of_lt_of_le hi h.size) (fun e => by have := hr i e.symm; omega)).trans (h.block i hi hne)⟩
theorem grown_below {a b : World} {B : Nat} {row : Option Nat} (h : Below B a b) (hB : a.heap.size ≤ B) : a.grownBy b row :=
  ⟨h.os, h.tape, h.output, h.size, fun i hi _ => h.block i (by omega)⟩
/-! ### need -/
theorem need_yes (q : Nat) (w : World) : Calls Tryz.prog 65 #[.pointer (some ⟨q, 0, none⟩), .bool true] w fun e w' => e = .returned (.tuple #[]) ∧ w' = w := by
  go_enter Tryz.func65, Tryz.ntmps65
  go_wp2
  go_end0
  exact ⟨rfl, rfl⟩
theorem need_no (q : Nat) (w : World) : Calls Tryz.prog 65 #[.pointer (some ⟨q, 0, none⟩), .bool false] w fun e w' => e = .panicked pan ∧ w' = w := by
  go_enter Tryz.func65, Tryz.ntmps65
  go_wp2
  exact ⟨rfl, rfl, rfl⟩
/-! ### pass -/
theorem rd_put {w : World} {q : Nat} {u : Value} (h : w.heap[q]? = some (.cells #[u] 84)) (v : Value) : (w.setCell ⟨q, 0, none⟩ v).heap[q]? = some (.cells #[v] 84) := by
  rw [heap_setCell_same _ _ _ _ _ _ h]
  rfl
theorem grown_set0 (w : World) (q : Nat) (v : Value) : w.grownBy (w.setCell ⟨q, 0, none⟩ v) (some q) := by
  refine ⟨rfl, rfl, rfl, ?_, fun k _ hk => Below.heap_setCell _ _ _ k (fun e => hk (by rw [e]))⟩
  exact ((Below.refl 0 w).setCell (p := ⟨q, 0, none⟩) (Nat.zero_le _) v).size
set_option maxHeartbeats 1000000 in
theorem pass_yes (q k : Nat) (zs : List Int) (w : World) (h : RdAt w q zs) (hk : k ≤ zs.length) :
    Calls Tryz.prog 121 #[.pointer (some ⟨q, 0, none⟩), .int .i64 k, .bool true] w fun e w' => e = .returned (.tuple #[]) ∧ RdAt w' q (zs.drop k) ∧ w.grownBy w' (some q) := by
  obtain ⟨A, len, cap, hq, hby, hl, hlc, hm, hall⟩ := h
  have c0 : w.cell? ⟨q, 0, none⟩ = some (.slice A len cap) := by rw [cell_of_row _ _ _ _ _ _ hq]; rfl
  have f0 : w.frozen? ⟨q, 0, none⟩ = false := frozen_of_row _ _ _ _ _ hq
  have hsl := sl_l A len cap k (by omega) (k : Int) rfl
  have hD := hby.drop (k := k) (cap := cap) (by omega)
  generalize (if cap = k then A else A.map (·.add k)) = A2 at hsl hD
  have HR : Hid (RdAt (w.setCell ⟨q, 0, none⟩ (.slice A2 (len - k) (cap - k))) q (zs.drop k)) := Lib.hid ⟨A2, len - k, cap - k, rd_put hq _, hD.move fun p hp => World.cell?_of_block ((grown_set0 w q _).block _ (by have := (Array.getElem?_eq_some_iff.1 hq).1; omega) (fun e => by have := Option.some.inj e; omega)), by rw [List.length_drop, hl], by omega, by omega, all_drop hall k⟩
  have HN := Lib.hid (need_yes q w)
  clear hq hby hl hall hD
  go_enter Tryz.func121, Tryz.ntmps121
  go_wp2_with fail
  refine HN.out.mono ?_
  rintro e w1 ⟨rfl, rfl⟩
  go_wp2
  go_end0
  exact ⟨rfl, HR.out, grown_set0 _ _ _⟩
theorem pass_no (q : Nat) (m : Int) (w : World) : Calls Tryz.prog 121 #[.pointer (some ⟨q, 0, none⟩), .int .i64 m, .bool false] w fun e w' => e = .panicked pan ∧ w' = w := by
  have HN := Lib.hid (need_no q w)
  go_enter Tryz.func121, Tryz.ntmps121
  go_wp2_with fail
  refine HN.out.mono ?_
  rintro e w1 ⟨rfl, rfl⟩
  go_wp2
  exact ⟨rfl, rfl, rfl⟩
/-! ### bytes -/
def BytesPost (w : World) (q k : Nat) (zs : List Int) (e : Ending) (w' : World) : Prop :=
  if k ≤ zs.length then ∃ A c, e = .returned (.slice A k c) ∧ Byt w' q A (zs.take k) ∧ k ≤ c ∧ c ≤ maxLen ∧ (0 < k → A ≠ none) ∧ RdAt w' q (zs.drop k) ∧ w.grownBy w' (some q)
  else e = .panicked pan ∧ w.grownBy w' (some q)
set_option maxHeartbeats 1000000 in
theorem bytes_any (q k : Nat) (zs : List Int) (w : World) (h : RdAt w q zs) (hk2 : k ≤ 1000) :
    Calls Tryz.prog 122 #[.pointer (some ⟨q, 0, none⟩), .int .i64 k] w (BytesPost w q k zs) := by
  have h' := h
  obtain ⟨A, len, cap, hq, hby, hl, hlc, hm, hall⟩ := h
  have c0 : w.cell? ⟨q, 0, none⟩ = some (.slice A len cap) := by rw [cell_of_row _ _ _ _ _ _ hq]; rfl
  simp only [maxLen] at hm
  by_cases hk : k ≤ len
  · have HP := Lib.hid (pass_yes q k zs w h' (by omega))
    have hsl := sl_h A len cap k (by omega) (k : Int) rfl
    have t1 : (k : Int) ≤ (len : Int) := by omega
    have HT := Lib.hid (hby.take k)
    have HL := Lib.hid hl
    have HA : Hid (0 < k → A ≠ none) := Lib.hid (fun h0 e => by
      obtain ⟨b, off, e2, _⟩ := hby (fun e3 => by rw [e3] at hl; simp at hl; omega)
      rw [e] at e2; cases e2)
    have HQ := Lib.hid h'.lt
    clear hq hby hl hall h'
    go_enter Tryz.func122, Tryz.ntmps122
    go_wp2_with fail
    refine HP.out.mono ?_
    rintro e w1 ⟨rfl, hr, hg⟩
    have HR := Lib.hid hr
    have HG := Lib.hid hg
    clear hr hg c0
    go_wp2
    go_ret
    have hl := HL.out
    show BytesPost _ _ _ _ _ _
    unfold BytesPost
    rw [if_pos (by omega)]
    exact ⟨A, cap, rfl, HT.out.move fun p hp => World.cell?_of_block (HG.out.block _ (by have := HQ.out; omega) (fun e => by have := Option.some.inj e; omega)), by omega, by simp only [maxLen]; omega, HA.out, HR.out, HG.out⟩
  · have HP := Lib.hid (pass_no q k w)
    have t1 : ¬ (k : Int) ≤ (len : Int) := by omega
    have HF := Lib.hid (show ¬ k ≤ zs.length by omega)
    clear hq hby hl hall h'
    go_enter Tryz.func122, Tryz.ntmps122
    go_wp2_with fail
    refine HP.out.mono ?_
    rintro e w1 ⟨rfl, rfl⟩
    go_wp2
    refine ⟨rfl, ?_⟩
    show BytesPost _ _ _ _ _ _
    unfold BytesPost
    rw [if_neg HF.out]
    exact ⟨rfl, World.grownBy.refl _ _⟩
/-! ### count -/
/-- How many parts there are, and what stands behind. -/
def cnt (most : Int) (zs : List Int) : Option (Nat × List Int) :=
  match dec zs with
  | none => none
  | some (n, k) => if n ≤ most then some (n.toNat, zs.drop k) else none
def CountPost (w : World) (q : Nat) (r : Option (Nat × List Int)) (e : Ending) (w' : World) : Prop :=
  match r with
  | some (n, ys) => e = .returned (.int .i64 n) ∧ RdAt w' q ys ∧ w.grownBy w' (some q)
  | none => e = .panicked pan ∧ w.grownBy w' (some q)
set_option maxHeartbeats 1000000 in
theorem count_any (q : Nat) (most : Nat) (zs : List Int) (w : World) (h : RdAt w q zs) (hm9 : most ≤ 1000) :
    Calls Tryz.prog 96 #[.pointer (some ⟨q, 0, none⟩), .int .i64 most] w (CountPost w q (cnt most zs)) := by
  have h' := h
  obtain ⟨A, len, cap, hq, hby, hl, hlc, hm, hall⟩ := h
  have c0 : w.cell? ⟨q, 0, none⟩ = some (.slice A len cap) := by rw [cell_of_row _ _ _ _ _ _ hq]; rfl
  have HG := Lib.hid (get_any A len cap zs w hby hl hall (by omega))
  have hcv : IntKind.u64.wrap (most : Int) = (most : Int) := IntWalk.u64_in _ (by omega)
  cases hd : dec zs with
  | none =>
    have HV := Lib.hid (show cnt most zs = none by unfold cnt; rw [hd])
    rw [hd] at HG
    unfold getV at HG
    clear hq hby hl hall h' hd
    have HP := Lib.hid (pass_no q 0 w)
    go_enter Tryz.func96, Tryz.ntmps96
    go_wp2_with fail
    refine HG.out.mono ?_
    rintro e w1 ⟨rfl, rfl⟩
    go_wp2_with fail
    refine HP.out.mono ?_
    rintro e w1 ⟨rfl, rfl⟩
    go_wp2
    refine ⟨rfl, ?_⟩
    rw [HV.out]
    exact ⟨rfl, World.grownBy.refl _ _⟩
  | some p =>
    obtain ⟨n, k⟩ := p
    obtain ⟨d1, d2, d3, d4, d5⟩ := dec_some hall hd
    have HP := Lib.hid (pass_yes q k zs w h' d2)
    rw [hd] at HG
    unfold getV at HG
    by_cases hn : n ≤ most
    · have HV := Lib.hid (show cnt most zs = some (n.toNat, zs.drop k) by unfold cnt; rw [hd]; simp only [if_pos hn])
      have HN := Lib.hid (need_yes q)
      have hcv2 : IntKind.i64.wrap n = n := IntWalk.i64_in _ (by omega)
      have HT := Lib.hid (show ((n.toNat : Nat) : Int) = n by omega)
      clear hq hby hl hall h' hd d1 d2 d3 d5
      go_enter Tryz.func96, Tryz.ntmps96
      go_wp2_with fail
      refine HG.out.mono ?_
      rintro e w1 ⟨rfl, rfl⟩
      go_wp2_with fail
      refine HP.out.mono ?_
      rintro e w2 ⟨rfl, hr, hg⟩
      have HR := Lib.hid hr
      have HGG := Lib.hid hg
      clear hr hg c0
      go_wp2_with fail
      refine (HN.out _).mono ?_
      rintro e w3 ⟨rfl, rfl⟩
      go_wp2
      go_ret
      show CountPost _ _ _ _ _
      rw [HV.out]
      unfold CountPost
      dsimp only
      rw [HT.out]
      exact ⟨rfl, HR.out, HGG.out⟩
    · have HV := Lib.hid (show cnt most zs = none by unfold cnt; rw [hd]; simp only [if_neg hn])
      have HN0 := need_no q
      rw [← decide_eq_false hn] at HN0
      have HN := Lib.hid HN0
      clear HN0
      clear hq hby hl hall h' hd d1 d2 d3 d4 d5
      go_enter Tryz.func96, Tryz.ntmps96
      go_wp2_with fail
      refine HG.out.mono ?_
      rintro e w1 ⟨rfl, rfl⟩
      go_wp2_with fail
      refine HP.out.mono ?_
      rintro e w2 ⟨rfl, hr, hg⟩
      have HGG := Lib.hid hg
      clear hr hg c0
      go_wp2_with fail
      refine (HN.out _).mono ?_
      rintro e w3 ⟨rfl, rfl⟩
      go_wp2
      refine ⟨rfl, ?_⟩
      rw [HV.out]
      exact ⟨rfl, HGG.out⟩
end Go.Proofs.YtcmknbdeafcknaaGreatDoor

