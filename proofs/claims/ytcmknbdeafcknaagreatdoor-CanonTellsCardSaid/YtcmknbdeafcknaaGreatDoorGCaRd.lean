import Derived.Test.YtcmknbdeafcknaaGreatDoorGClG
import Derived.Test.YtcmknbdeafcknaaGreatDoorBkRec
import Derived.Test.YtcmknbdeafcknaaGreatDoorRcConcat
import Derived.WalkLawsBesides
import Derived.Recover
import Derived.Test.YtcmknbdeafcknaaGreatDoorBkFind
import Derived.Test.YtcmknbdeafcknaaGreatDoorRcTag
import Derived.Laws.Cover3
import Derived.Test.YtcmknbdeafcknaaGreatDoorGBkVals
section
/-
  The reader of package canon: a block that holds bytes still to be read; what need, pass, bytes, count, no answer, or that they panic.
-/
namespace Go.Proofs.YtcmknbdeafcknaaGreatDoor
open Go.RowKit WM
set_option linter.unusedVariables false
set_option maxRecDepth 20000
/-- What the reader panics with. -/
def pan : List PanicEntry := [{ v := .iface 9 (.string ⟨#[99, 97, 110, 111, 110, 58, 32, 98, 121, 116, 101, 115, 32, 111, 102, 32, 110, 111, 32, 98, 111, 111, 107]⟩), recovered := false }]
/-- Block q holds a reader whose bytes still to be read are zs. -/
def RdAt (w : World) (q : Nat) (zs : List Int) : Prop := ∃ A len cap, w.heap[q]? = some (.cells #[.slice A len cap] 84) ∧ Byt w q A zs ∧ zs.length = len ∧ len ≤ cap ∧ cap ≤ maxLen ∧ AllBytes zs
section
variable {w w' : World} {q : Nat} {zs : List Int}
theorem RdAt.lt (h : RdAt w q zs) : q < w.heap.size := by
  obtain ⟨A, len, cap, h, _⟩ := h
  exact (Array.getElem?_eq_some_iff.1 h).1
theorem RdAt.below {B : Nat} (h : RdAt w q zs) (hb : Below B w w') (hB : w.heap.size ≤ B) : RdAt w' q zs := by
  have hq := h.lt
  obtain ⟨A, len, cap, h, h1, h2⟩ := h
  exact ⟨A, len, cap, (hb.block q (by omega)).trans h, h1.move fun p hp => hb.cell (by omega), h2⟩
theorem RdAt.kept {row : Option Nat} (h : RdAt w q zs) (hg : w.grownBy w' row) (hr : ∀ k, row = some k → q < k) : RdAt w' q zs := by
  have hq := h.lt
  obtain ⟨A, len, cap, h, h1, h2⟩ := h
  refine ⟨A, len, cap, (hg.block q hq (fun e => by have := hr q e.symm; omega)).trans h, h1.move fun p hp => World.cell?_of_block (hg.block p.block (by omega) (fun e => by have := hr _ e.symm; omega)), h2⟩
end
theorem grown_trans {a b c : World} {row : Option Nat} (h : a.grownBy b row) (k : b.grownBy c row) : a.grownBy c row :=
  ⟨k.os.trans h.os, k.tape.trans h.tape, k.output.trans h.output, Nat.le_trans h.size k.size, fun i hi hne => (k.block i (Nat.lt_of_lt_of_le hi h.size) hne).trans (h.block i hi hne)⟩
theorem grown_new {a b c : World} {row row' : Option Nat} (h : a.grownBy b row) (k : b.grownBy c row') (hr : ∀ g, row' = some g → a.heap.size ≤ g) : a.grownBy c row :=
  ⟨k.os.trans h.os, k.tape.trans h.tape, k.output.trans h.output, Nat.le_trans h.size k.size, fun i hi hne => (k.block i (Nat.lt_of_lt_of_le hi h.size) (fun e => by have := hr i e.symm; omega)).trans (h.block i hi hne)⟩
theorem grown_below {a b : World} {B : Nat} {row : Option Nat} (h : Below B a b) (hB : a.heap.size ≤ B) : a.grownBy b row :=
  ⟨h.os, h.tape, h.output, h.size, fun i hi _ => h.block i (by omega)⟩
/-! ### need -/
theorem need_yes (q : Nat) (w : World) : Calls Tryz.prog 65 #[.pointer (some ⟨q, 0, none⟩), .bool true] w fun e w' => e = .returned (.tuple #[]) ∧ w' = w := by
  go_enter Tryz.func65, Tryz.ntmps65
  go_wp2
  go_end0
  exact ⟨rfl, rfl⟩
theorem need_no (q : Nat) (w : World) : Calls Tryz.prog 65 #[.pointer (some ⟨q, 0, none⟩), .bool false] w fun e w' => e = .panicked pan ∧ w' = w := by
  go_enter Tryz.func65, Tryz.ntmps65
  go_wp2
  exact ⟨rfl, rfl, rfl⟩
/-! ### pass -/
theorem rd_put {w : World} {q : Nat} {u : Value} (h : w.heap[q]? = some (.cells #[u] 84)) (v : Value) : (w.setCell ⟨q, 0, none⟩ v).heap[q]? = some (.cells #[v] 84) := by
  rw [heap_setCell_same _ _ _ _ _ _ h]
  rfl
theorem grown_set0 (w : World) (q : Nat) (v : Value) : w.grownBy (w.setCell ⟨q, 0, none⟩ v) (some q) := by
  refine ⟨rfl, rfl, rfl, ?_, fun k _ hk => Below.heap_setCell _ _ _ k (fun e => hk (by rw [e]))⟩
  exact ((Below.refl 0 w).setCell (p := ⟨q, 0, none⟩) (Nat.zero_le _) v).size
set_option maxHeartbeats 1000000 in
theorem pass_yes (q k : Nat) (zs : List Int) (w : World) (h : RdAt w q zs) (hk : k ≤ zs.length) :
    Calls Tryz.prog 121 #[.pointer (some ⟨q, 0, none⟩), .int .i64 k, .bool true] w fun e w' => e = .returned (.tuple #[]) ∧ RdAt w' q (zs.drop k) ∧ w.grownBy w' (some q) := by
  obtain ⟨A, len, cap, hq, hby, hl, hlc, hm, hall⟩ := h
  have c0 : w.cell? ⟨q, 0, none⟩ = some (.slice A len cap) := by rw [cell_of_row _ _ _ _ _ _ hq]; rfl
  have f0 : w.frozen? ⟨q, 0, none⟩ = false := frozen_of_row _ _ _ _ _ hq
  have hsl := sl_l A len cap k (by omega) (k : Int) rfl
  have hD := hby.drop (k := k) (cap := cap) (by omega)
  generalize (if cap = k then A else A.map (·.add k)) = A2 at hsl hD
  have HR : Hid (RdAt (w.setCell ⟨q, 0, none⟩ (.slice A2 (len - k) (cap - k))) q (zs.drop k)) := Lib.hid ⟨A2, len - k, cap - k, rd_put hq _, hD.move fun p hp => World.cell?_of_block ((grown_set0 w q _).block _ (by have := (Array.getElem?_eq_some_iff.1 hq).1; omega) (fun e => by have := Option.some.inj e; omega)), by rw [List.length_drop, hl], by omega, by omega, all_drop hall k⟩
  have HN := Lib.hid (need_yes q w)
  clear hq hby hl hall hD
  go_enter Tryz.func121, Tryz.ntmps121
  go_wp2_with fail
  refine HN.out.mono ?_
  rintro e w1 ⟨rfl, rfl⟩
  go_wp2
  go_end0
  exact ⟨rfl, HR.out, grown_set0 _ _ _⟩
theorem pass_no (q : Nat) (m : Int) (w : World) : Calls Tryz.prog 121 #[.pointer (some ⟨q, 0, none⟩), .int .i64 m, .bool false] w fun e w' => e = .panicked pan ∧ w' = w := by
  have HN := Lib.hid (need_no q w)
  go_enter Tryz.func121, Tryz.ntmps121
  go_wp2_with fail
  refine HN.out.mono ?_
  rintro e w1 ⟨rfl, rfl⟩
  go_wp2
  exact ⟨rfl, rfl, rfl⟩
/-! ### bytes -/
def BytesPost (w : World) (q k : Nat) (zs : List Int) (e : Ending) (w' : World) : Prop :=
  if k ≤ zs.length then ∃ A c, e = .returned (.slice A k c) ∧ Byt w' q A (zs.take k) ∧ k ≤ c ∧ c ≤ maxLen ∧ (0 < k → A ≠ none) ∧ RdAt w' q (zs.drop k) ∧ w.grownBy w' (some q)
  else e = .panicked pan ∧ w.grownBy w' (some q)
set_option maxHeartbeats 1000000 in
theorem bytes_any (q k : Nat) (zs : List Int) (w : World) (h : RdAt w q zs) (hk2 : k ≤ 1000) :
    Calls Tryz.prog 122 #[.pointer (some ⟨q, 0, none⟩), .int .i64 k] w (BytesPost w q k zs) := by
  have h' := h
  obtain ⟨A, len, cap, hq, hby, hl, hlc, hm, hall⟩ := h
  have c0 : w.cell? ⟨q, 0, none⟩ = some (.slice A len cap) := by rw [cell_of_row _ _ _ _ _ _ hq]; rfl
  simp only [maxLen] at hm
  by_cases hk : k ≤ len
  · have HP := Lib.hid (pass_yes q k zs w h' (by omega))
    have hsl := sl_h A len cap k (by omega) (k : Int) rfl
    have t1 : (k : Int) ≤ (len : Int) := by omega
    have HT := Lib.hid (hby.take k)
    have HL := Lib.hid hl
    have HA : Hid (0 < k → A ≠ none) := Lib.hid (fun h0 e => by
      obtain ⟨b, off, e2, _⟩ := hby (fun e3 => by rw [e3] at hl; simp at hl; omega)
      rw [e] at e2; cases e2)
    have HQ := Lib.hid h'.lt
    clear hq hby hl hall h'
    go_enter Tryz.func122, Tryz.ntmps122
    go_wp2_with fail
    refine HP.out.mono ?_
    rintro e w1 ⟨rfl, hr, hg⟩
    have HR := Lib.hid hr
    have HG := Lib.hid hg
    clear hr hg c0
    go_wp2
    go_ret
    have hl := HL.out
    show BytesPost _ _ _ _ _ _
    unfold BytesPost
    rw [if_pos (by omega)]
    exact ⟨A, cap, rfl, HT.out.move fun p hp => World.cell?_of_block (HG.out.block _ (by have := HQ.out; omega) (fun e => by have := Option.some.inj e; omega)), by omega, by simp only [maxLen]; omega, HA.out, HR.out, HG.out⟩
  · have HP := Lib.hid (pass_no q k w)
    have t1 : ¬ (k : Int) ≤ (len : Int) := by omega
    have HF := Lib.hid (show ¬ k ≤ zs.length by omega)
    clear hq hby hl hall h'
    go_enter Tryz.func122, Tryz.ntmps122
    go_wp2_with fail
    refine HP.out.mono ?_
    rintro e w1 ⟨rfl, rfl⟩
    go_wp2
    refine ⟨rfl, ?_⟩
    show BytesPost _ _ _ _ _ _
    unfold BytesPost
    rw [if_neg HF.out]
    exact ⟨rfl, World.grownBy.refl _ _⟩
/-! ### count -/
/-- How many parts there are, and what stands behind. -/
def cnt (most : Int) (zs : List Int) : Option (Nat × List Int) :=
  match dec zs with
  | none => none
  | some (n, k) => if n ≤ most then some (n.toNat, zs.drop k) else none
def CountPost (w : World) (q : Nat) (r : Option (Nat × List Int)) (e : Ending) (w' : World) : Prop :=
  match r with
  | some (n, ys) => e = .returned (.int .i64 n) ∧ RdAt w' q ys ∧ w.grownBy w' (some q)
  | none => e = .panicked pan ∧ w.grownBy w' (some q)
set_option maxHeartbeats 1000000 in
theorem count_any (q : Nat) (most : Nat) (zs : List Int) (w : World) (h : RdAt w q zs) (hm9 : most ≤ 1000) :
    Calls Tryz.prog 96 #[.pointer (some ⟨q, 0, none⟩), .int .i64 most] w (CountPost w q (cnt most zs)) := by
  have h' := h
  obtain ⟨A, len, cap, hq, hby, hl, hlc, hm, hall⟩ := h
  have c0 : w.cell? ⟨q, 0, none⟩ = some (.slice A len cap) := by rw [cell_of_row _ _ _ _ _ _ hq]; rfl
  have HG := Lib.hid (get_any A len cap zs w hby hl hall (by omega))
  have hcv : IntKind.u64.wrap (most : Int) = (most : Int) := IntWalk.u64_in _ (by omega)
  cases hd : dec zs with
  | none =>
    have HV := Lib.hid (show cnt most zs = none by unfold cnt; rw [hd])
    rw [hd] at HG
    unfold getV at HG
    clear hq hby hl hall h' hd
    have HP := Lib.hid (pass_no q 0 w)
    go_enter Tryz.func96, Tryz.ntmps96
    go_wp2_with fail
    refine HG.out.mono ?_
    rintro e w1 ⟨rfl, rfl⟩
    go_wp2_with fail
    refine HP.out.mono ?_
    rintro e w1 ⟨rfl, rfl⟩
    go_wp2
    refine ⟨rfl, ?_⟩
    rw [HV.out]
    exact ⟨rfl, World.grownBy.refl _ _⟩
  | some p =>
    obtain ⟨n, k⟩ := p
    obtain ⟨d1, d2, d3, d4, d5⟩ := dec_some hall hd
    have HP := Lib.hid (pass_yes q k zs w h' d2)
    rw [hd] at HG
    unfold getV at HG
    by_cases hn : n ≤ most
    · have HV := Lib.hid (show cnt most zs = some (n.toNat, zs.drop k) by unfold cnt; rw [hd]; simp only [if_pos hn])
      have HN := Lib.hid (need_yes q)
      have hcv2 : IntKind.i64.wrap n = n := IntWalk.i64_in _ (by omega)
      have HT := Lib.hid (show ((n.toNat : Nat) : Int) = n by omega)
      clear hq hby hl hall h' hd d1 d2 d3 d5
      go_enter Tryz.func96, Tryz.ntmps96
      go_wp2_with fail
      refine HG.out.mono ?_
      rintro e w1 ⟨rfl, rfl⟩
      go_wp2_with fail
      refine HP.out.mono ?_
      rintro e w2 ⟨rfl, hr, hg⟩
      have HR := Lib.hid hr
      have HGG := Lib.hid hg
      clear hr hg c0
      go_wp2_with fail
      refine (HN.out _).mono ?_
      rintro e w3 ⟨rfl, rfl⟩
      go_wp2
      go_ret
      show CountPost _ _ _ _ _
      rw [HV.out]
      unfold CountPost
      dsimp only
      rw [HT.out]
      exact ⟨rfl, HR.out, HGG.out⟩
    · have HV := Lib.hid (show cnt most zs = none by unfold cnt; rw [hd]; simp only [if_neg hn])
      have HN0 := need_no q
      rw [← decide_eq_false hn] at HN0
      have HN := Lib.hid HN0
      clear HN0
      clear hq hby hl hall h' hd d1 d2 d3 d4 d5
      go_enter Tryz.func96, Tryz.ntmps96
      go_wp2_with fail
      refine HG.out.mono ?_
      rintro e w1 ⟨rfl, rfl⟩
      go_wp2_with fail
      refine HP.out.mono ?_
      rintro e w2 ⟨rfl, hr, hg⟩
      have HGG := Lib.hid hg
      clear hr hg c0
      go_wp2_with fail
      refine (HN.out _).mono ?_
      rintro e w3 ⟨rfl, rfl⟩
      go_wp2
      refine ⟨rfl, ?_⟩
      rw [HV.out]
      exact ⟨rfl, HGG.out⟩
end Go.Proofs.YtcmknbdeafcknaaGreatDoor

end
section
/-
  The reader of package canon: what no, id, stamp, cell, field answer, or that they panic.
-/
namespace Go.Proofs.YtcmknbdeafcknaaGreatDoor
open Go.RowKit WM
set_option linter.unusedVariables false
set_option maxRecDepth 20000
section
variable {a b c : World} {q : Nat}
theorem gq_refl (q : Nat) (a : World) : a.grownBy a (some q) := World.grownBy.refl _ _
theorem gq_below (h : a.grownBy b (some q)) (k : Below b.heap.size b c) : a.grownBy c (some q) := grown_trans h (grown_below k (Nat.le_refl _))
theorem gq_alloc (h : a.grownBy b (some q)) (o : Obj) : a.grownBy (b.alloc o) (some q) := grown_trans h (World.grownBy_alloc b o _)
theorem gq_set (h : a.grownBy b (some q)) {g : Nat} (j : Nat) (v : Value) (hg : a.heap.size ≤ g) : a.grownBy (b.setCell ⟨g, j, none⟩ v) (some q) := grown_new h (grownBy_setCell18 b g j v) (fun k e => by have := Option.some.inj e; omega)
theorem RdAt.set {zs : List Int} (h : RdAt a q zs) {g : Nat} (j : Nat) (v : Value) (hg : q < g) : RdAt (a.setCell ⟨g, j, none⟩ v) q zs := h.kept (grownBy_setCell18 a g j v) (fun k e => by have := Option.some.inj e; omega)
theorem RdAt.alloc {zs : List Int} (h : RdAt a q zs) (o : Obj) : RdAt (a.alloc o) q zs := h.kept (World.grownBy_alloc a o none) (fun k e => by cases e)
theorem StAt.kept {n r : Int} {g : Nat} (h : StAt a g n r) (hg : a.grownBy b (some q)) (hne : g ≠ q) : StAt b g n r := (hg.block g h.lt (fun e => hne (Option.some.inj e))).trans h
theorem ClAt.kept {x : Cel} {g : Nat} (h : ClAt a g x) (hg : a.grownBy b (some q)) (hne : g ≠ q) : ClAt b g x := (hg.block g h.lt (fun e => hne (Option.some.inj e))).trans h
theorem FlAt.kept {x : Fld} {g : Nat} (h : FlAt a g x) (hg : a.grownBy b (some q)) (hne : g ≠ q) : FlAt b g x := (hg.block g h.lt (fun e => hne (Option.some.inj e))).trans h
end
/-! ### a number -/
def NoPost (w : World) (q : Nat) (zs : List Int) (e : Ending) (w' : World) : Prop :=
  match zs with
  | z :: ys => e = .returned (.int .i64 z) ∧ RdAt w' q ys ∧ w.grownBy w' (some q)
  | [] => e = .panicked pan ∧ w.grownBy w' (some q)
set_option maxHeartbeats 1000000 in
theorem no_any (q : Nat) (zs : List Int) (w : World) (h : RdAt w q zs) :
    Calls Tryz.prog 124 #[.pointer (some ⟨q, 0, none⟩)] w (NoPost w q zs) := by
  have HB := Lib.hid (bytes_any q 1 zs w h (by omega))
  obtain ⟨_, _, _, _, _, _, _, _, hall⟩ := h
  unfold BytesPost at HB
  cases zs with
  | nil =>
    simp only [show ¬ 1 ≤ ([] : List Int).length by simp, if_false] at HB
    clear hall
    go_enter Tryz.func124, Tryz.ntmps124
    go_wp2_with fail
    refine HB.out.mono ?_
    rintro e w1 ⟨rfl, hg⟩
    go_wp2
    exact ⟨rfl, rfl, hg⟩
  | cons z ys =>
    simp only [show 1 ≤ (z :: ys).length by simp, if_true] at HB
    have hz := hall z (by simp)
    have hcv : IntKind.i64.wrap z = z := IntWalk.i64_in _ (by omega)
    clear hall
    go_enter Tryz.func124, Tryz.ntmps124
    go_wp2_with fail
    refine HB.out.mono ?_
    rintro e w1 ⟨A, c, rfl, hby, hkc, hcm, hA, hr, hg⟩
    obtain ⟨b, off, rfl, _, hc⟩ := hby (by simp)
    have c0 := hc 0 (by simp)
    have hix := ix_at b off 1 c 0 (by omega) 0 rfl
    have HR := Lib.hid hr
    have HG := Lib.hid hg
    simp only [Nat.add_zero, List.take_succ_cons, List.take_zero, List.getD_cons_zero] at c0 hix
    clear hby hc hr hg hA hkc hcm
    go_wp2
    go_ret
    exact ⟨rfl, HR.out, HG.out⟩
/-! ### a stamp -/
def pst (zs : List Int) : Option ((Int × Int) × List Int) := match stGet zs with | some (n, r, k) => some ((n, r), zs.drop k) | none => none
def RStPost (w : World) (q : Nat) (r : Option ((Int × Int) × List Int)) (e : Ending) (w' : World) : Prop :=
  match r with
  | some (s, ys) => e = .returned (st s.1 s.2) ∧ RdAt w' q ys ∧ w.grownBy w' (some q)
  | none => e = .panicked pan ∧ w.grownBy w' (some q)
set_option maxHeartbeats 1000000 in
theorem rstamp_any (q : Nat) (zs : List Int) (w : World) (h : RdAt w q zs) :
    Calls Tryz.prog 98 #[.pointer (some ⟨q, 0, none⟩)] w (RStPost w q (pst zs)) := by
  have R1 := Lib.hid (h.alloc (.cells #[.int .i64 0, .int .i64 0] 30))
  have HQ := Lib.hid h.lt
  have G1 := Lib.hid (gq_alloc (gq_refl q w) (.cells #[.int .i64 0, .int .i64 0] 30))
  have S2 := Lib.hid (StAt.new w 0 0)
  obtain ⟨A, len, cap, hq, hby, hl, hlc, hm, hall⟩ := R1.out
  have c0 : (w.alloc (.cells #[.int .i64 0, .int .i64 0] 30)).cell? ⟨q, 0, none⟩ = some (.slice A len cap) := by rw [cell_of_row _ _ _ _ _ _ hq]; rfl
  have HG := Lib.hid (stGet_any A len cap zs (w.alloc (.cells #[.int .i64 0, .int .i64 0] 30)) hby (by rw [World.size_alloc]; have := HQ.out; omega) hl hall (by omega))
  cases hd : stGet zs with
  | none =>
    have HV := Lib.hid (show pst zs = none by unfold pst; rw [hd])
    rw [hd] at HG
    unfold stGetV st at HG
    clear hq hby hl hall hd h hlc hm
    have HP := Lib.hid (pass_no q 0)
    go_enter Tryz.func98, Tryz.ntmps98
    go_wp2_with fail
    refine HG.out.mono ?_
    rintro e w1 ⟨rfl, hb⟩
    have G2 := Lib.hid (gq_alloc (gq_below G1.out hb) (.cells #[.int .i64 0, .int .i64 0] 30))
    clear hb c0
    go_wp2_with fail
    refine (HP.out _).mono ?_
    rintro e w2 ⟨rfl, rfl⟩
    go_wp2
    refine ⟨rfl, ?_⟩
    rw [HV.out]
    exact ⟨rfl, G2.out⟩
  | some p =>
    obtain ⟨n, r, k⟩ := p
    obtain ⟨m1, m2, m3⟩ := stGet_some hall hd
    have HV := Lib.hid (show pst zs = some ((n, r), zs.drop k) by unfold pst; rw [hd])
    have HM2 := Lib.hid m2
    rw [hd] at HG
    unfold stGetV st at HG
    clear hq hby hl hall hd h hlc hm m1 m2 m3
    go_enter Tryz.func98, Tryz.ntmps98
    go_wp2_with fail
    refine HG.out.mono ?_
    rintro e w1 ⟨rfl, hb⟩
    have R2 := Lib.hid ((R1.out.below hb (Nat.le_refl _)).alloc (.cells #[.int .i64 n, .int .i64 r] 30))
    have G2 := Lib.hid (gq_alloc (gq_below G1.out hb) (.cells #[.int .i64 n, .int .i64 r] 30))
    have S3 := Lib.hid ((S2.out.below hb S2.out.lt).old (.cells #[.int .i64 n, .int .i64 r] 30))
    have N3 := Lib.hid (StAt.new w1 n r)
    have hsz := hb.size
    rw [World.size_alloc] at hsz
    have HSZ := Lib.hid hsz
    have HP := Lib.hid (pass_yes q k zs _ R2.out HM2.out)
    clear hb c0 hsz
    go_wp2_with fail
    refine HP.out.mono ?_
    rintro e w2 ⟨rfl, hr, hg⟩
    have s4 := S3.out.kept hg (by have := HQ.out; omega)
    have n4 := N3.out.kept hg (by have := HQ.out; have := HSZ.out; omega)
    have a0 := n4.c0
    have a1 := n4.c1
    have e0 := s4.c0
    have e1 := s4.c1
    have f0 := s4.fz 0
    have f1 := s4.fz 1
    have S9 := Lib.hid (s4.put n r)
    have R9 := Lib.hid ((hr.set 0 (.int .i64 n) HQ.out).set 1 (.int .i64 r) HQ.out)
    have G9 := Lib.hid (gq_set (gq_set (grown_trans G2.out hg) 0 (.int .i64 n) (Nat.le_refl w.heap.size)) 1 (.int .i64 r) (Nat.le_refl w.heap.size))
    clear hr hg s4 n4
    go_wp2
    refine bodyPost_ret (v := st n r) ?_ rfl ?_
    · exact res_st Tryz.results98 rfl S9.out
    · rw [HV.out]
      exact ⟨rfl, R9.out, G9.out⟩
/-! ### a cell -/
def pcl (zs : List Int) : Option (Cel × List Int) := match cget zs with | some (c, k) => some (c, zs.drop k) | none => none
def RClPost (w : World) (q : Nat) (r : Option (Cel × List Int)) (e : Ending) (w' : World) : Prop :=
  match r with
  | some (c, ys) => e = .returned c.v ∧ RdAt w' q ys ∧ w.grownBy w' (some q)
  | none => e = .panicked pan ∧ w.grownBy w' (some q)
set_option maxHeartbeats 1000000 in
theorem rcell_any (q : Nat) (zs : List Int) (w : World) (h : RdAt w q zs) :
    Calls Tryz.prog 125 #[.pointer (some ⟨q, 0, none⟩)] w (RClPost w q (pcl zs)) := by
  have R1 := Lib.hid (h.alloc (.cells #[.int .i64 0, .int .i64 0, .string ⟨#[]⟩] 57))
  have HQ := Lib.hid h.lt
  have G1 := Lib.hid (gq_alloc (gq_refl q w) (.cells #[.int .i64 0, .int .i64 0, .string ⟨#[]⟩] 57))
  have S2 := Lib.hid (ClAt.new w cel0)
  dsimp only [cel0] at S2
  obtain ⟨A, len, cap, hq, hby, hl, hlc, hm, hall⟩ := R1.out
  have c0 : (w.alloc (.cells #[.int .i64 0, .int .i64 0, .string ⟨#[]⟩] 57)).cell? ⟨q, 0, none⟩ = some (.slice A len cap) := by rw [cell_of_row _ _ _ _ _ _ hq]; rfl
  have HG := Lib.hid (cget_any A len cap zs (w.alloc (.cells #[.int .i64 0, .int .i64 0, .string ⟨#[]⟩] 57)) hby (by rw [World.size_alloc]; have := HQ.out; omega) hl hall hlc hm)
  cases hd : cget zs with
  | none =>
    have HV := Lib.hid (show pcl zs = none by unfold pcl; rw [hd])
    rw [hd] at HG
    unfold cgetV cel0 Cel.v at HG
    dsimp only at HG
    clear hq hby hl hall hd h hlc hm
    have HP := Lib.hid (pass_no q 0)
    go_enter Tryz.func125, Tryz.ntmps125
    go_wp2_with fail
    refine HG.out.mono ?_
    rintro e w1 ⟨rfl, hb⟩
    have G2 := Lib.hid (gq_alloc (gq_below G1.out hb) (.cells #[.int .i64 0, .int .i64 0, .string ⟨#[]⟩] 57))
    clear hb c0
    go_wp2_with fail
    refine (HP.out _).mono ?_
    rintro e w2 ⟨rfl, rfl⟩
    go_wp2
    refine ⟨rfl, ?_⟩
    rw [HV.out]
    exact ⟨rfl, G2.out⟩
  | some p =>
    obtain ⟨x, k⟩ := p
    obtain ⟨m1, m2, m3⟩ := cget_some hall hd
    have HV := Lib.hid (show pcl zs = some (x, zs.drop k) by unfold pcl; rw [hd])
    have HM2 := Lib.hid m2
    rw [hd] at HG
    unfold cgetV Cel.v at HG
    dsimp only at HG
    obtain ⟨n, r, s⟩ := x
    dsimp only at HG
    clear hq hby hl hall hd h hlc hm m1 m2 m3
    go_enter Tryz.func125, Tryz.ntmps125
    go_wp2_with fail
    refine HG.out.mono ?_
    rintro e w1 ⟨rfl, hb⟩
    have R2 := Lib.hid ((R1.out.below hb (Nat.le_refl _)).alloc (.cells #[.int .i64 n, .int .i64 r, .string s] 57))
    have G2 := Lib.hid (gq_alloc (gq_below G1.out hb) (.cells #[.int .i64 n, .int .i64 r, .string s] 57))
    have S3 := Lib.hid ((S2.out.below hb S2.out.lt).old (.cells #[.int .i64 n, .int .i64 r, .string s] 57))
    have N3 := Lib.hid (ClAt.new w1 ⟨n, r, s⟩)
    dsimp only at N3
    have hsz := hb.size
    rw [World.size_alloc] at hsz
    have HSZ := Lib.hid hsz
    have HP := Lib.hid (pass_yes q k zs _ R2.out HM2.out)
    clear hb c0 hsz
    go_wp2_with fail
    refine HP.out.mono ?_
    rintro e w2 ⟨rfl, hr, hg⟩
    have s4 := S3.out.kept hg (by have := HQ.out; omega)
    have n4 := N3.out.kept hg (by have := HQ.out; have := HSZ.out; omega)
    have a0 := n4.c0
    have a1 := n4.c1
    have a2 := n4.c2
    have e0 := s4.c0
    have e1 := s4.c1
    have e2 := s4.c2
    have f0 := s4.fz 0
    have f1 := s4.fz 1
    have f2 := s4.fz 2
    have S9 := Lib.hid (s4.put ⟨n, r, s⟩)
    have R9 := Lib.hid (((hr.set 0 (.int .i64 n) HQ.out).set 1 (.int .i64 r) HQ.out).set 2 (.string s) HQ.out)
    have G9 := Lib.hid (gq_set (gq_set (gq_set (grown_trans G2.out hg) 0 (.int .i64 n) (Nat.le_refl w.heap.size)) 1 (.int .i64 r) (Nat.le_refl w.heap.size)) 2 (.string s) (Nat.le_refl w.heap.size))
    clear hr hg s4 n4
    go_wp2
    refine bodyPost_ret (v := Cel.v ⟨n, r, s⟩) ?_ rfl ?_
    · exact res_cl Tryz.results125 rfl S9.out
    · rw [HV.out]
      exact ⟨rfl, R9.out, G9.out⟩
/-! ### a field -/
def pfl (zs : List Int) : Option (Fld × List Int) :=
  match zs with
  | [] => none
  | z :: ys => match pcl ys with | some (c, r) => some (⟨z, c⟩, r) | none => none
def RFlPost (w : World) (q : Nat) (r : Option (Fld × List Int)) (e : Ending) (w' : World) : Prop :=
  match r with
  | some (f, ys) => e = .returned f.v ∧ RdAt w' q ys ∧ w.grownBy w' (some q)
  | none => e = .panicked pan ∧ w.grownBy w' (some q)
theorem FlAt.put {w : World} {b : Nat} {f : Fld} (h : FlAt w b f) (g : Fld) : FlAt ((((w.setCell ⟨b, 0, none⟩ (.int .i64 g.no)).setCell ⟨b, 1, none⟩ (.int .i64 g.c.n)).setCell ⟨b, 2, none⟩ (.int .i64 g.c.r)).setCell ⟨b, 3, none⟩ (.string g.c.s)) b g := by
  unfold FlAt
  rw [heap_setCell_same _ _ _ _ _ _ (heap_setCell_same _ _ _ _ _ _ (heap_setCell_same _ _ _ _ _ _ (heap_setCell_same _ _ _ _ _ _ h)))]
  rfl
theorem load_fl {w : World} {b : Nat} {f : Fld} (h : FlAt w b f) : (loadVar 59 ⟨b, 0, none⟩).run Tryz.prog w = .ok f.v w :=
  run_loadVar_row w b 59 59 _ (0, 0) _ h Tryz.underlying59 rfl (by kernel_rfl)
theorem res_fl {fn : Func} {p : Tmp} (h : fn.results = #[.cell p 59]) {tmps : Array Value} {w : World} {b : Nat} {f : Fld} (hp : tmps.getD p undef = .pointer (some ⟨b, 0, none⟩)) (hs : FlAt w b f) :
    (results fn tmps).run Tryz.prog w = .ok f.v w := by
  have hp' : tmps[p]?.getD undef = .pointer (some ⟨b, 0, none⟩) := by simpa using hp
  simp [results, h, hp', asAddr, load_fl hs]
set_option maxHeartbeats 1000000 in
theorem rfield_any (q : Nat) (zs : List Int) (w : World) (h : RdAt w q zs) :
    Calls Tryz.prog 100 #[.pointer (some ⟨q, 0, none⟩)] w (RFlPost w q (pfl zs)) := by
  have HQ := Lib.hid h.lt
  have G1 := Lib.hid (gq_alloc (gq_refl q w) (.cells #[.int .i64 0, .int .i64 0, .int .i64 0, .string ⟨#[]⟩] 59))
  have S2 := Lib.hid (FlAt.new w fld0)
  dsimp only [fld0, cel00] at S2
  have HN := Lib.hid (no_any q zs _ (h.alloc (.cells #[.int .i64 0, .int .i64 0, .int .i64 0, .string ⟨#[]⟩] 59)))
  clear h
  cases zs with
  | nil =>
    unfold NoPost at HN
    have HV := Lib.hid (show pfl [] = none from rfl)
    go_enter Tryz.func100, Tryz.ntmps100
    go_wp2_with fail
    refine HN.out.mono ?_
    rintro e w1 ⟨rfl, hg⟩
    go_wp2
    refine ⟨rfl, ?_⟩
    rw [HV.out]
    exact ⟨rfl, grown_trans G1.out hg⟩
  | cons z ys =>
    unfold NoPost at HN
    dsimp only at HN
    cases hc : pcl ys with
    | none =>
      have HV := Lib.hid (show pfl (z :: ys) = none by unfold pfl; simp only [hc])
      go_enter Tryz.func100, Tryz.ntmps100
      go_wp2_with fail
      refine HN.out.mono ?_
      rintro e w1 ⟨rfl, hr, hg⟩
      have HC := rcell_any q ys w1 hr
      rw [hc] at HC
      unfold RClPost at HC
      have HC := Lib.hid HC
      have G2 := Lib.hid (grown_trans G1.out hg)
      clear hr hg hc
      go_wp2_with fail
      refine HC.out.mono ?_
      rintro e w2 ⟨rfl, hg⟩
      go_wp2
      refine ⟨rfl, ?_⟩
      rw [HV.out]
      exact ⟨rfl, grown_trans G2.out hg⟩
    | some p =>
      obtain ⟨⟨n, r, s⟩, rs⟩ := p
      have HV := Lib.hid (show pfl (z :: ys) = some (⟨z, ⟨n, r, s⟩⟩, rs) by unfold pfl; simp only [hc])
      go_enter Tryz.func100, Tryz.ntmps100
      go_wp2_with fail
      refine HN.out.mono ?_
      rintro e w1 ⟨rfl, hr, hg⟩
      have HC := rcell_any q ys w1 hr
      rw [hc] at HC
      unfold RClPost Cel.v at HC
      dsimp only at HC
      have HC := Lib.hid HC
      have G2 := Lib.hid (grown_trans G1.out hg)
      have S3 := Lib.hid (S2.out.kept hg (by have := HQ.out; omega))
      clear hr hg hc
      go_wp2_with fail
      refine HC.out.mono ?_
      rintro e w2 ⟨rfl, hr, hg⟩
      have s4 := S3.out.kept hg (by have := HQ.out; omega)
      have e0 := s4.c0
      have e1 := s4.c1
      have e2 := s4.c2
      have e3 := s4.c3
      have f0 := s4.fz 0
      have f1 := s4.fz 1
      have f2 := s4.fz 2
      have f3 := s4.fz 3
      have S9 := Lib.hid (s4.put ⟨z, n, r, s⟩)
      have R9 := Lib.hid ((((hr.set 0 (.int .i64 z) HQ.out).set 1 (.int .i64 n) HQ.out).set 2 (.int .i64 r) HQ.out).set 3 (.string s) HQ.out)
      have G9 := Lib.hid (gq_set (gq_set (gq_set (gq_set (grown_trans G2.out hg) 0 (.int .i64 z) (Nat.le_refl w.heap.size)) 1 (.int .i64 n) (Nat.le_refl w.heap.size)) 2 (.int .i64 r) (Nat.le_refl w.heap.size)) 3 (.string s) (Nat.le_refl w.heap.size))
      clear hr hg s4
      go_wp2
      refine bodyPost_ret (v := Fld.v ⟨z, n, r, s⟩) ?_ rfl ?_
      · exact res_fl Tryz.results100 rfl S9.out
      · rw [HV.out]
        exact ⟨rfl, R9.out, G9.out⟩
end Go.Proofs.YtcmknbdeafcknaaGreatDoor

end
section
/-
  The reader of package canon: what id, and list of fields, answer, or that they panic.
-/
namespace Go.Proofs.YtcmknbdeafcknaaGreatDoor
open Go.RowKit WM
set_option linter.unusedVariables false
set_option maxRecDepth 20000
/-! ### a name -/
theorem zeroID (w : World) : (zeroValue 26).run Tryz.prog w = .ok (.agg (bvals z16)) w := (zero_of_info (show (Tryz.prog.info? 26).map (fun i => (i.zero, i.size)) = some (some (.agg (bvals z16)), 16) by kernel_rfl)).1 w
theorem bvals_one' (l : List Int) : (bvals l).all (·.oneCell') = true := by
  rw [Array.all_eq_true_iff_forall_mem]
  intro u hu
  simp only [bvals, List.mem_toArray, List.mem_map] at hu
  obtain ⟨x, _, rfl⟩ := hu
  rfl
theorem IdAt.kept {w w' : World} {b q : Nat} {z : List Int} (h : IdAt w b z) (hg : w.grownBy w' (some q)) (hne : b ≠ q) : IdAt w' b z := ⟨h.1, (hg.block b h.lt (fun e => hne (Option.some.inj e))).trans h.2⟩
theorem wpList_store_oldid {w : World} {ops : Array Oper} {rest : List Oper} {o : Oper} {a : Act} {Q : Exit → Act → World → Prop} (hgd : o.guard = none) (p q : Operand) (hop : o.op = .store 26 p q)
    (g : Nat) (z : List Int) (hb : IdAt w g z) (hx : a.eval p = .pointer (some ⟨g, 0, none⟩)) (z' : List Int) (hy : a.eval q = .agg (bvals z')) (hz : z'.length = 16)
    (hK : ∀ w', w.grownBy w' (some g) → IdAt w' g z' → wpList Tryz.prog ops Q rest (a.put o.dst undef) w') : wpList Tryz.prog ops Q (o :: rest) a w := by
  refine wpList_store_row hgd 26 p q hop g (bvals z') hx hy 26 _ hb.2 (by rw [bvals_size, hz]; exact sizeID16) (by rw [bvals_size, bvals_size, hz, hb.1]) (bvals_one' _) ?_
  exact hK _ (grownBy_setRow w g _) ⟨hz, setRow_heap w g _ _ _ _ hb.2⟩
theorem wpList_store_newid {w : World} {ops : Array Oper} {rest : List Oper} {o : Oper} {a : Act} {Q : Exit → Act → World → Prop} (hgd : o.guard = none) (p q : Operand) (hop : o.op = .store 26 p q)
    (b : Nat) (hb : b = w.heap.size) (hx : a.eval p = .pointer (some ⟨b, 0, none⟩)) (z : List Int) (hy : a.eval q = .agg (bvals z)) (hz : z.length = 16)
    (hK : wpList Tryz.prog ops Q rest (a.put o.dst undef) (w.alloc (.cells (bvals z) 26))) : wpList Tryz.prog ops Q (o :: rest) a (w.alloc (.cells (bvals z16) 26)) := by
  subst hb
  refine wpList_store_row hgd 26 p q hop w.heap.size (bvals z) hx hy 26 _ (heap_alloc_new w _) (by rw [bvals_size, hz]; exact sizeID16) (by rw [bvals_size, bvals_size, hz]; rfl) (bvals_one' _) ?_
  rw [World.setRow_alloc_new w _ _ _]
  exact hK
/-- Sixteen bytes of a row, as a name. -/
theorem load_id_byt {w : World} {b off : Nat} {z : List Int} (hz : z.length = 16) (hc : ∀ i, i < z.length → w.cell? ⟨b, off + i, none⟩ = some (.int .u8 (z.getD i 0))) : (loadVar 26 ⟨b, off, none⟩).run Tryz.prog w = .ok (.agg (bvals z)) w := by
  have hl : (loadCells ⟨b, off, none⟩ 16).run Tryz.prog w = .ok (bvals z) w := by
    have h1 := run_loadCells_list (P := Tryz.prog) w ⟨b, off, none⟩ (z.map (Value.int .u8)) (fun j u hu => by
      have hj : j < z.length := by have := (List.getElem?_eq_some_iff.1 hu).1; simpa using this
      rw [Addr.add_lit, hc j hj]
      rw [List.getElem?_map, List.getElem?_eq_getElem hj] at hu
      simpa [List.getD, List.getElem?_eq_getElem hj] using hu)
    rw [List.length_map, hz] at h1
    exact h1
  have hs := sizeID
  cases hq : Tryz.prog.info? 26 with
  | none => simp [hq] at hs
  | some i =>
    have hs : i.size = 16 := by simpa [hq] using hs
    have hagg : (isAgg 26).run Tryz.prog w = .ok true w := by
      unfold isAgg
      rw [Sem.run_bind, run_underlying Tryz.underlying26 w]
      simp
    simp [loadVar, Sem.run_bind, hagg, sizeOf, typeInfo, hq, hs, hl]
theorem res_id {fn : Func} {p : Tmp} (h : fn.results = #[.cell p 26]) {tmps : Array Value} {w : World} {b : Nat} {z : List Int} (hp : tmps.getD p undef = .pointer (some ⟨b, 0, none⟩)) (hs : IdAt w b z) :
    (results fn tmps).run Tryz.prog w = .ok (.agg (bvals z)) w := by
  have hp' : tmps[p]?.getD undef = .pointer (some ⟨b, 0, none⟩) := by simpa using hp
  simp [results, h, hp', asAddr, load_arr16 hs]
def RIdPost (w : World) (q : Nat) (zs : List Int) (e : Ending) (w' : World) : Prop :=
  if 16 ≤ zs.length then e = .returned (.agg (bvals (zs.take 16))) ∧ RdAt w' q (zs.drop 16) ∧ w.grownBy w' (some q) else e = .panicked pan ∧ w.grownBy w' (some q)
set_option maxHeartbeats 1000000 in
theorem rid_any (q : Nat) (zs : List Int) (w : World) (h : RdAt w q zs) :
    Calls Tryz.prog 97 #[.pointer (some ⟨q, 0, none⟩)] w (RIdPost w q zs) := by
  have HQ := Lib.hid h.lt
  have HB := bytes_any q 16 zs _ (h.alloc (.cells (bvals z16) 26)) (by omega)
  have G1 := Lib.hid (gq_alloc (gq_refl q w) (.cells (bvals z16) 26))
  have I1 := Lib.hid (IdAt.new w z16_len)
  have hz := zeroID
  unfold BytesPost at HB
  by_cases hl : 16 ≤ zs.length
  · have HV : Hid (∀ e w', e = .returned (.agg (bvals (zs.take 16))) ∧ RdAt w' q (zs.drop 16) ∧ w.grownBy w' (some q) → RIdPost w q zs e w') := Lib.hid (fun e w' h => by unfold RIdPost; rw [if_pos hl]; exact h)
    have HT := Lib.hid (show (zs.take 16).length = 16 by rw [List.length_take]; omega)
    simp only [hl, if_true] at HB
    have HB := Lib.hid HB
    clear h hl
    generalize zs.take 16 = z at *
    generalize bvals z16 = Z at *
    go_enter Tryz.func97, Tryz.ntmps97
    go_wp2_with fail
    refine HB.out.mono ?_
    rintro e w1 ⟨A, c, rfl, hby, hkc, hcm, hA, hr, hg⟩
    obtain ⟨b, off, rfl, hbq, hc⟩ := hby (fun e => by have := HT.out; rw [e] at this; simp at this)
    have LI := Lib.hid (load_id_byt HT.out hc)
    have I2 := Lib.hid (I1.out.kept hg (by have := HQ.out; omega))
    have HR := Lib.hid hr
    have HG := Lib.hid (grown_trans G1.out hg)
    have hat : ∀ w, (Instr.arrayAt 26 (.slice (some ⟨b, off, none⟩) 16 c)).run Tryz.prog w = .ok (.pointer (some ⟨b, off, none⟩)) w := fun w => run_arrayAt w 26 _ 16 _ 16 c Tryz.underlying26 (by omega)
    clear hby hkc hcm hA hr hg hc
    go_wp2_with (first | ((with_reducible refine wpList_load_by16 (o := ⟨some 6, .load 26 (.tmp 5), _, _, _, _⟩) ?e1 26 (.tmp 5) ?e2 ⟨b, off, none⟩ ?e3 _ LI.out ?_); (case e1 => rfl); (case e2 => rfl); (case e3 => rfl)) | ((with_reducible refine wpList_store_oldid (o := ⟨none, .store 26 (.tmp 2) (.tmp 6), _, _, _, _⟩) ?e1 (.tmp 2) (.tmp 6) ?e2 w.heap.size _ I2.out ?e3 z ?e4 HT.out ?_); (case e1 => rfl); (case e2 => rfl); (case e3 => rfl); (case e4 => rfl); intro w2 hg2 hx2; have G9 := Lib.hid hg2; have X9 := Lib.hid hx2; clear hg2 hx2))
    refine bodyPost_ret (v := .agg (bvals z)) ?_ rfl ?_
    · exact res_id Tryz.results97 rfl X9.out
    · exact HV.out _ _ ⟨rfl, HR.out.kept G9.out (fun k e => by have := Option.some.inj e; have := HQ.out; omega), grown_new HG.out G9.out (fun k e => by have := Option.some.inj e; omega)⟩
  · have HV : Hid (∀ e w', e = .panicked pan ∧ w.grownBy w' (some q) → RIdPost w q zs e w') := Lib.hid (fun e w' h => by unfold RIdPost; rw [if_neg hl]; exact h)
    simp only [hl, if_false] at HB
    have HB := Lib.hid HB
    clear h hl
    generalize bvals z16 = Z at *
    go_enter Tryz.func97, Tryz.ntmps97
    go_wp2_with fail
    refine HB.out.mono ?_
    rintro e w1 ⟨rfl, hg⟩
    go_wp2
    exact ⟨rfl, HV.out _ _ ⟨rfl, grown_trans G1.out hg⟩⟩
/-! ### as many as there are -/
section
variable {α : Type}
def many (p : List Int → Option (α × List Int)) : Nat → List Int → Option (List α × List Int)
  | 0, zs => some ([], zs)
  | k + 1, zs => (p zs).bind fun a => (many p k a.2).map fun x => (a.1 :: x.1, x.2)
def lst (p : List Int → Option (α × List Int)) (most : Int) (zs : List Int) : Option (List α × List Int) := (cnt most zs).bind fun x => many p x.1 x.2
theorem many_none {p : List Int → Option (α × List Int)} {k : Nat} {zs : List Int} (h : p zs = none) : many p (k + 1) zs = none := by rw [many, h]; rfl
theorem many_some {p : List Int → Option (α × List Int)} {k : Nat} {zs ys : List Int} {a : α} (h : p zs = some (a, ys)) : many p (k + 1) zs = (many p k ys).map fun x => (a :: x.1, x.2) := by rw [many, h]; rfl
theorem many_len {p : List Int → Option (α × List Int)} : ∀ {k : Nat} {zs ys : List Int} {l : List α}, many p k zs = some (l, ys) → l.length = k
  | 0, zs, ys, l, h => by rw [many] at h; cases h; rfl
  | k + 1, zs, ys, l, h => by
    rw [many] at h
    cases hp : p zs with
    | none => rw [hp] at h; cases h
    | some a =>
      rw [hp, Option.bind_some] at h
      cases hm : many p k a.2 with
      | none => rw [hm] at h; cases h
      | some x =>
        rw [hm] at h
        cases h
        rw [List.length_cons, many_len (zs := a.2) (ys := x.2) (l := x.1) hm]
end
def LFPost (w : World) (q : Nat) (r : Option (List Fld × List Int)) (e : Ending) (w' : World) : Prop :=
  match r with
  | some (fs, ys) => ∃ A c, e = .returned (.slice A fs.length c) ∧ FsAt w' A c fs ∧ FTag w' A ∧ RdAt w' q ys ∧ w.grownBy w' (some q)
  | none => e = .panicked pan ∧ w.grownBy w' (some q)
theorem own_kept {w w' : World} {base size n q : Nat} {e : TypeId} {v : Value} {xs : List Value} (h : w.ownsRow base e size v n xs) (hg : w.grownBy w' (some q)) (hq : q < base) : w'.ownsRow base e size v n xs := by
  refine h.kept hg ?_
  cases ho : v.ownBlock with
  | none => exact .inl rfl
  | some g => exact .inr (fun e => by have := own_base h ho; have := Option.some.inj e; omega)
set_option maxHeartbeats 2000000 in
theorem listF_any (q : Nat) (zs : List Int) (w : World) (h : RdAt w q zs) :
    Calls Tryz.prog 99 #[.pointer (some ⟨q, 0, none⟩), .int .i64 8, .func (.func 100) #[.pointer (some ⟨q, 0, none⟩)] #[]] w (LFPost w q (lst pfl 8 zs)) := by
  have HQ := Lib.hid h.lt
  have HC := count_any q 8 zs w h (by omega)
  obtain ⟨i0, hi, hz0, hz1, hz2⟩ := info_parts infoFld
  cases hc : cnt 8 zs with
  | none =>
    have HV := Lib.hid (show lst pfl 8 zs = none by unfold lst; rw [hc]; rfl)
    rw [show ((8 : Nat) : Int) = 8 from rfl, hc] at HC
    unfold CountPost at HC
    have HC := Lib.hid HC
    clear h hc
    go_enter Tryz.func99, Tryz.ntmps99
    go_wp2_with fail
    refine HC.out.mono ?_
    rintro e w1 ⟨rfl, hg⟩
    go_wp2
    refine ⟨rfl, ?_⟩
    rw [HV.out]
    exact ⟨rfl, hg⟩
  | some p =>
    obtain ⟨n, zs1⟩ := p
    have hn8 : n ≤ 8 := by
      unfold cnt at hc
      split at hc
      · cases hc
      · split at hc
        · cases hc; omega
        · cases hc
    have HV := Lib.hid (show lst pfl 8 zs = many pfl n zs1 by unfold lst; rw [hc]; rfl)
    rw [show ((8 : Nat) : Int) = 8 from rfl, hc] at HC
    unfold CountPost at HC
    dsimp only at HC
    have HC := Lib.hid HC
    clear h hc
    go_enter Tryz.func99, Tryz.ntmps99
    go_wp2_with fail
    refine HC.out.mono ?_
    rintro e w1 ⟨rfl, hr, hg⟩
    have HR := Lib.hid hr
    have HG := Lib.hid hg
    clear hr hg HC
    go_wp2
    go_loopw [7, 11] (fun v i wr => ∃ (k : Nat) (fs : List Fld) (ys : List Int), k ≤ n ∧ i = .int .i64 k ∧ fs.length = k ∧ wr.ownsRow w.heap.size 59 4 v k (fs.flatMap Fld.cs) ∧ RdAt wr q ys ∧ w.grownBy wr (some q) ∧ many pfl n zs1 = (many pfl (n - k) ys).map (fun x => (fs ++ x.1, x.2))) (fun _ i _ => n - (intOf i).toNat)
    case atStart => exact ⟨0, [], zs1, Nat.zero_le _, rfl, rfl, World.ownsRow_nil _ _ _ _, HR.out, HG.out, by simp⟩
    case round =>
      obtain ⟨k, fs, ys, hk, rfl, hfl, ho, hr, hg, hm⟩ := hrel
      by_cases hlt : k < n
      · have HF := rfield_any q ys wr hr
        have HO := Lib.hid ho
        have HGG := Lib.hid hg
        have HFL := Lib.hid hfl
        obtain ⟨m, hmn⟩ : ∃ m, n - k = m + 1 := ⟨n - k - 1, by omega⟩
        rw [hmn] at hm
        cases hp : pfl ys with
        | none =>
          rw [many_none hp, Option.map_none] at hm
          have HM := Lib.hid hm
          rw [hp] at HF
          unfold RFlPost at HF
          have HF := Lib.hid HF
          clear ho hr hg hm hp hmn hfl
          go_wp2_with fail
          refine HF.out.mono ?_
          rintro e w2 ⟨rfl, hg⟩
          go_wp2
          refine ⟨rfl, ?_⟩
          rw [HV.out, HM.out]
          exact ⟨rfl, grown_trans HGG.out hg⟩
        | some p =>
          obtain ⟨f, rs⟩ := p
          rw [many_some hp] at hm
          have HM := Lib.hid (show many pfl n zs1 = (many pfl (n - (k + 1)) rs).map (fun x => ((fs ++ [f]) ++ x.1, x.2)) by
            rw [hm, Option.map_map, show n - (k + 1) = m by omega]
            congr 1
            funext x
            simp)
          rw [hp] at HF
          unfold RFlPost Fld.v at HF
          dsimp only at HF
          have HF := Lib.hid HF
          clear ho hr hg hm hp hmn hfl
          go_wp2_with fail
          refine HF.out.mono ?_
          rintro e w2 ⟨rfl, hr, hg⟩
          have R2 := Lib.hid (hr.alloc (.cells #[.int .i64 f.no, .int .i64 f.c.n, .int .i64 f.c.r, .string f.c.s] 59))
          have G2 := Lib.hid (gq_alloc (grown_trans HGG.out hg) (.cells #[.int .i64 f.no, .int .i64 f.c.n, .int .i64 f.c.r, .string f.c.s] 59))
          have O2 := Lib.hid ((own_kept HO.out hg HQ.out).alloc (.cells #[.int .i64 f.no, .int .i64 f.c.n, .int .i64 f.c.r, .string f.c.s] 59))
          have F2 := Lib.hid (one_fs w2 f)
          clear hr hg
          go_wp2_with (at_builtin; refine wpList_append_fld _ rfl _ _ 31 rfl w.heap.size 59 i0 Tryz.underlying31 hi hz0 hz1 hz2 _ k fs rfl O2.out (some ⟨w2.heap.size, 0, none⟩) 1 1 [f] rfl F2.out rfl (by omega) G2.out.size ?_; intro v3 w3 ho3 hg3; have O3 := Lib.hid ho3; have G3 := Lib.hid hg3; clear ho3 hg3)
          go_roundw
          case rel => exact ⟨k + 1, fs ++ [f], rs, by omega, by go_num, by rw [List.length_append, HFL.out]; rfl, O3.out, R2.out.kept G3.out (fun g e => by have := own_base O2.out e; have := HQ.out; omega), grown_new G2.out G3.out (fun g e => own_base O2.out e), HM.out⟩
          case measure => simp [intOf]; omega
      · have hkn : k = n := by omega
        subst hkn
        have t1 : ¬ (k : Int) < (k : Int) := by omega
        rw [Nat.sub_self, many, Option.map_some, List.append_nil] at hm
        have HM := Lib.hid hm
        have HO := Lib.hid ho
        have HR2 := Lib.hid hr
        have HGG := Lib.hid hg
        have HFL := Lib.hid hfl
        clear ho hr hg hm hfl
        go_wp2
        go_ret
        rw [HV.out, HM.out]
        obtain ⟨A, c, rfl⟩ := own_slice HO.out
        have hl := HFL.out
        subst hl
        exact ⟨A, c, rfl, FsAt.own HO.out, FTag.own HO.out, HR2.out, HGG.out⟩
end Go.Proofs.YtcmknbdeafcknaaGreatDoor

end
section
/-
  The reader of package canon: what rec answers, or that it panics.
-/
namespace Go.Proofs.YtcmknbdeafcknaaGreatDoor
open Go.RowKit WM
set_option linter.unusedVariables false
set_option maxRecDepth 20000
/-- A record that bytes begin by, and what stands behind. -/
def prc (zs : List Int) : Option (Rc × List Int) :=
  if 16 ≤ zs.length then (pst (zs.drop 16)).bind fun s => (lst pfl 8 s.2).map fun f => (⟨zs.take 16, s.1.1, s.1.2, f.1⟩, f.2) else none
def RRcPost (w : World) (q : Nat) (r : Option (Rc × List Int)) (e : Ending) (w' : World) : Prop :=
  match r with
  | some (R, ys) => ∃ x : RcA, e = .returned (.agg x.cells) ∧ x.R = R ∧ RvAt w' x ∧ FTag w' x.A ∧ RdAt w' q ys ∧ w.grownBy w' (some q)
  | none => e = .panicked pan ∧ w.grownBy w' (some q)
theorem RdAt.tag {w : World} {q : Nat} {zs : List Int} (h : RdAt w q zs) : ∀ g, some q = some g → ∀ c, w.heap[g]? ≠ some (.cells c 59) := by
  rintro g e
  obtain rfl := Option.some.inj e
  obtain ⟨A, len, cap, hq, _⟩ := h
  exact tag_ne hq (by decide)
theorem IdAt.old' {w : World} {b : Nat} {z : List Int} (h : IdAt w b z) (o : Obj) : IdAt (w.alloc o) b z := h.below ((Below.refl w.heap.size w).alloc (Nat.le_refl _) o) h.lt
theorem IdAt.same {w w' : World} {b : Nat} {z : List Int} (h : IdAt w b z) (hb : w'.heap[b]? = w.heap[b]?) : IdAt w' b z := ⟨h.1, hb.trans h.2⟩
theorem StAt.same {w w' : World} {b : Nat} {n r : Int} (h : StAt w b n r) (hb : w'.heap[b]? = w.heap[b]?) : StAt w' b n r := hb.trans h
theorem XAt.kept {w w' : World} {b q : Nat} {x : RcA} (h : XAt w b x) (hg : w.grownBy w' (some q)) (hne : b ≠ q) : XAt w' b x := h.same (hg.block b h.lt (fun e => hne (Option.some.inj e)))
theorem built_rec3 {z : List Int} (h : z.length = 16) (n r : Int) (A : Option Addr) (l c : Nat) : Tryz.prog.built 33 [(0, .agg (bvals z)), (1, .agg #[.int .i64 n, .int .i64 r]), (2, .slice A l c)] = some (rcells z n r (.slice A l c)) := by
  obtain ⟨a, b, c, d, e, f, g, i, j, k, l, m, n', o, p, q, rfl⟩ := list16 h
  kernel_rfl
theorem build_rec3 {z : List Int} (h : z.length = 16) (n r : Int) (A : Option Addr) (l c : Nat) (w : World) : (Instr.build 33 #[(0, .agg (bvals z)), (1, .agg #[.int .i64 n, .int .i64 r]), (2, .slice A l c)]).run Tryz.prog w = .ok (.agg (rcells z n r (.slice A l c))) w := run_build w _ _ _ (built_rec3 h n r A l c)
set_option maxHeartbeats 2000000 in
theorem rrec_any (q : Nat) (zs : List Int) (w : World) (h : RdAt w q zs) :
    Calls Tryz.prog 64 #[.pointer (some ⟨q, 0, none⟩)] w (RRcPost w q (prc zs)) := by
  have HQ := Lib.hid h.lt
  have HI := rid_any q zs _ (h.alloc (.cells rcA0.cells 33))
  have G1 := Lib.hid (gq_alloc (gq_refl q w) (.cells rcA0.cells 33))
  have X1 := Lib.hid (XAt.new (x := rcA0) w z16_len)
  have hz := zeroX
  have hzi := zeroID
  have hall : AllBytes zs := by obtain ⟨_, _, _, _, _, _, _, _, h⟩ := h; exact h
  unfold RIdPost at HI
  by_cases hl : 16 ≤ zs.length
  · have HT := Lib.hid (show (zs.take 16).length = 16 by rw [List.length_take]; omega)
    have HA := Lib.hid (all_take hall 16)
    have hprc : prc zs = (pst (zs.drop 16)).bind fun s => (lst pfl 8 s.2).map fun f => (⟨zs.take 16, s.1.1, s.1.2, f.1⟩, f.2) := by unfold prc; rw [if_pos hl]
    simp only [hl, if_true] at HI
    have HI := Lib.hid HI
    clear h hl hall
    generalize zs.take 16 = z at *
    generalize zs.drop 16 = zs1 at *
    cases hs : pst zs1 with
    | none =>
      have HV := Lib.hid (show prc zs = none by rw [hprc, hs]; rfl)
      clear hprc
      generalize hZ : rcA0.cells = Z at *
      go_enter Tryz.func64, Tryz.ntmps64
      go_wp2_with fail
      refine HI.out.mono ?_
      rintro e w2 ⟨rfl, hr, hg⟩
      have R3 := hr.alloc (.cells (bvals z) 26)
      have G3 := Lib.hid (gq_alloc (grown_trans G1.out hg) (.cells (bvals z) 26))
      have HS := rstamp_any q zs1 _ R3
      rw [hs] at HS
      unfold RStPost at HS
      have HS := Lib.hid HS
      clear hr hg R3 hs
      go_wp2_with (first | ((with_reducible refine wpList_store_newid (o := ⟨none, .store 26 (.tmp 3) (.tmp 6), _, _, _, _⟩) (w := w2) ?e1 (.tmp 3) (.tmp 6) ?e2 w2.heap.size ?e0 ?e3 z ?e4 HT.out ?_); (case e1 => rfl); (case e2 => rfl); (case e0 => rfl); (case e3 => rfl); (case e4 => rfl)))
      refine HS.out.mono ?_
      rintro e w4 ⟨rfl, hg⟩
      go_wp2
      refine ⟨rfl, ?_⟩
      rw [HV.out]
      exact ⟨rfl, grown_trans G3.out hg⟩
    | some p =>
      obtain ⟨⟨n, r⟩, zs2⟩ := p
      generalize hZ : rcA0.cells = Z at *
      cases hf : lst pfl 8 zs2 with
      | none =>
        have HV := Lib.hid (show prc zs = none by rw [hprc, hs, Option.bind_some]; dsimp only; rw [hf]; rfl)
        clear hprc
        go_enter Tryz.func64, Tryz.ntmps64
        go_wp2_with fail
        refine HI.out.mono ?_
        rintro e w2 ⟨rfl, hr, hg⟩
        have R3 := hr.alloc (.cells (bvals z) 26)
        have G3 := Lib.hid (gq_alloc (grown_trans G1.out hg) (.cells (bvals z) 26))
        have I3 := Lib.hid (IdAt.new w2 HT.out)
        have hsz := hg.size
        rw [World.size_alloc] at hsz
        have X3 := Lib.hid ((X1.out.kept hg (by have := HQ.out; omega)).old (.cells (bvals z) 26))
        have HZ3 := Lib.hid hsz
        have HS := rstamp_any q zs1 _ R3
        rw [hs] at HS
        unfold RStPost st at HS
        have HS := Lib.hid HS
        clear hr hg R3 hs hsz
        go_wp2_with (first | ((with_reducible refine wpList_store_newid (o := ⟨none, .store 26 (.tmp 3) (.tmp 6), _, _, _, _⟩) (w := w2) ?e1 (.tmp 3) (.tmp 6) ?e2 w2.heap.size ?e0 ?e3 z ?e4 HT.out ?_); (case e1 => rfl); (case e2 => rfl); (case e0 => rfl); (case e3 => rfl); (case e4 => rfl)))
        refine HS.out.mono ?_
        rintro e w4 ⟨rfl, hr, hg⟩
        have hsz := hg.size
        rw [World.size_alloc] at hsz
        have HZ4 : Hid (w.heap.size + 1 ≤ w4.heap.size) := Lib.hid (by have := HZ3.out; omega)
        have HN3 : Hid (w2.heap.size ≠ w4.heap.size) := Lib.hid (by omega)
        have R5 := hr.alloc (.cells #[.int .i64 n, .int .i64 r] 30)
        have G5 := gq_alloc (grown_trans G3.out hg) (.cells #[.int .i64 n, .int .i64 r] 30)
        have I5 := (I3.out.kept hg (by have := HQ.out; have := HZ3.out; omega)).old' (.cells #[.int .i64 n, .int .i64 r] 30)
        have X5 := (X3.out.kept hg (by have := HQ.out; omega)).old (.cells #[.int .i64 n, .int .i64 r] 30)
        have S5 := StAt.new w4 n r
        clear hr hg hsz
        generalize hw5 : w4.alloc (.cells #[.int .i64 n, .int .i64 r] 30) = w5 at *
        have BD := (Below.refl w5.heap.size w5).drew
        have G5d := Lib.hid (gq_below G5 BD)
        have I5d := Lib.hid (I5.below BD I5.lt)
        have S5d := Lib.hid (S5.below BD S5.lt)
        have X5d := Lib.hid (X5.below BD X5.lt)
        have HL := listF_any q zs2 w5.drew (R5.below BD (Nat.le_refl _))
        rw [hf] at HL
        unfold LFPost at HL
        have HL := Lib.hid HL
        clear R5 G5 I5 X5 BD hf
        go_wp2_with fail
        refine wp_region_held_drew (S := fun w' => IdAt w' w2.heap.size z ∧ StAt w' w4.heap.size n r) (by kernel_rfl) ⟨I5d.out, S5d.out⟩ (fun hS => ?_)
        refine wpAnyH_take (i := 0) (oi := ⟨some 9, _, _, _, _, _⟩) (v := (.agg (bvals z))) rfl (by kernel_rfl) (by kernel_rfl) (by kernel_rfl) (fun _ _ _ h => h) (Or.inl ⟨by rfl, ?_⟩) hS ?_; (focus (intro w9 hSw; exact exec_load_by 26 _ rfl ⟨w2.heap.size, 0, none⟩ rfl (load_arr16 hSw.1))); simp only [Act.put, List.setIfInBounds_toArray, List.set_cons_zero, List.set_cons_succ]
        refine wpAnyH_take (i := 1) (oi := ⟨some 10, _, _, _, _, _⟩) (v := (.agg #[.int .i64 n, .int .i64 r])) rfl (by kernel_rfl) (by kernel_rfl) (by kernel_rfl) (fun _ _ _ h => h) (Or.inl ⟨by rfl, ?_⟩) hS ?_; (focus (intro w9 hSw; exact exec_load_by 30 _ rfl ⟨w4.heap.size, 0, none⟩ rfl (load_st hSw.2))); simp only [Act.put, List.setIfInBounds_toArray, List.set_cons_zero, List.set_cons_succ]
        refine wpAnyH_take (i := 2) (oi := ⟨some 11, _, _, _, _, _⟩) (v := ?_) rfl (by kernel_rfl) (by kernel_rfl) (by kernel_rfl) (fun _ _ _ h => h) (Or.inl ⟨by rfl, ?_⟩) hS ?_; rotate_left; (focus (intro w9 hSw; (try dsimp only at hSw); go_simp; try with_reducible rfl)); simp only [Act.put, List.setIfInBounds_toArray, List.set_cons_zero, List.set_cons_succ]
        refine wpAnyH_take (i := 3) (oi := ⟨some 12, _, _, _, _, _⟩) (v := ?_) rfl (by kernel_rfl) (by kernel_rfl) (by kernel_rfl) (fun _ _ _ h => h) (Or.inl ⟨by rfl, ?_⟩) hS ?_; rotate_left; (focus (intro w9 hSw; (try dsimp only at hSw); go_simp; try with_reducible rfl)); simp only [Act.put, List.setIfInBounds_toArray, List.set_cons_zero, List.set_cons_succ]
        refine wpAnyH_take (i := 4) (oi := ⟨some 13, _, _, _, _, _⟩) (v := .func (.func 100) #[.pointer (some ⟨q, 0, none⟩)] #[]) rfl (by kernel_rfl) (by kernel_rfl) (by kernel_rfl) (fun _ _ _ h => h) (Or.inl ⟨by rfl, ?_⟩) hS ?_; (focus (intro w9 hSw; have hmf : ∀ (fn : Fn) (first cap : Array Value) (w : World), (Instr.makeFunc fn first cap).run Tryz.prog w = .ok (.func fn first cap) w := fun _ _ _ _ => rfl; go_simp; try rfl)); simp only [Act.put, List.setIfInBounds_toArray, List.set_cons_zero, List.set_cons_succ]
        refine wpAnyH_ready (rs := [5]) (by kernel_rfl) (by simp) (AllReadyH.cons (o := ⟨some 14, _, _, _, _, _⟩) rfl (fun K hK => ?_) AllReadyH.nil)
        · clear HN3 S5
          go_simp
          refine HL.out.mono ?_
          rintro e w6 ⟨rfl, hg⟩
          refine ⟨rfl, ?_⟩
          rw [HV.out]
          exact ⟨rfl, grown_trans G5d.out hg⟩
      | some p =>
        obtain ⟨fs, zs3⟩ := p
        have HV := Lib.hid (show prc zs = some (⟨z, n, r, fs⟩, zs3) by rw [hprc, hs, Option.bind_some]; dsimp only; rw [hf]; rfl)
        clear hprc
        go_enter Tryz.func64, Tryz.ntmps64
        go_wp2_with fail
        refine HI.out.mono ?_
        rintro e w2 ⟨rfl, hr, hg⟩
        have R3 := hr.alloc (.cells (bvals z) 26)
        have G3 := Lib.hid (gq_alloc (grown_trans G1.out hg) (.cells (bvals z) 26))
        have I3 := Lib.hid (IdAt.new w2 HT.out)
        have hsz := hg.size
        rw [World.size_alloc] at hsz
        have X3 := Lib.hid ((X1.out.kept hg (by have := HQ.out; omega)).old (.cells (bvals z) 26))
        have HZ3 := Lib.hid hsz
        have HS := rstamp_any q zs1 _ R3
        rw [hs] at HS
        unfold RStPost st at HS
        have HS := Lib.hid HS
        clear hr hg R3 hs hsz
        go_wp2_with (first | ((with_reducible refine wpList_store_newid (o := ⟨none, .store 26 (.tmp 3) (.tmp 6), _, _, _, _⟩) (w := w2) ?e1 (.tmp 3) (.tmp 6) ?e2 w2.heap.size ?e0 ?e3 z ?e4 HT.out ?_); (case e1 => rfl); (case e2 => rfl); (case e0 => rfl); (case e3 => rfl); (case e4 => rfl)))
        refine HS.out.mono ?_
        rintro e w4 ⟨rfl, hr, hg⟩
        have hsz := hg.size
        rw [World.size_alloc] at hsz
        have HZ4 : Hid (w.heap.size + 1 ≤ w4.heap.size) := Lib.hid (by have := HZ3.out; omega)
        have HN3 : Hid (w2.heap.size ≠ w4.heap.size) := Lib.hid (by omega)
        have R5 := hr.alloc (.cells #[.int .i64 n, .int .i64 r] 30)
        have G5 := gq_alloc (grown_trans G3.out hg) (.cells #[.int .i64 n, .int .i64 r] 30)
        have I5 := (I3.out.kept hg (by have := HQ.out; have := HZ3.out; omega)).old' (.cells #[.int .i64 n, .int .i64 r] 30)
        have X5 := (X3.out.kept hg (by have := HQ.out; omega)).old (.cells #[.int .i64 n, .int .i64 r] 30)
        have S5 := StAt.new w4 n r
        clear hr hg hsz
        generalize hw5 : w4.alloc (.cells #[.int .i64 n, .int .i64 r] 30) = w5 at *
        have BD := (Below.refl w5.heap.size w5).drew
        have G5d := Lib.hid (gq_below G5 BD)
        have I5d := Lib.hid (I5.below BD I5.lt)
        have S5d := Lib.hid (S5.below BD S5.lt)
        have X5d := Lib.hid (X5.below BD X5.lt)
        have HL := listF_any q zs2 w5.drew (R5.below BD (Nat.le_refl _))
        rw [hf] at HL
        unfold LFPost at HL
        have HL := Lib.hid HL
        clear R5 G5 I5 X5 BD hf
        go_wp2_with fail
        refine wp_region_held_drew (S := fun w' => IdAt w' w2.heap.size z ∧ StAt w' w4.heap.size n r) (by kernel_rfl) ⟨I5d.out, S5d.out⟩ (fun hS => ?_)
        refine wpAnyH_take (i := 0) (oi := ⟨some 9, _, _, _, _, _⟩) (v := (.agg (bvals z))) rfl (by kernel_rfl) (by kernel_rfl) (by kernel_rfl) (fun _ _ _ h => h) (Or.inl ⟨by rfl, ?_⟩) hS ?_; (focus (intro w9 hSw; exact exec_load_by 26 _ rfl ⟨w2.heap.size, 0, none⟩ rfl (load_arr16 hSw.1))); simp only [Act.put, List.setIfInBounds_toArray, List.set_cons_zero, List.set_cons_succ]
        refine wpAnyH_take (i := 1) (oi := ⟨some 10, _, _, _, _, _⟩) (v := (.agg #[.int .i64 n, .int .i64 r])) rfl (by kernel_rfl) (by kernel_rfl) (by kernel_rfl) (fun _ _ _ h => h) (Or.inl ⟨by rfl, ?_⟩) hS ?_; (focus (intro w9 hSw; exact exec_load_by 30 _ rfl ⟨w4.heap.size, 0, none⟩ rfl (load_st hSw.2))); simp only [Act.put, List.setIfInBounds_toArray, List.set_cons_zero, List.set_cons_succ]
        refine wpAnyH_take (i := 2) (oi := ⟨some 11, _, _, _, _, _⟩) (v := ?_) rfl (by kernel_rfl) (by kernel_rfl) (by kernel_rfl) (fun _ _ _ h => h) (Or.inl ⟨by rfl, ?_⟩) hS ?_; rotate_left; (focus (intro w9 hSw; (try dsimp only at hSw); go_simp; try with_reducible rfl)); simp only [Act.put, List.setIfInBounds_toArray, List.set_cons_zero, List.set_cons_succ]
        refine wpAnyH_take (i := 3) (oi := ⟨some 12, _, _, _, _, _⟩) (v := ?_) rfl (by kernel_rfl) (by kernel_rfl) (by kernel_rfl) (fun _ _ _ h => h) (Or.inl ⟨by rfl, ?_⟩) hS ?_; rotate_left; (focus (intro w9 hSw; (try dsimp only at hSw); go_simp; try with_reducible rfl)); simp only [Act.put, List.setIfInBounds_toArray, List.set_cons_zero, List.set_cons_succ]
        refine wpAnyH_take (i := 4) (oi := ⟨some 13, _, _, _, _, _⟩) (v := .func (.func 100) #[.pointer (some ⟨q, 0, none⟩)] #[]) rfl (by kernel_rfl) (by kernel_rfl) (by kernel_rfl) (fun _ _ _ h => h) (Or.inl ⟨by rfl, ?_⟩) hS ?_; (focus (intro w9 hSw; have hmf : ∀ (fn : Fn) (first cap : Array Value) (w : World), (Instr.makeFunc fn first cap).run Tryz.prog w = .ok (.func fn first cap) w := fun _ _ _ _ => rfl; go_simp; try rfl)); simp only [Act.put, List.setIfInBounds_toArray, List.set_cons_zero, List.set_cons_succ]
        refine wpAnyH_ready (rs := [5]) (by kernel_rfl) (by simp) (AllReadyH.cons (o := ⟨some 14, _, _, _, _, _⟩) rfl (fun K hK => ?_) AllReadyH.nil)
        · go_simp
          refine HL.out.mono ?_
          rintro e w6 ⟨A, c, rfl, hF, hT, hr, hg⟩
          have I6 := I5d.out.kept hg (by have := HQ.out; have := HZ3.out; omega)
          have S6 := S5d.out.kept hg (by have := HQ.out; have := HZ4.out; omega)
          have X6 := Lib.hid (X5d.out.kept hg (by have := HQ.out; omega))
          have G6 := Lib.hid (grown_trans G5d.out hg)
          have R6 := Lib.hid hr
          have F6 := Lib.hid hF
          have T6 := Lib.hid hT
          clear hF hT hr hg
          refine hK.out _ _ ⟨I6, S6⟩ (fun hS => ?_)
          clear hK K
          refine wpAnyH_take (i := 6) (oi := ⟨some 15, _, _, _, _, _⟩) (v := (.agg (rcells z n r (.slice A fs.length c)))) rfl (by kernel_rfl) (by kernel_rfl) (by kernel_rfl) (fun _ _ _ h => h) (Or.inl ⟨by rfl, ?_⟩) hS ?_; (focus (intro w9 hSw; refine exec_build_by _ _ rfl #[(0, .agg (bvals z)), (1, .agg #[.int .i64 n, .int .i64 r]), (2, .slice A fs.length c)] ?_ (build_rec3 HT.out n r A fs.length c w9); simp only [List.map_toArray, List.map_cons, List.map_nil]; rfl)); simp only [Act.put, List.setIfInBounds_toArray, List.set_cons_zero, List.set_cons_succ]
          refine wpAnyH_ready (rs := [7]) (by kernel_rfl) (by simp) (AllReadyH.cons (o := ⟨none, _, _, _, _, _⟩) rfl (fun K hK => ?_) AllReadyH.nil)
          have XR : RvAt w6 ⟨⟨z, n, r, fs⟩, A, c⟩ := ⟨⟨HT.out, HA.out⟩, F6.out⟩
          have XT : FTag w6 (RcA.A ⟨⟨z, n, r, fs⟩, A, c⟩) := T6.out
          refine wp_store_row (o := ⟨none, .store 33 (.tmp 2) (.tmp 15), _, _, _, _⟩) 33 (.tmp 2) (.tmp 15) rfl w.heap.size (RcA.cells ⟨⟨z, n, r, fs⟩, A, c⟩) rfl rfl 33 _ X6.out.2 (x_size HT.out) (by rw [cells_len X6.out.1, cells_len HT.out]) (x_one _) ?_
          have hg7 := grownBy_setRow w6 w.heap.size (RcA.cells ⟨⟨z, n, r, fs⟩, A, c⟩)
          have X7 : XAt (w6.setRow w.heap.size (RcA.cells ⟨⟨z, n, r, fs⟩, A, c⟩)) w.heap.size ⟨⟨z, n, r, fs⟩, A, c⟩ := X6.out.rc.putAll HT.out
          have htag : ∀ g, some w.heap.size = some g → ∀ c, w6.heap[g]? ≠ some (.cells c 59) := fun g e => by
            obtain rfl := Option.some.inj e
            exact tag_ne X6.out.2 (by decide)
          have R7 := Lib.hid (R6.out.kept hg7 (fun k e => by have := Option.some.inj e; have := HQ.out; omega))
          have V7 := Lib.hid (XR.kept_tag XT hg7 htag)
          have T7 := Lib.hid (XT.kept hg7 htag)
          have G7 := Lib.hid (grown_new G6.out hg7 (fun k e => by have := Option.some.inj e; omega))
          have I7 := IdAt.same hS.1 (hg7.block _ hS.1.lt (fun e => by have := Option.some.inj e; have := HZ3.out; omega))
          have S7 := hS.2.same (hg7.block _ hS.2.lt (fun e => by have := Option.some.inj e; have := HZ4.out; omega))
          clear XR XT htag hg7
          generalize w6.setRow w.heap.size (RcA.cells ⟨⟨z, n, r, fs⟩, A, c⟩) = w7 at *
          refine hK.out _ _ ⟨I7, S7⟩ (fun hS => ?_)
          refine wpAnyH_done (by kernel_rfl) ?_ _
          have X7 := Lib.hid X7
          clear hK K hS I7 S7
          go_wp2
          refine bodyPost_ret (v := .agg (RcA.cells ⟨⟨z, n, r, fs⟩, A, c⟩)) ?_ rfl ?_
          · exact res_rc Tryz.results64 rfl X7.out.rc
          · rw [HV.out]
            exact ⟨_, rfl, rfl, V7.out, T7.out, R7.out, G7.out⟩
  · have HV := Lib.hid (show prc zs = none by unfold prc; rw [if_neg hl])
    simp only [hl, if_false] at HI
    have HI := Lib.hid HI
    clear h hl hall
    generalize hZ : rcA0.cells = Z at *
    go_enter Tryz.func64, Tryz.ntmps64
    go_wp2_with fail
    refine HI.out.mono ?_
    rintro e w2 ⟨rfl, hg⟩
    go_wp2
    refine ⟨rfl, ?_⟩
    rw [HV.out]
    exact ⟨rfl, grown_trans G1.out hg⟩
end Go.Proofs.YtcmknbdeafcknaaGreatDoor

end
