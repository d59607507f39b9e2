/-
  What rec.Leq, and the laws' own Few, answer. Nothing that was there is written.
-/
import Derived.Test.YtonbhcbkelmhgaaDoorRcJoin
namespace Go.Proofs.YtonbhcbkelmhgaaDoor
open Go.RowKit WM
set_option linter.unusedVariables false
set_option maxRecDepth 100000
theorem Rc.Ok.len {a : Rc} (h : a.Ok) : a.z.length = 16 := h.1
theorem putR (w : World) (c c' : Array Value) : (w.alloc (.cells c 43)).setRow w.heap.size c' = w.alloc (.cells c' 43) := World.setRow_alloc_new w _ _ _
/-- A record is stored into a block that was just laid. -/
theorem wpList_store_new {w : World} {ops : Array Oper} {rest : List Oper} {o : Oper} {a : Act} {Q : Exit → Act → World → Prop} (hgd : o.guard = none) (x y : Operand) (hop : o.op = .store 43 x y)
    (b : Nat) (hb : b = w.heap.size) (hx : a.eval x = .pointer (some ⟨b, 0, none⟩)) (z : List Int) (n r : Int) (v : Value) (hy : a.eval y = .agg (rcells z n r v)) (hz : z.length = 16) (hv : v.oneCell' = true)
    (hK : ∀ w', Below w.heap.size w w' → RcAt w' b z n r v → wpList Tryd.prog ops Q rest (a.put o.dst undef) w') : wpList Tryd.prog ops Q (o :: rest) a (w.alloc (.cells (rcells z16 0 0 (.slice none 0 0)) 43)) := by
  subst hb
  refine wpList_store_row hgd 43 x y hop w.heap.size (rcells z n r v) hx hy 43 _ (RcAt.new w z16_len 0 0 (.slice none 0 0)).hp (size_rcells hz n r v) (by rw [rcells_size z16_len, rcells_size hz]) (rcells_one hv) ?_
  rw [putR]
  exact hK _ ((Below.refl w.heap.size w).alloc (Nat.le_refl _) _) (RcAt.new w hz n r v)
noncomputable def Rc.same (a b : Rc) : Bool := rsame a.z a.n a.r a.fs b.z b.n b.r b.fs
theorem Rc.same_iff {a b : Rc} : a.same b = true ↔ a = b := by
  obtain ⟨z1, n1, r1, f1⟩ := a
  obtain ⟨z2, n2, r2, f2⟩ := b
  simp only [Rc.same, rsame, Bool.and_eq_true, beq_iff_eq, decide_eq_true_eq, Rc.mk.injEq]
  constructor
  · rintro ⟨⟨h1, h2, h3⟩, h4⟩; exact ⟨h1, h2, h3, h4⟩
  · rintro ⟨h1, h2, h3, h4⟩; exact ⟨⟨h1, h2, h3⟩, h4⟩
noncomputable def Rc.leq (a b : Rc) : Bool := match a.join b with | some j => j.same b | none => false
theorem Rc.join_ok {a b j : Rc} (ha : a.Ok) (h : a.join b = some j) : j.Ok := by
  unfold Rc.join rjoin at h
  split at h
  · cases h; exact ha
  · cases h
theorem rc0_ok : rc0.Ok := ⟨z16_len, z16_bytes⟩
theorem Rc.getD_ok {a b : Rc} (ha : a.Ok) : ((a.join b).getD rc0).Ok := by
  cases h : a.join b with
  | none => exact rc0_ok
  | some j => exact Rc.join_ok ha h
theorem Rc.leq_eq (a b : Rc) : a.leq b = ((a.join b).isSome && ((a.join b).getD rc0).same b) := by
  unfold Rc.leq
  cases a.join b <;> simp
theorem find_any' (a : Rc) (A : Option Addr) (c : Nat) (no : Int) (w : World) (ha : a.Ok) (h : FsAt w A c a.fs) : Calls Tryd.prog 27 #[a.v A c, .int .i64 no] w (FindPost w (rfind a.fs no)) :=
  find_any a.z a.n a.r A a.fs.length c a.fs no w ha.1 rfl h
theorem may_any' (a : Rc) (A : Option Addr) (c : Nat) (w : World) (ha : a.Ok) (h : FsAt w A c a.fs) : Calls Tryd.prog 34 #[a.v A c] w fun e w' => e = .returned (.bool a.may) ∧ Below w.heap.size w w' :=
  rmay_any a.z a.n a.r A a.fs.length c a.fs w ha.1 rfl h
theorem same_any' (a b : Rc) (A B : Option Addr) (c d : Nat) (w : World) (ha : a.Ok) (hb : b.Ok) (h1 : FsAt w A c a.fs) (h2 : FsAt w B d b.fs) : Calls Tryd.prog 35 #[a.v A c, b.v B d] w fun e w' => e = .returned (.bool (a.same b)) ∧ Below w.heap.size w w' :=
  rsame_any a.z a.n a.r A _ c a.fs b.z b.n b.r B _ d b.fs w ha.1 hb.1 ha.2 hb.2 rfl rfl h1 h2
set_option maxHeartbeats 4000000 in
theorem leq_any (a b : Rc) (A B : Option Addr) (c d : Nat) (w : World) (hlaid : Laid w) (ha : a.Ok) (hb : b.Ok) (h1 : FsAt w A c a.fs) (h2 : FsAt w B d b.fs) :
    Calls Tryd.prog 36 #[a.v A c, b.v B d] w fun e w' => e = .returned (.bool (a.leq b)) ∧ Below w.heap.size w w' := by
  have hz1 := ha.1
  have hz2 := hb.1
  have S1 := Lib.hid ((RcAt.new w hz1 a.n a.r (.slice A a.fs.length c)).old (.cells (rcells b.z b.n b.r (.slice B b.fs.length d)) 43))
  have s2 := RcAt.new (w.alloc (.cells (rcells a.z a.n a.r (.slice A a.fs.length c)) 43)) hz2 b.n b.r (.slice B b.fs.length d)
  rw [World.size_alloc] at s2
  have S2 := Lib.hid s2
  have HB := Lib.hid (((Below.refl w.heap.size w).alloc (Nat.le_refl _) (.cells (rcells a.z a.n a.r (.slice A a.fs.length c)) 43)).alloc (by simp) (.cells (rcells b.z b.n b.r (.slice B b.fs.length d)) 43))
  have M1 := Lib.hid (load_rec S1.out)
  have M2 := Lib.hid (load_rec S2.out)
  have HJ := Lib.hid (join_any a b A B c d _ (hlaid.below HB.out (Nat.le_refl _)) ha hb (h1.below HB.out (Nat.le_refl _)) (h2.below HB.out (Nat.le_refl _)))
  have HV := Lib.hid (Rc.leq_eq a b)
  have HX := Lib.hid (Rc.getD_ok (b := b) ha)
  have H2 := Lib.hid h2
  have HBO := Lib.hid hb
  have hz := zeroRec
  unfold JoinPost Rc.v at HJ
  unfold rv at M1 M2 HJ hz
  conv => congr; rfl; rfl; (unfold Rc.v rv)
  generalize a.leq b = V at HV ⊢
  generalize (a.join b).getD rc0 = X at HJ HV HX
  clear s2 h1 h2 hlaid ha hb
  cases his : (a.join b).isSome
  · rw [his] at HJ HV
    simp only [Bool.false_and] at HV
    clear his
    go_enter Tryd.func36, Tryd.ntmps36
    go_wp2_with (first | ((with_reducible refine wpList_load_by (o := ⟨some 8, .load 43 (.tmp 2), _, _, _, _⟩) ?e1 43 (.tmp 2) ?e2 ⟨w.heap.size, 0, none⟩ ?e3 _ M1.out ?_); (case e1 => rfl); (case e2 => rfl); (case e3 => rfl)) | ((with_reducible refine wpList_load_by (o := ⟨some 9, .load 43 (.tmp 3), _, _, _, _⟩) ?e1 43 (.tmp 3) ?e2 ⟨(w.heap.size + 1), 0, none⟩ ?e3 _ M2.out ?_); (case e1 => rfl); (case e2 => rfl); (case e3 => rfl)))
    refine HJ.out.mono ?_
    rintro e w1 ⟨A', c', rfl, hF, hb⟩
    have B1 := Lib.hid (HB.out.trans (hb.mono HB.out.size))
    clear hb
    go_wp2_with (first | ((with_reducible refine wpList_store_new (o := ⟨none, .store 43 (.tmp 5) (.tmp 11), _, _, _, _⟩) (w := w1) ?e1 (.tmp 5) (.tmp 11) ?e2 w1.heap.size rfl ?e3 X.z X.n X.r (.slice A' X.fs.length c') ?e4 HX.out.len ?e5 ?_); (case e1 => rfl); (case e2 => rfl); (case e3 => rfl); (case e4 => rfl); (case e5 => rfl); intro w2 hbs hRs))
    have B2 := Lib.hid (B1.out.trans (hbs.mono B1.out.size))
    clear hbs hRs
    go_wp2
    go_ret
    exact ⟨by rw [HV.out]; rfl, B2.out⟩
  · rw [his] at HJ HV
    simp only [Bool.true_and] at HV
    clear his
    go_enter Tryd.func36, Tryd.ntmps36
    go_wp2_with (first | ((with_reducible refine wpList_load_by (o := ⟨some 8, .load 43 (.tmp 2), _, _, _, _⟩) ?e1 43 (.tmp 2) ?e2 ⟨w.heap.size, 0, none⟩ ?e3 _ M1.out ?_); (case e1 => rfl); (case e2 => rfl); (case e3 => rfl)) | ((with_reducible refine wpList_load_by (o := ⟨some 9, .load 43 (.tmp 3), _, _, _, _⟩) ?e1 43 (.tmp 3) ?e2 ⟨(w.heap.size + 1), 0, none⟩ ?e3 _ M2.out ?_); (case e1 => rfl); (case e2 => rfl); (case e3 => rfl)))
    refine HJ.out.mono ?_
    rintro e w1 ⟨A', c', rfl, hF, hb⟩
    have B1 := Lib.hid (HB.out.trans (hb.mono HB.out.size))
    have P2 := Lib.hid (S2.out.below hb S2.out.lt)
    have HF := Lib.hid hF
    clear hb hF
    go_wp2_with (first | ((with_reducible refine wpList_store_new (o := ⟨none, .store 43 (.tmp 5) (.tmp 11), _, _, _, _⟩) (w := w1) ?e1 (.tmp 5) (.tmp 11) ?e2 w1.heap.size rfl ?e3 X.z X.n X.r (.slice A' X.fs.length c') ?e4 HX.out.len ?e5 ?_); (case e1 => rfl); (case e2 => rfl); (case e3 => rfl); (case e4 => rfl); (case e5 => rfl); intro w2 hbs hRs; have B2 := Lib.hid (B1.out.trans (hbs.mono B1.out.size)); have Q2 := Lib.hid (P2.out.below hbs P2.out.lt); have MX := Lib.hid (load_rec hRs); have M2' := Lib.hid (load_rec Q2.out); have HS := Lib.hid (same_any' X b A' B c' d w2 HX.out HBO.out (HF.out.below hbs (Nat.le_refl _)) (H2.out.below B2.out (Nat.le_refl _))); unfold Rc.v at HS; unfold rv at MX M2' HS; clear hbs hRs) | ((with_reducible refine wpList_load_by (o := ⟨some 15, .load 43 (.tmp 5), _, _, _, _⟩) ?e1 43 (.tmp 5) ?e2 ⟨w1.heap.size, 0, none⟩ ?e3 _ MX.out ?_); (case e1 => rfl); (case e2 => rfl); (case e3 => rfl)) | ((with_reducible refine wpList_load_by (o := ⟨some 16, .load 43 (.tmp 3), _, _, _, _⟩) ?e1 43 (.tmp 3) ?e2 ⟨(w.heap.size + 1), 0, none⟩ ?e3 _ M2'.out ?_); (case e1 => rfl); (case e2 => rfl); (case e3 => rfl)))
    refine HS.out.mono ?_
    rintro e w3 ⟨rfl, hb3⟩
    have B3 := Lib.hid (B2.out.trans (hb3.mono B2.out.size))
    clear hb3
    go_wp2
    go_ret
    exact ⟨by rw [HV.out]; rfl, B3.out⟩
/-! ### Few -/
def fewR (fs : List Fld) : Bool := decide (fs.length ≤ 12) && fs.all fun f => decide (f.c.s.size ≤ 300)
theorem few_drop {fs : List Fld} {k : Nat} (hk : k < fs.length) : ((fs.drop k).all fun f => decide (f.c.s.size ≤ 300)) = (decide ((fs.getD k fld0).c.s.size ≤ 300) && (fs.drop (k + 1)).all fun f => decide (f.c.s.size ≤ 300)) := by
  rw [List.drop_eq_getElem_cons hk, List.all_cons]
  simp only [List.getD, List.getElem?_eq_getElem hk, Option.getD_some]
set_option maxHeartbeats 2000000 in
theorem fewR_any (a : Rc) (A : Option Addr) (c : Nat) (w : World) (ha : a.Ok) (h : FsAt w A c a.fs) :
    Calls Tryd.prog 26 #[a.v A c] w fun e w' => e = .returned (.bool (fewR a.fs)) ∧ Below w.heap.size w w' := by
  obtain ⟨hc1, hc2, hc3, hcell⟩ := h
  simp only [maxLen] at hc2
  have HC := Lib.hid hcell
  have S0 := Lib.hid (RcAt.new w ha.1 a.n a.r (.slice A a.fs.length c))
  have HB := Lib.hid ((Below.refl w.heap.size w).alloc (Nat.le_refl _) (.cells (rcells a.z a.n a.r (.slice A a.fs.length c)) 43))
  have s0 := S0.out.c18
  have HV : Hid (fewR a.fs = (decide (a.fs.length ≤ 12) && (a.fs.drop 0).all fun f => decide (f.c.s.size ≤ 300))) := Lib.hid rfl
  conv => congr; rfl; rfl; (unfold Rc.v rv)
  clear hcell ha
  generalize fewR a.fs = V at HV ⊢
  generalize hlen : a.fs.length = len at *
  have HL := Lib.hid hlen
  clear hlen
  by_cases h12 : len ≤ 12
  · have hV2 := HV.out
    rw [decide_eq_true h12, Bool.true_and] at hV2
    have HV2 := Lib.hid hV2
    have t1 : ¬ 12 < (len : Int) := by omega
    clear hV2
    go_enter Tryd.func26, Tryd.ntmps26
    go_wp2
    clear s0
    go_loopw [3] (fun i wr => ∃ k : Nat, k ≤ len ∧ i = .int .i64 k ∧ RcAt wr w.heap.size a.z a.n a.r (.slice A len c) ∧ Below w.heap.size w wr ∧ V = (a.fs.drop k).all fun f => decide (f.c.s.size ≤ 300)) (fun i _ => len - (intOf i).toNat)
    case atStart => exact ⟨0, Nat.zero_le _, rfl, S0.out, HB.out, HV2.out⟩
    case round =>
      obtain ⟨k, hk, rfl, hs, hb, hf⟩ := hrel
      have d18 := hs.c18
      by_cases hlt : k < len
      · obtain ⟨b, off, rfl, hbB, hcc⟩ := HC.out (by omega)
        obtain ⟨_, _, _, c3⟩ := hcc k hlt
        have c3 := (hb.cell (p := ⟨b, off + k * 4 + 3, none⟩) hbB).trans c3
        have IX := ix_fld b off len c k hlt k rfl
        rw [few_drop (by rw [HL.out]; exact hlt)] at hf
        generalize a.fs.getD k fld0 = f at c3 hf
        generalize off + k * 4 = o at c3 IX
        have HS := Lib.hid hs
        have HBB := Lib.hid hb
        clear hcc hs hb
        by_cases h3 : f.c.s.size ≤ 300
        · rw [decide_eq_true h3, Bool.true_and] at hf
          have HF := Lib.hid hf
          have t2 : ¬ 300 < (f.c.s.size : Int) := by omega
          clear hf
          go_wp2
          go_roundw
          case rel => exact ⟨k + 1, by omega, by go_num, HS.out, HBB.out, HF.out⟩
          case measure => simp [intOf]; omega
        · rw [decide_eq_false h3, Bool.false_and] at hf
          have HF := Lib.hid hf
          have t2 : 300 < (f.c.s.size : Int) := by omega
          clear hf
          go_wp2
          go_ret
          exact ⟨by rw [HF.out]; rfl, HBB.out⟩
      · obtain rfl : k = len := by omega
        rw [List.drop_eq_nil_of_le (by rw [HL.out]; exact Nat.le_refl _)] at hf
        have HF := Lib.hid hf
        have HBB := Lib.hid hb
        clear hf hb hs
        go_wp2
        go_ret
        exact ⟨by rw [HF.out]; rfl, HBB.out⟩
  · have hV2 := HV.out
    rw [decide_eq_false h12, Bool.false_and] at hV2
    have HV2 := Lib.hid hV2
    have t1 : 12 < (len : Int) := by omega
    clear hV2
    go_enter Tryd.func26, Tryd.ntmps26
    go_wp2
    go_ret
    exact ⟨by rw [HV2.out]; rfl, HB.out⟩
end Go.Proofs.YtonbhcbkelmhgaaDoor
