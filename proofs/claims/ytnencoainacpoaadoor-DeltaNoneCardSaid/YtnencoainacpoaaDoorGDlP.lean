import Derived.Test.YtnencoainacpoaaDoorGBase
import Derived.Shelf.Strings.BuilderK
import Derived.Shelf.Strconv.Clone
import Derived.Lib.AppendZeros
import Derived.Deep.Draws
import Derived.Test.YtnencoainacpoaaDoorGDlR
import Derived.Test.YtnencoainacpoaaDoorGDlM
import Derived.Test.YtnencoainacpoaaDoorGClG
import Derived.Test.YtnencoainacpoaaDoorSgBase
import Derived.WalkLawsBesides
import Derived.BigQuiet
section
/-
  What strings.Builder's WriteString and String answer: the library's contracts, laid at this program.
-/
namespace Go.Proofs.YtnencoainacpoaaDoor
open Go.RowKit Go.Shelf WM
set_option linter.unusedVariables false
set_option maxRecDepth 100000
def bdRen : Go.Shelf.Ren := ⟨fun | 166 => 27 | 240 => 46 | 276 => 62 | 169 => 28 | 316 => 64 | n => n, fun | 0 => 0 | 3 => 3 | 4 => 4 | 5 => 5 | 9 => 9 | 20 => 20 | 37 => 31 | 70 => 47 | 72 => 49 | 75 => 51 | 80 => 54 | 164 => 101 | 127 => 84 | n => n, fun n => n⟩
theorem bdLayW : Go.Proofs.Lays.n166 Tryd.prog bdRen :=
  { mixed := by kernel_rfl,
    f166 := Tryd.func27.trans (congrArg some (by kernel_rfl)),
    f240 := Tryd.func46.trans (congrArg some (by kernel_rfl)),
    f276 := Tryd.func62.trans (congrArg some (by kernel_rfl)),
    t0 := Tryd.underlying0, a0 := Tryd.isAgg0, z0 := Tryd.sizeOf0, v0 := Tryd.zeroValue0,
    t3 := Tryd.underlying3, a3 := Tryd.isAgg3, z3 := Tryd.sizeOf3, v3 := Tryd.zeroValue3,
    t4 := Tryd.underlying4, a4 := Tryd.isAgg4, z4 := Tryd.sizeOf4, v4 := Tryd.zeroValue4,
    t9 := Tryd.underlying9, a9 := Tryd.isAgg9, z9 := Tryd.sizeOf9, v9 := Tryd.zeroValue9,
    t20 := Tryd.underlying20, a20 := Tryd.isAgg20, z20 := Tryd.sizeOf20, v20 := Tryd.zeroValue20,
    t37 := Tryd.underlying31, a37 := Tryd.isAgg31, z37 := Tryd.sizeOf31, v37 := Tryd.zeroValue31,
    t70 := Tryd.underlying47, a70 := Tryd.isAgg47, z70 := Tryd.sizeOf47, v70 := Tryd.zeroValue47,
    t72 := Tryd.underlying49, a72 := Tryd.isAgg49, z72 := Tryd.sizeOf49, v72 := Tryd.zeroValue49,
    t75 := Tryd.underlying51, a75 := Tryd.isAgg51, z75 := Tryd.sizeOf51, v75 := Tryd.zeroValue51,
    t164 := Tryd.underlying101, a164 := Tryd.isAgg101, z164 := Tryd.sizeOf101, v164 := Tryd.zeroValue101 }
theorem bdLayS : Go.Proofs.Lays.n169 Tryd.prog bdRen :=
  { mixed := by kernel_rfl,
    f169 := Tryd.func28.trans (congrArg some (by kernel_rfl)),
    t0 := Tryd.underlying0, a0 := Tryd.isAgg0, z0 := Tryd.sizeOf0, v0 := Tryd.zeroValue0,
    t3 := Tryd.underlying3, a3 := Tryd.isAgg3, z3 := Tryd.sizeOf3, v3 := Tryd.zeroValue3,
    t9 := Tryd.underlying9, a9 := Tryd.isAgg9, z9 := Tryd.sizeOf9, v9 := Tryd.zeroValue9,
    t37 := Tryd.underlying31, a37 := Tryd.isAgg31, z37 := Tryd.sizeOf31, v37 := Tryd.zeroValue31,
    t70 := Tryd.underlying47, a70 := Tryd.isAgg47, z70 := Tryd.sizeOf47, v70 := Tryd.zeroValue47,
    t72 := Tryd.underlying49, a72 := Tryd.isAgg49, z72 := Tryd.sizeOf49, v72 := Tryd.zeroValue49,
    t127 := Tryd.underlying84, a127 := Tryd.isAgg84, z127 := Tryd.sizeOf84, v127 := Tryd.zeroValue84 }
theorem bdLayC0 : Go.Proofs.Lays.n316 Tryd.prog bdRen :=
  { mixed := by kernel_rfl,
    f316 := Tryd.func64.trans (congrArg some (by kernel_rfl)),
    t0 := Tryd.underlying0, a0 := Tryd.isAgg0, z0 := Tryd.sizeOf0, v0 := Tryd.zeroValue0,
    t3 := Tryd.underlying3, a3 := Tryd.isAgg3, z3 := Tryd.sizeOf3, v3 := Tryd.zeroValue3,
    t4 := Tryd.underlying4, a4 := Tryd.isAgg4, z4 := Tryd.sizeOf4, v4 := Tryd.zeroValue4,
    t9 := Tryd.underlying9, a9 := Tryd.isAgg9, z9 := Tryd.sizeOf9, v9 := Tryd.zeroValue9,
    t37 := Tryd.underlying31, a37 := Tryd.isAgg31, z37 := Tryd.sizeOf31, v37 := Tryd.zeroValue31,
    t127 := Tryd.underlying84, a127 := Tryd.isAgg84, z127 := Tryd.sizeOf84, v127 := Tryd.zeroValue84 }
theorem bdLayC : Go.Proofs.LaysM.n316 Tryd.prog bdRen :=
  { bdLayC0 with t5 := Tryd.underlying5, a5 := Tryd.isAgg5, z5 := Tryd.sizeOf5, v5 := Tryd.zeroValue5, i0 := by kernel_rfl, i3 := by kernel_rfl, i4 := by kernel_rfl, i5 := by kernel_rfl, i9 := by kernel_rfl, i37 := by kernel_rfl, i127 := by kernel_rfl }
theorem bdExtra : Go.Proofs.Builder.Extra Tryd.prog bdRen :=
  { sizeBuilder := by kernel_rfl, liesBuilder := by kernel_rfl, t5 := Tryd.underlying5, a5 := Tryd.isAgg5, z5 := Tryd.sizeOf5, v5 := Tryd.zeroValue5, infoByte := by kernel_rfl, cellsByte := by kernel_rfl, sizeByte := by kernel_rfl, neB5 := by decide }
/-- Block b holds a builder whose bytes are those of s; what it owns lies from B on. -/
def BdAt (B b : Nat) (s : ByteArray) (w : World) : Prop := Lib.IsBuilderF 49 5 B b (Lib.byteCells s.data.toList) w
theorem BdAt.new (w : World) : BdAt w.heap.size w.heap.size ⟨#[]⟩ (w.alloc (.cells #[.pointer none, .slice none 0 0] 49)) :=
  .inl ⟨Nat.le_refl _, .slice none 0 0, heap_alloc_new w _, World.ownsRowF_of (World.ownsRow_nil _ _ _ _), by simp [Value.ownBlock]⟩
theorem bytes_len9 (s : ByteArray) : (Lib.byteCells s.data.toList).length = s.size := by simp [Lib.byteCells]
theorem bytes_append9 (a b : ByteArray) : Lib.byteCells (a ++ b).data.toList = Lib.byteCells a.data.toList ++ Lib.byteCells b.data.toList := by simp [Lib.byteCells, ByteArray.data_append]
theorem bdWrite_any (B b : Nat) (s t : ByteArray) (w : World) (h : BdAt B b s w) (hl : s.size + t.size ≤ 1000000) (hBw : B ≤ w.heap.size) : Calls Tryd.prog 27 #[.pointer (some ⟨b, 0, none⟩), .string t] w fun e w' => e = .returned (.tuple #[.int .i64 t.size, .nilIface]) ∧ BdAt B b (s ++ t) w' ∧ Below B w w' ∧ Lib.OthersKept 5 (some b) w w' :=
  (Any.Builder_WriteString_k bdLayW bdExtra B b _ t w h (by rw [bytes_len9]; omega) hBw).mono fun e w' h4 => ⟨h4.1, .inr (by rw [bytes_append9]; exact h4.2.1), h4.2.2⟩
theorem bdString_any (B b : Nat) (s : ByteArray) (w : World) (h : BdAt B b s w) (hBw : B ≤ w.heap.size) : Calls Tryd.prog 28 #[.pointer (some ⟨b, 0, none⟩)] w fun e w' => e = .returned (.string s) ∧ Below B w w' :=
  (Any.Builder_String_any_k bdLayS bdExtra B b _ w h hBw).mono fun e w' h4 => ⟨h4.1, h4.2.2.1⟩
theorem clone_any (s : ByteArray) (w : World) (hs : s.size ≤ 1000000) : Calls Tryd.prog 48 #[.string s] w fun e w' => e = .returned (.string s) ∧ Below w.heap.size w w' := by
  have HC := Lib.hid (show Calls Tryd.prog 64 #[.string s] w fun e w' => e = .returned (.string s) ∧ Below w.heap.size w w' from Any.stringslite_Clone bdLayC s w (by omega))
  go_enter Tryd.func48, Tryd.ntmps48
  go_wp2_with fail
  refine HC.out.mono ?_
  rintro e w1 ⟨rfl, hb⟩
  have B1 := Lib.hid hb
  clear hb
  go_wp2
  go_ret
  exact ⟨rfl, B1.out⟩
theorem BdAt.alloc {B b : Nat} {s : ByteArray} {w : World} (h : BdAt B b s w) (o : Obj) : BdAt B b s (w.alloc o) := Lib.IsBuilderF.alloc h o
end Go.Proofs.YtnencoainacpoaaDoor

end
section
/-
  What slices.Grow and slices.Concat answer, of nothing and of three rows of bytes: a row of the call's own. Nothing that was there is written.
-/
namespace Go.Proofs.YtnencoainacpoaaDoor
open Go.RowKit WM
set_option linter.unusedVariables false
def GrowPost1 (w : World) (e : Ending) (w' : World) : Prop := ∃ v, e = .returned v ∧ w'.ownsRow w.heap.size 5 1 v 0 [] ∧ Below w.heap.size w w'
set_option maxRecDepth 20000 in
set_option maxHeartbeats 1000000 in
theorem grow1_any (n : Nat) (w : World) (h0 : 0 < n) (hn : n ≤ 1000) : Calls Tryd.prog 67 #[.slice none 0 0, .int .i64 n] w (GrowPost1 w) := by
  obtain ⟨i0, hi, hz0, hz1, hz2⟩ := info_parts infoByte
  have happ := Lib.run_append_nil_zeros (P := Tryd.prog) w 31 3 31 5 i0 (.int .u8 0) .i64 .i64 Tryd.underlying31 Tryd.underlying3 hi hz0 n (by omega) (by omega) (by omega) (by rw [hz2]; omega)
  have hg := grownCap_ge w n 0 5
  have hm := grownCap_le_maxLen w n 0 5 (by simp only [maxLen]; omega)
  generalize grownCap w n 0 5 = C at happ hg hm
  have hs : (Builtin.zeroCells (Value.int .u8 0).cells n ++ Builtin.zeroCells (Value.int .u8 0).cells (C - n)).size = C * 1 := by
    rw [Array.size_append, size_zeroCells, size_zeroCells, show (Value.int .u8 0).cells.size = 1 from rfl]; omega
  generalize Builtin.zeroCells (Value.int .u8 0).cells n ++ Builtin.zeroCells (Value.int .u8 0).cells (C - n) = Z at happ hs
  have HO := Lib.hid (World.ownsRow_made (base := w.heap.size) (size := 1) (e := 5) w.drew Z C (Nat.le_refl _) hm hs)
  have HB := Lib.hid (((Below.refl w.heap.size w).drew).alloc (Nat.le_refl _) (.cells Z 5))
  have s1 := sl_h none 0 0 0 (Nat.le_refl _) 0 rfl
  have s2 := sl_h (some ⟨w.heap.size, 0, none⟩) n C 0 (Nat.zero_le _) 0 rfl
  have t1 : ¬ (n : Int) < 0 := by omega
  have t2 : (0 : Int) < (n : Int) := by omega
  simp only [maxLen] at hm
  clear hs h0
  go_enter Tryd.func67, Tryd.ntmps67
  go_wp2_with (at_builtin; refine Lib.wpList_append_run _ rfl _ _ _ _ rfl _ _ rfl rfl _ _ happ ?_)
  go_ret
  exact ⟨_, rfl, HO.out, HB.out⟩
/-- A row of bytes that may be nil. -/
def BsAt (w : World) (A : Option Addr) (n c : Nat) (zs : List Int) : Prop := Byt w w.heap.size A zs ∧ zs.length = n ∧ (A = none → c = 0)
theorem BsAt.below {w w' : World} {B : Nat} {A : Option Addr} {n c : Nat} {zs : List Int} (h : BsAt w A n c zs) (hb : Below B w w') (hB : w.heap.size ≤ B) : BsAt w' A n c zs := ⟨(h.1.below (hb.mono hB)).wide hb.size, h.2⟩
theorem BsAt.own {w : World} {base n c : Nat} {A : Option Addr} {zs : List Int} (h : w.ownsRow base 5 1 (.slice A n c) n (zs.map (Value.int .u8))) : BsAt w A n c zs := ⟨Byt.own h, by simpa using h.1, own_nil h⟩
set_option maxRecDepth 20000 in
set_option maxHeartbeats 4000000 in
theorem concat3_any (g : Nat) (A1 A2 A3 : Option Addr) (l1 l2 l3 c1 c2 c3 : Nat) (f1 f2 f3 : List Int) (w : World) (hg : g < w.heap.size) (hg0 : w.cell? ⟨g, 0, none⟩ = some (.slice A1 l1 c1)) (hg1 : w.cell? ⟨g, 1, none⟩ = some (.slice A2 l2 c2)) (hg2 : w.cell? ⟨g, 2, none⟩ = some (.slice A3 l3 c3))
    (h1 : BsAt w A1 l1 c1 f1) (h2 : BsAt w A2 l2 c2 f2) (h3 : BsAt w A3 l3 c3 f3) (hs : l1 + l2 + l3 ≤ 1000) (hp : 0 < l1) :
    Calls Tryd.prog 51 #[.slice (some ⟨g, 0, none⟩) 3 3] w (Gives w (f1 ++ f2 ++ f3)) := by
  have HG := Lib.hid (grow1_any (l1 + l2 + l3))
  rw [Int.natCast_add, Int.natCast_add] at HG
  unfold GrowPost1 at HG
  have t1 : ¬ (l1 : Int) < 0 := by omega
  have t2 : ¬ (l1 : Int) + (l2 : Int) < 0 := by omega
  have t3 : ¬ (l1 : Int) + (l2 : Int) + (l3 : Int) < 0 := by omega
  obtain ⟨i0, hi, hz0, hz1, hz2⟩ := info_parts infoByte
  have H1 := Lib.hid h1
  have H2 := Lib.hid h2
  have H3 := Lib.hid h3
  clear h1 h2 h3
  go_enter Tryd.func51, Tryd.ntmps51
  go_wp2
  refine wp_loop_rounds 4 ?_
  rw [rounds_succ]
  go_wp2
  rw [rounds_succ]
  go_wp2
  rw [rounds_succ]
  go_wp2
  rw [rounds_succ]
  go_wp2_with fail
  refine (HG.out _ (by omega) hs).mono ?_
  rintro e w1 ⟨v, rfl, ho, hb⟩
  have G1 := Lib.hid hg1
  have G2 := Lib.hid hg2
  have hg0 := (hb.cell (p := ⟨g, 0, none⟩) hg).trans hg0
  have F1 := Lib.hid (H1.out.below hb (Nat.le_refl _))
  have HB := Lib.hid hb
  clear hb hg1 hg2
  go_wp2
  refine wp_loop_rounds 4 ?_
  rw [rounds_succ]
  go_wp2_with (at_builtin; refine wpList_append_byt _ rfl _ _ 31 rfl w.heap.size 5 i0 Tryd.underlying31 hi hz0 hz1 hz2 _ 0 [] rfl ho _ A1 l1 c1 f1 rfl F1.out.1 F1.out.2.1 F1.out.2.2 (by omega) HB.out.size ?_; intro v2 w2 ho2 hg2)
  have HB2 := HB.out.grown hg2 HB.out.size (fun g hg => own_base ho hg)
  have hg1 := (HB2.cell (p := ⟨g, 1, none⟩) hg).trans G1.out
  have F2 := Lib.hid (H2.out.below HB2 (Nat.le_refl _))
  have HB2 := Lib.hid HB2
  clear hg2 hg0
  rw [List.nil_append] at ho2
  rw [rounds_succ]
  go_wp2_with (at_builtin; refine wpList_append_byt _ rfl _ _ 31 rfl w.heap.size 5 i0 Tryd.underlying31 hi hz0 hz1 hz2 _ _ f1 rfl ho2 _ A2 l2 c2 f2 rfl F2.out.1 F2.out.2.1 F2.out.2.2 (by omega) HB2.out.size ?_; intro v3 w3 ho3 hg3)
  have HB3 := HB2.out.grown hg3 HB2.out.size (fun g hg => own_base ho2 hg)
  have hg2 := (HB3.cell (p := ⟨g, 2, none⟩) hg).trans G2.out
  have F3 := Lib.hid (H3.out.below HB3 (Nat.le_refl _))
  have HB3 := Lib.hid HB3
  clear hg3 hg1 ho ho2
  rw [rounds_succ]
  go_wp2_with (at_builtin; refine wpList_append_byt _ rfl _ _ 31 rfl w.heap.size 5 i0 Tryd.underlying31 hi hz0 hz1 hz2 _ _ (f1 ++ f2) rfl ho3 _ A3 l3 c3 f3 rfl F3.out.1 F3.out.2.1 F3.out.2.2 (by omega) HB3.out.size ?_; intro v4 w4 ho4 hg4)
  have HB4 := Lib.hid (HB3.out.grown hg4 HB3.out.size (fun g hg => own_base ho3 hg))
  have HO4 := Lib.hid ho4
  clear hg4 hg2 ho3 ho4
  rw [rounds_succ]
  go_wp2
  go_ret
  exact gives_own HO4.out HB4.out
end Go.Proofs.YtnencoainacpoaaDoor

end
section
/-
  What slices.Equal and the program's own Same of pieces answer. Nothing that was there is written.
-/
namespace Go.Proofs.YtnencoainacpoaaDoor
open Go.RowKit WM
set_option linter.unusedVariables false
set_option maxRecDepth 100000
set_option maxHeartbeats 4000000 in
theorem equal11_any (A B : Option Addr) (c d : Nat) (xs ys : List Pc) (w : World) (h1 : KPc.row w A c xs) (h2 : KPc.row w B d ys) (hl : xs.length ≤ 1000000) : Calls Tryd.prog 35 #[.slice A xs.length c, .slice B ys.length d] w fun e w' => e = .returned (.bool (decide (xs = ys))) ∧ Below w.heap.size w w' := by
  have HB := Lib.hid (Below.refl w.heap.size w)
  have H1 := Lib.hid h1
  have H2 := Lib.hid h2
  have HV := Lib.hid (show decide (xs = ys) = decide (xs.drop 0 = ys.drop 0) from rfl)
  have HNE : Hid (¬ xs.length = ys.length → decide (xs = ys) = false) := Lib.hid (fun hne => decide_eq_false (fun e => hne (by rw [e])))
  have hc1 := h1.1
  have hc2 := h2.1
  have hm1 := h1.2.1
  have hm2 := h2.2.1
  simp only [maxLen] at hm1 hm2
  generalize decide (xs = ys) = V at *
  clear h1 h2
  by_cases hl2 : xs.length = ys.length
  · clear HNE
    have R1 := Lib.hid (fun h => pc_row H1.out h)
    have R2 := Lib.hid (fun h => pc_row H2.out h)
    generalize hn1 : xs.length = n at *
    generalize hn2 : ys.length = n2 at *
    subst hl2
    have HL1 := Lib.hid hn1
    have HL2 := Lib.hid hn2
    clear hn1 hn2
    go_enter Tryd.func35, Tryd.ntmps35
    go_wp2
    go_loopw [13] (fun i wr => ∃ k : Nat, k ≤ n ∧ i = .int .i64 k ∧ Below w.heap.size w wr ∧ V = decide (xs.drop k = ys.drop k)) (fun i _ => n - (intOf i).toNat)
    case atStart => exact ⟨0, Nat.zero_le _, rfl, HB.out, HV.out⟩
    case round =>
      obtain ⟨k, hk, rfl, hb, hf⟩ := hrel
      have HBB := Lib.hid hb
      by_cases hlt : k < n
      · have t1 : (k : Int) < (n : Int) := by omega
        obtain ⟨b1, off1, hA1, hb1w, hx1, hi1⟩ := R1.out (by omega)
        obtain ⟨b2, off2, hA2, hb2w, hx2, hi2⟩ := R2.out (by omega)
        have IX1 := Lib.hid (hi1 k hlt k rfl)
        have IX2 := Lib.hid (hi2 k hlt k rfl)
        rw [← hA1] at IX1
        rw [← hA2] at IX2
        have Q1 := Lib.hid (hx1 k hlt)
        have Q2 := Lib.hid (hx2 k hlt)
        have X1 := Lib.hid (Kind.row_ok H1.out (i := k) (by rw [HL1.out]; exact hlt))
        have X2 := Lib.hid (Kind.row_ok H2.out (i := k) (by rw [HL2.out]; exact hlt))
        have B0 := Lib.hid hb
        have hdr := drop_same9 pc0 (xs := xs) (ys := ys) (k := k) (by rw [HL1.out]; exact hlt) (by rw [HL2.out]; exact hlt)
        change Hid (Pc.Ok (xs.getD k pc0)) at X1
        change Hid (Pc.Ok (ys.getD k pc0)) at X2
        have HQ := Lib.hid (show ∀ w9, (Op.equalIn 10000 44 (.agg (KPc.cs (xs.getD k pc0)).toArray) (.agg (KPc.cs (ys.getD k pc0)).toArray)).run Tryd.prog w9 = .ok (decide (xs.getD k pc0 = ys.getD k pc0)) w9 from fun w9 => eq_pc X1.out X2.out w9)
        generalize xs.getD k pc0 = x at *
        generalize ys.getD k pc0 = y at *
        clear hx1 hx2 hi1 hi2 hA1 hA2
        by_cases he : x = y
        · subst he
          have HF := Lib.hid (show V = decide (xs.drop (k + 1) = ys.drop (k + 1)) by rw [hf, decide_eq_decide, hdr]; simp)
          rw [show decide (x = x) = true by simp] at HQ
          clear hf hdr hb
          go_wp2_with fail
          refine wp_region_G _ (by kernel_rfl) ?_
          refine wpG_take (i := 0) (oi := ⟨some 16, _, _, _, _, _⟩) (v := ?_) rfl (by kernel_rfl) (by kernel_rfl) (by kernel_rfl) (Or.inl ⟨by rfl, unib_val ?_⟩) ?_; rotate_left; (focus (intro w9 hSw; go_simp; try with_reducible rfl)); simp only [Act.put, List.setIfInBounds_toArray, List.set_cons_zero, List.set_cons_succ]
          refine wpG_take (i := 1) (oi := ⟨some 17, _, _, _, _, _⟩) (v := ?_) rfl (by kernel_rfl) (by kernel_rfl) (by kernel_rfl) (Or.inl ⟨by rfl, unib_val ?_⟩) ?_; rotate_left; (focus (intro w9 hSw; go_simp; try with_reducible rfl)); simp only [Act.put, List.setIfInBounds_toArray, List.set_cons_zero, List.set_cons_succ]
          refine wpG_take (i := 2) (oi := ⟨some 18, _, _, _, _, _⟩) (v := ?_) rfl (by kernel_rfl) (by kernel_rfl) (by kernel_rfl) (Or.inl ⟨by rfl, unib_val ?_⟩) ?_; rotate_left; (focus (intro w9 hSw; have q0 := IX1.out w9; go_simp; try with_reducible rfl)); simp only [Act.put, List.setIfInBounds_toArray, List.set_cons_zero, List.set_cons_succ]
          refine wpG_take (i := 3) (oi := ⟨some 19, _, _, _, _, _⟩) (v := (.agg (KPc.cs x).toArray)) rfl (by kernel_rfl) (by kernel_rfl) (by kernel_rfl) (Or.inl ⟨by rfl, unib_val ?_⟩) ?_; (focus (intro w9 hSw; exact exec_load_at 44 _ rfl _ rfl (load_pcK Q1.out X1.out (B0.out.trans (hSw.mono B0.out.size)) hb1w))); simp only [Act.put, List.setIfInBounds_toArray, List.set_cons_zero, List.set_cons_succ]
          refine wpG_take (i := 4) (oi := ⟨some 20, _, _, _, _, _⟩) (v := ?_) rfl (by kernel_rfl) (by kernel_rfl) (by kernel_rfl) (Or.inl ⟨by rfl, unib_val ?_⟩) ?_; rotate_left; (focus (intro w9 hSw; go_simp; try with_reducible rfl)); simp only [Act.put, List.setIfInBounds_toArray, List.set_cons_zero, List.set_cons_succ]
          refine wpG_take (i := 5) (oi := ⟨some 21, _, _, _, _, _⟩) (v := ?_) rfl (by kernel_rfl) (by kernel_rfl) (by kernel_rfl) (Or.inl ⟨by rfl, unib_val ?_⟩) ?_; rotate_left; (focus (intro w9 hSw; go_simp; try with_reducible rfl)); simp only [Act.put, List.setIfInBounds_toArray, List.set_cons_zero, List.set_cons_succ]
          refine wpG_take (i := 6) (oi := ⟨some 22, _, _, _, _, _⟩) (v := ?_) rfl (by kernel_rfl) (by kernel_rfl) (by kernel_rfl) (Or.inl ⟨by rfl, unib_val ?_⟩) ?_; rotate_left; (focus (intro w9 hSw; have q0 := IX2.out w9; go_simp; try with_reducible rfl)); simp only [Act.put, List.setIfInBounds_toArray, List.set_cons_zero, List.set_cons_succ]
          refine wpG_take (i := 7) (oi := ⟨some 23, _, _, _, _, _⟩) (v := (.agg (KPc.cs x).toArray)) rfl (by kernel_rfl) (by kernel_rfl) (by kernel_rfl) (Or.inl ⟨by rfl, unib_val ?_⟩) ?_; (focus (intro w9 hSw; exact exec_load_at 44 _ rfl _ rfl (load_pcK Q2.out X2.out (B0.out.trans (hSw.mono B0.out.size)) hb2w))); simp only [Act.put, List.setIfInBounds_toArray, List.set_cons_zero, List.set_cons_succ]
          refine wpG_take (i := 8) (oi := ⟨some 24, _, _, _, _, _⟩) (v := (.bool false)) rfl (by kernel_rfl) (by kernel_rfl) (by kernel_rfl) (Or.inl ⟨by rfl, unib_val ?_⟩) ?_; (focus (intro w9 hSw; have q0 := HQ.out w9; exact exec_neq_at 44 _ _ _ rfl rfl rfl guardPc q0)); simp only [Act.put, List.setIfInBounds_toArray, List.set_cons_zero, List.set_cons_succ]
          refine wpG_done (by kernel_rfl) ?_ _
          intro w9 hSw _
          have B9 := Lib.hid (HBB.out.trans (hSw.mono HBB.out.size))
          clear hSw
          go_wp2
          go_roundw
          case rel => exact ⟨k + 1, by omega, by go_num, B9.out, HF.out⟩
          case measure => simp [intOf]; omega
        · have HF := Lib.hid (show V = false by rw [hf, decide_eq_false_iff_not, hdr]; simp [he])
          rw [decide_eq_false he] at HQ
          clear hf hdr hb
          go_wp2_with fail
          refine wp_region_G _ (by kernel_rfl) ?_
          refine wpG_take (i := 0) (oi := ⟨some 16, _, _, _, _, _⟩) (v := ?_) rfl (by kernel_rfl) (by kernel_rfl) (by kernel_rfl) (Or.inl ⟨by rfl, unib_val ?_⟩) ?_; rotate_left; (focus (intro w9 hSw; go_simp; try with_reducible rfl)); simp only [Act.put, List.setIfInBounds_toArray, List.set_cons_zero, List.set_cons_succ]
          refine wpG_take (i := 1) (oi := ⟨some 17, _, _, _, _, _⟩) (v := ?_) rfl (by kernel_rfl) (by kernel_rfl) (by kernel_rfl) (Or.inl ⟨by rfl, unib_val ?_⟩) ?_; rotate_left; (focus (intro w9 hSw; go_simp; try with_reducible rfl)); simp only [Act.put, List.setIfInBounds_toArray, List.set_cons_zero, List.set_cons_succ]
          refine wpG_take (i := 2) (oi := ⟨some 18, _, _, _, _, _⟩) (v := ?_) rfl (by kernel_rfl) (by kernel_rfl) (by kernel_rfl) (Or.inl ⟨by rfl, unib_val ?_⟩) ?_; rotate_left; (focus (intro w9 hSw; have q0 := IX1.out w9; go_simp; try with_reducible rfl)); simp only [Act.put, List.setIfInBounds_toArray, List.set_cons_zero, List.set_cons_succ]
          refine wpG_take (i := 3) (oi := ⟨some 19, _, _, _, _, _⟩) (v := (.agg (KPc.cs x).toArray)) rfl (by kernel_rfl) (by kernel_rfl) (by kernel_rfl) (Or.inl ⟨by rfl, unib_val ?_⟩) ?_; (focus (intro w9 hSw; exact exec_load_at 44 _ rfl _ rfl (load_pcK Q1.out X1.out (B0.out.trans (hSw.mono B0.out.size)) hb1w))); simp only [Act.put, List.setIfInBounds_toArray, List.set_cons_zero, List.set_cons_succ]
          refine wpG_take (i := 4) (oi := ⟨some 20, _, _, _, _, _⟩) (v := ?_) rfl (by kernel_rfl) (by kernel_rfl) (by kernel_rfl) (Or.inl ⟨by rfl, unib_val ?_⟩) ?_; rotate_left; (focus (intro w9 hSw; go_simp; try with_reducible rfl)); simp only [Act.put, List.setIfInBounds_toArray, List.set_cons_zero, List.set_cons_succ]
          refine wpG_take (i := 5) (oi := ⟨some 21, _, _, _, _, _⟩) (v := ?_) rfl (by kernel_rfl) (by kernel_rfl) (by kernel_rfl) (Or.inl ⟨by rfl, unib_val ?_⟩) ?_; rotate_left; (focus (intro w9 hSw; go_simp; try with_reducible rfl)); simp only [Act.put, List.setIfInBounds_toArray, List.set_cons_zero, List.set_cons_succ]
          refine wpG_take (i := 6) (oi := ⟨some 22, _, _, _, _, _⟩) (v := ?_) rfl (by kernel_rfl) (by kernel_rfl) (by kernel_rfl) (Or.inl ⟨by rfl, unib_val ?_⟩) ?_; rotate_left; (focus (intro w9 hSw; have q0 := IX2.out w9; go_simp; try with_reducible rfl)); simp only [Act.put, List.setIfInBounds_toArray, List.set_cons_zero, List.set_cons_succ]
          refine wpG_take (i := 7) (oi := ⟨some 23, _, _, _, _, _⟩) (v := (.agg (KPc.cs y).toArray)) rfl (by kernel_rfl) (by kernel_rfl) (by kernel_rfl) (Or.inl ⟨by rfl, unib_val ?_⟩) ?_; (focus (intro w9 hSw; exact exec_load_at 44 _ rfl _ rfl (load_pcK Q2.out X2.out (B0.out.trans (hSw.mono B0.out.size)) hb2w))); simp only [Act.put, List.setIfInBounds_toArray, List.set_cons_zero, List.set_cons_succ]
          refine wpG_take (i := 8) (oi := ⟨some 24, _, _, _, _, _⟩) (v := (.bool true)) rfl (by kernel_rfl) (by kernel_rfl) (by kernel_rfl) (Or.inl ⟨by rfl, unib_val ?_⟩) ?_; (focus (intro w9 hSw; have q0 := HQ.out w9; exact exec_neq_at 44 _ _ _ rfl rfl rfl guardPc q0)); simp only [Act.put, List.setIfInBounds_toArray, List.set_cons_zero, List.set_cons_succ]
          refine wpG_done (by kernel_rfl) ?_ _
          intro w9 hSw _
          have B9 := Lib.hid (HBB.out.trans (hSw.mono HBB.out.size))
          clear hSw
          go_wp2
          go_ret
          exact ⟨by rw [HF.out]; try rfl, B9.out⟩
      · obtain rfl : k = n := by omega
        have t1 : ¬ (k : Int) < (k : Int) := by omega
        rw [List.drop_eq_nil_of_le (by rw [HL1.out]; exact Nat.le_refl _), List.drop_eq_nil_of_le (by rw [HL2.out]; exact Nat.le_refl _), decide_eq_true rfl] at hf
        have HF := Lib.hid hf
        clear hf hb
        go_wp2
        go_ret
        exact ⟨by rw [HF.out]; try rfl, HBB.out⟩
  · have HF := Lib.hid (HNE.out hl2)
    have t1 : ¬ (xs.length : Int) = (ys.length : Int) := by omega
    go_enter Tryd.func35, Tryd.ntmps35
    go_wp2
    go_ret
    exact ⟨by rw [HF.out]; try rfl, HB.out⟩
theorem same11_any (A B : Option Addr) (c d : Nat) (xs ys : List Pc) (w : World) (h1 : KPc.row w A c xs) (h2 : KPc.row w B d ys) (hl : xs.length ≤ 1000000) : Calls Tryd.prog 20 #[.slice A xs.length c, .slice B ys.length d] w fun e w' => e = .returned (.bool (decide (xs = ys))) ∧ Below w.heap.size w w' := by
  have C := Lib.hid (equal11_any A B c d xs ys w h1 h2 hl)
  clear h1 h2
  go_enter Tryd.func20, Tryd.ntmps20
  go_wp2_with fail
  refine C.out.mono ?_
  rintro e w1 ⟨rfl, hb⟩
  have B1 := Lib.hid hb
  clear hb
  go_wp2
  go_ret
  exact ⟨rfl, B1.out⟩
end Go.Proofs.YtnencoainacpoaaDoor

end
section
/-
  What the program's own fits, mayOne, May and Same of pieces answer. Nothing that was there is written.
-/
namespace Go.Proofs.YtnencoainacpoaaDoor
open Go.RowKit WM
set_option linter.unusedVariables false
set_option maxRecDepth 100000
theorem fits_any (n : Int) (w : World) : Calls Tryd.prog 50 #[.int .i64 n] w fun e w' => e = .returned (.bool (decide (1 ≤ n ∧ n ≤ 200))) ∧ w' = w := by
  have HV : Hid (∀ b : Bool, (b = true ↔ (1 ≤ n ∧ n ≤ 200)) → decide (1 ≤ n ∧ n ≤ 200) = b) := Lib.hid (fun b hb => by rw [Bool.eq_iff_iff, decide_eq_true_iff, hb])
  generalize decide (1 ≤ n ∧ n ≤ 200) = V at *
  by_cases t1 : 1 ≤ n
  · by_cases t2 : n ≤ 200
    · go_enter Tryd.func50, Tryd.ntmps50
      go_wp2
      go_ret
      exact ⟨by rw [HV.out true (by simp; omega)]; try rfl, rfl⟩
    · go_enter Tryd.func50, Tryd.ntmps50
      go_wp2
      go_ret
      exact ⟨by rw [HV.out false (by simp; omega)]; try rfl, rfl⟩
  · go_enter Tryd.func50, Tryd.ntmps50
    go_wp2
    go_ret
    exact ⟨by rw [HV.out false (by simp; omega)]; try rfl, rfl⟩
set_option maxHeartbeats 4000000 in
theorem mayOne_any (p : Pc) (w : World) (hw : p.lit.size ≤ maxLen) : Calls Tryd.prog 34 #[KPc.v p] w fun e w' => e = .returned (.bool (pcGood p)) ∧ Below w.heap.size w w' := by
  rw [pc_v]
  obtain ⟨cp, fr, ln, lit⟩ := p
  dsimp only at hw ⊢
  simp only [maxLen] at hw
  have HB := Lib.hid ((Below.refl w.heap.size w).alloc (Nat.le_refl _) (.cells #[.bool cp, .int .i64 fr, .int .i64 ln, .string lit] 44))
  have HC := Lib.hid fits_any
  cases cp
  · have HV := Lib.hid (show pcGood ⟨false, fr, ln, lit⟩ = decide (fr = 0 ∧ ln = 0 ∧ 1 ≤ lit.size ∧ lit.size ≤ 200) from rfl)
    generalize pcGood ⟨false, fr, ln, lit⟩ = V at *
    by_cases t1 : fr = 0
    · by_cases t2 : ln = 0
      · have HD := Lib.hid (show V = decide (1 ≤ (lit.size : Int) ∧ (lit.size : Int) ≤ 200) by
          rw [HV.out, decide_eq_decide]; constructor
          · rintro ⟨_, _, h3, h4⟩; omega
          · rintro ⟨h3, h4⟩; exact ⟨t1, t2, by omega, by omega⟩)
        subst t1 t2
        clear HV
        go_enter Tryd.func34, Tryd.ntmps34
        go_wp2_with fail
        refine (HC.out _ _).mono ?_
        rintro e w1 ⟨rfl, rfl⟩
        rw [← HD.out]
        go_wp2
        go_ret
        exact ⟨rfl, HB.out⟩
      · have HF := Lib.hid (show V = false by rw [HV.out]; exact decide_eq_false fun h => t2 h.2.1)
        clear HV
        subst t1
        go_enter Tryd.func34, Tryd.ntmps34
        go_wp2
        go_ret
        exact ⟨by rw [HF.out]; try rfl, HB.out⟩
    · have HF := Lib.hid (show V = false by rw [HV.out]; exact decide_eq_false fun h => t1 h.1)
      clear HV
      go_enter Tryd.func34, Tryd.ntmps34
      go_wp2
      go_ret
      exact ⟨by rw [HF.out]; try rfl, HB.out⟩
  · have HV := Lib.hid (show pcGood ⟨true, fr, ln, lit⟩ = decide (0 ≤ fr ∧ fr ≤ 200 ∧ 1 ≤ ln ∧ ln ≤ 200 ∧ lit.size = 0) from rfl)
    generalize pcGood ⟨true, fr, ln, lit⟩ = V at *
    by_cases t1 : 0 ≤ fr
    · by_cases t2 : fr ≤ 200
      · by_cases t3 : 1 ≤ ln ∧ ln ≤ 200
        · have HT := Lib.hid (show decide (1 ≤ ln ∧ ln ≤ 200) = true from decide_eq_true t3)
          by_cases t4 : lit.size = 0
          · have HF := Lib.hid (show V = true by rw [HV.out]; exact decide_eq_true ⟨t1, t2, t3.1, t3.2, t4⟩)
            obtain rfl := (lit_empty lit).2 t4
            clear HV t4 t3
            go_enter Tryd.func34, Tryd.ntmps34
            go_wp2_with fail
            refine (HC.out _ _).mono ?_
            rintro e w1 ⟨rfl, rfl⟩
            rw [HT.out]
            go_wp2
            go_ret
            exact ⟨by rw [HF.out]; try rfl, HB.out⟩
          · have HF := Lib.hid (show V = false by rw [HV.out]; exact decide_eq_false fun h => t4 h.2.2.2.2)
            have he : ¬ lit = ⟨#[]⟩ := fun h => t4 ((lit_empty lit).1 h)
            have HI := Lib.hid (show lit.toList.isEmpty = false by
              cases h : lit.toList.isEmpty
              · rfl
              · exact absurd (lit_list (List.isEmpty_iff.1 h)) he)
            clear HV t4 t3
            go_enter Tryd.func34, Tryd.ntmps34
            go_wp2_with fail
            refine (HC.out _ _).mono ?_
            rintro e w1 ⟨rfl, rfl⟩
            rw [HT.out]
            go_wp2
            go_ret
            exact ⟨by rw [HF.out, HI.out]; try rfl, HB.out⟩
        · have HT := Lib.hid (show decide (1 ≤ ln ∧ ln ≤ 200) = false from decide_eq_false t3)
          have HF := Lib.hid (show V = false by rw [HV.out]; exact decide_eq_false fun h => t3 ⟨h.2.2.1, h.2.2.2.1⟩)
          clear HV t3
          go_enter Tryd.func34, Tryd.ntmps34
          go_wp2_with fail
          refine (HC.out _ _).mono ?_
          rintro e w1 ⟨rfl, rfl⟩
          rw [HT.out]
          go_wp2
          go_ret
          exact ⟨by rw [HF.out]; try rfl, HB.out⟩
      · have HF := Lib.hid (show V = false by rw [HV.out]; exact decide_eq_false fun h => t2 h.2.1)
        clear HV
        go_enter Tryd.func34, Tryd.ntmps34
        go_wp2
        go_ret
        exact ⟨by rw [HF.out]; try rfl, HB.out⟩
    · have HF := Lib.hid (show V = false by rw [HV.out]; exact decide_eq_false fun h => t1 h.1)
      clear HV
      go_enter Tryd.func34, Tryd.ntmps34
      go_wp2
      go_ret
      exact ⟨by rw [HF.out]; try rfl, HB.out⟩
set_option maxHeartbeats 4000000 in
theorem may11_any (A : Option Addr) (c : Nat) (l : List Pc) (w : World) (h1 : KPc.row w A c l) (hl : l.length ≤ 10000000) : Calls Tryd.prog 19 #[.slice A l.length c] w fun e w' => e = .returned (.bool (pmay l)) ∧ Below w.heap.size w w' := by
  have HB := Lib.hid (Below.refl w.heap.size w)
  have H1 := Lib.hid h1
  have R1 := Lib.hid (fun h => pc_row H1.out h)
  have HV := Lib.hid (show pmay l = pmayF l.length 0 (l.drop 0) by unfold pmay pmayF; simp)
  by_cases t0 : (60 : Int) < (l.length : Int)
  · have HF := Lib.hid (show pmay l = false by unfold pmay; rw [decide_eq_false (p := l.length ≤ 60) (by omega)]; simp)
    generalize l.length = n at *
    clear h1 HV
    go_enter Tryd.func19, Tryd.ntmps19
    go_wp2
    go_ret
    exact ⟨by rw [HF.out]; try rfl, HB.out⟩
  generalize pmay l = V at *
  generalize hn1 : l.length = n at *
  have HL1 := Lib.hid hn1
  have HC := Lib.hid mayOne_any
  have hz := zeroPc
  rw [pc_v] at hz
  dsimp only [pc0] at hz
  clear h1 hn1
  go_enter Tryd.func19, Tryd.ntmps19
  go_wp2
  go_loopw [3, 11] (fun a i wr => ∃ (k : Nat) (all : Int), k ≤ n ∧ i = .int .i64 k ∧ a = .int .i64 all ∧ 0 ≤ all ∧ all ≤ 400 * k ∧ Below w.heap.size w wr ∧ V = pmayF n all (l.drop k)) (fun _ i _ => n - (intOf i).toNat)
  case atStart => exact ⟨0, 0, Nat.zero_le _, rfl, rfl, by omega, by omega, HB.out, HV.out⟩
  case round =>
    obtain ⟨k, all, hk, rfl, rfl, ha0, ha1, hb, hf⟩ := hrel
    have HBB := Lib.hid hb
    by_cases hlt : k < n
    · have t2 : (k : Int) < (n : Int) := by omega
      obtain ⟨b1, off1, hA1, hb1w, hx1, hi1⟩ := R1.out (by omega)
      have ix1 := hi1 k hlt k rfl
      rw [← hA1] at ix1
      obtain ⟨c0, c1, c2, c3⟩ := pc_cells (hx1 k hlt)
      have c0 := (hb.cell (p := ⟨b1, off1 + k * 4, none⟩) hb1w).trans c0
      have c1 := (hb.cell (p := ⟨b1, off1 + k * 4 + 1, none⟩) hb1w).trans c1
      have c2 := (hb.cell (p := ⟨b1, off1 + k * 4 + 2, none⟩) hb1w).trans c2
      have c3 := (hb.cell (p := ⟨b1, off1 + k * 4 + 3, none⟩) hb1w).trans c3
      have hok : Pc.Ok (l.getD k pc0) := Kind.row_ok H1.out (i := k) (by rw [HL1.out]; exact hlt)
      rw [drop_cons9 pc0 (by rw [HL1.out]; exact hlt), pmayF_cons] at hf
      generalize l.getD k pc0 = x at *
      generalize off1 + k * 4 = o at *
      have hsz := hok.2.2
      have HC1 := Lib.hid (HC.out x (wr.alloc (.cells #[.bool x.cp, .int .i64 x.fr, .int .i64 x.ln, .string x.lit] 44)) hsz)
      rw [pc_v] at HC1
      have BN := Lib.hid (HBB.out.alloc HBB.out.size (.cells #[.bool x.cp, .int .i64 x.fr, .int .i64 x.ln, .string x.lit] 44))
      have hcn := heap_alloc_new wr (.cells #[.bool x.cp, .int .i64 x.fr, .int .i64 x.ln, .string x.lit] 44)
      have K2 := Lib.hid (show (wr.alloc (.cells #[.bool x.cp, .int .i64 x.fr, .int .i64 x.ln, .string x.lit] 44)).cell? ⟨wr.heap.size, 2, none⟩ = some (.int .i64 x.ln) by rw [cell_of_row _ _ _ _ _ _ hcn]; rfl)
      have K3 := Lib.hid (show (wr.alloc (.cells #[.bool x.cp, .int .i64 x.fr, .int .i64 x.ln, .string x.lit] 44)).cell? ⟨wr.heap.size, 3, none⟩ = some (.string x.lit) by rw [cell_of_row _ _ _ _ _ _ hcn]; rfl)
      have HSZ := Lib.hid (show wr.heap.size < (wr.alloc (.cells #[.bool x.cp, .int .i64 x.fr, .int .i64 x.ln, .string x.lit] 44)).heap.size by rw [World.size_alloc]; omega)
      have HPS : Hid (pcGood x = true → _) := Lib.hid (fun h => pcGood_size (p := x) h)
      have HP0 := Lib.hid (show pcSize x = x.ln + x.lit.size from rfl)
      obtain ⟨cp, fr, ln, lit⟩ := x
      dsimp only at c0 c1 c2 c3 K2 K3 HC1 BN HSZ HPS HP0
      generalize pcGood ⟨cp, fr, ln, lit⟩ = g at *
      have HFF := Lib.hid hf
      clear hx1 hi1 hA1 hb hf hok hsz hcn
      go_wp2_with fail
      refine HC1.out.mono ?_
      rintro e w1 ⟨rfl, hb1⟩
      have B1 := Lib.hid (BN.out.trans (hb1.mono BN.out.size))
      have k2 := (hb1.cell (p := ⟨wr.heap.size, 2, none⟩) HSZ.out).trans K2.out
      have k3 := (hb1.cell (p := ⟨wr.heap.size, 3, none⟩) HSZ.out).trans K3.out
      clear hb1 c0 c1 c2 c3
      cases g
      · have HF := Lib.hid (show V = false by rw [HFF.out]; rfl)
        go_wp2
        go_ret
        exact ⟨by rw [HF.out]; try rfl, B1.out⟩
      · obtain ⟨s1, s2, s3, s4, s5, s6, s7⟩ := HPS.out rfl
        have f1 : IntKind.i64.wrap (ln + (lit.size : Int)) = ln + (lit.size : Int) := IntWalk.i64_in _ (by omega)
        have f2 : IntKind.i64.wrap (all + (ln + (lit.size : Int))) = all + (ln + (lit.size : Int)) := IntWalk.i64_in _ (by omega)
        have HF := Lib.hid (show V = pmayF n (all + (ln + (lit.size : Int))) (l.drop (k + 1)) by rw [HFF.out, HP0.out]; rfl)
        clear s1 s2
        go_wp2
        go_roundw
        case rel => exact ⟨k + 1, all + (ln + (lit.size : Int)), by omega, by go_num, by simp, by omega, by omega, B1.out, HF.out⟩
        case measure => simp [intOf]; omega
    · obtain rfl : k = n := by omega
      have t2 : ¬ (k : Int) < (k : Int) := by omega
      rw [List.drop_eq_nil_of_le (by rw [HL1.out]; exact Nat.le_refl _)] at hf
      have HF := Lib.hid (show V = decide (all ≤ 200) by rw [hf]; unfold pmayF; rw [decide_eq_true (p := k ≤ 60) (by omega)]; simp [pcAll])
      clear hf hb
      go_wp2
      go_ret
      exact ⟨by rw [HF.out]; try rfl, HBB.out⟩
end Go.Proofs.YtnencoainacpoaaDoor

end
section
/-
  What the program's own Apply of pieces answers. Nothing that was there is written.
-/
namespace Go.Proofs.YtnencoainacpoaaDoor
open Go.RowKit WM
set_option linter.unusedVariables false
set_option maxRecDepth 100000
theorem extract_none (s : ByteArray) : s.extract 0 0 = ⟨#[]⟩ := by
  apply (lit_empty _).2
  rw [extract_size _ _ _ (Nat.zero_le _)]
theorem pap_step {base : ByteArray} {p : Pc} {l : List Pc} {acc : ByteArray} (h : pcGood p = true) :
    pap base (p :: l) acc = if (base.size : Int) < p.fr + p.ln then none else pap base l (acc ++ base.extract p.fr.toNat (p.fr + p.ln).toNat ++ p.lit) := by
  obtain ⟨cp, fr, ln, lit⟩ := p
  cases cp
  · have hg : fr = 0 ∧ ln = 0 ∧ 1 ≤ lit.size ∧ lit.size ≤ 200 := by simpa [pcGood] using h
    obtain ⟨rfl, rfl, _⟩ := hg
    simp only [pap, Bool.false_eq_true, if_false]
    rw [if_neg (by omega)]
    show _ = pap base l (acc ++ base.extract 0 0 ++ lit)
    rw [extract_none, ba_append_empty]
  · have hg : 0 ≤ fr ∧ fr ≤ 200 ∧ 1 ≤ ln ∧ ln ≤ 200 ∧ lit.size = 0 := by simpa [pcGood] using h
    obtain rfl := (lit_empty lit).2 hg.2.2.2.2
    simp only [pap, if_true]
    rw [ba_append_empty]
set_option maxHeartbeats 8000000 in
theorem apply11_any (base : ByteArray) (A : Option Addr) (c : Nat) (l : List Pc) (w : World) (h1 : KPc.row w A c l) (hl : l.length ≤ 10000000) (hb0 : base.size ≤ maxLen) : Calls Tryd.prog 13 #[.string base, .slice A l.length c] w fun e w' => e = .returned (apV (papply base l)) ∧ Below w.heap.size w w' := by
  have HB := Lib.hid (Below.refl w.heap.size w)
  have H1 := Lib.hid h1
  have HM := Lib.hid (may11_any A c l w h1 hl)
  have R1 := Lib.hid (fun h => pc_row H1.out h)
  simp only [maxLen] at hb0
  cases hm : pmay l
  · have HV := Lib.hid (show papply base l = none by unfold papply; rw [hm]; rfl)
    rw [hm] at HM
    generalize l.length = n at *
    clear h1 hm
    go_enter Tryd.func13, Tryd.ntmps13
    go_wp2_with fail
    refine HM.out.mono ?_
    rintro e w1 ⟨rfl, hb⟩
    have B1 := Lib.hid hb
    clear hb
    go_wp2
    refine bodyPost_ret (v := .tuple #[.string ⟨#[]⟩, .bool false]) (by simp [results, Tryd.results13]) rfl ⟨by rw [HV.out]; rfl, B1.out⟩
  have HV := Lib.hid (show papply base l = pap base (l.drop 0) ⟨#[]⟩ by unfold papply; rw [if_pos hm]; rfl)
  obtain ⟨hgood, hl60, _⟩ := pmay_iff.1 hm
  have HG := Lib.hid hgood
  rw [hm] at HM
  generalize papply base l = V at *
  generalize hn1 : l.length = n at *
  have HL1 := Lib.hid hn1
  have hz := zeroPc
  rw [pc_v] at hz
  dsimp only [pc0] at hz
  obtain ⟨N, hN⟩ : ∃ N, N = base.size := ⟨_, rfl⟩
  have hlen : base.size = N := hN.symm
  have HSZ := Lib.hid hlen
  have HW := Lib.hid bdWrite_any
  have HS := Lib.hid bdString_any
  clear h1 hn1 hm hgood hN
  go_enter Tryd.func13, Tryd.ntmps13
  go_wp2_with fail
  refine HM.out.mono ?_
  rintro e w1 ⟨rfl, hb⟩
  have B1 := Lib.hid hb
  obtain ⟨b, hbb⟩ : ∃ b, b = w1.heap.size := ⟨_, rfl⟩
  have D1 := Lib.hid (show BdAt b b ⟨#[]⟩ (w1.alloc (.cells #[.pointer none, .slice none 0 0] 49)) by rw [hbb]; exact BdAt.new w1)
  have B2 := Lib.hid (B1.out.alloc B1.out.size (.cells #[.pointer none, .slice none 0 0] 49))
  have HBW := Lib.hid (show w.heap.size ≤ b by rw [hbb]; exact B1.out.size)
  have S2 := Lib.hid (show b < (w1.alloc (.cells #[.pointer none, .slice none 0 0] 49)).heap.size by rw [World.size_alloc]; omega)
  clear hb
  go_wp2
  rw [← hbb]
  generalize (w1.alloc (.cells #[.pointer none, .slice none 0 0] 49)) = w2 at *
  clear hbb
  go_loopw [15] (fun i wr => ∃ (k : Nat) (acc : ByteArray), k ≤ n ∧ i = .int .i64 k ∧ acc.size ≤ 800 * k ∧ BdAt b b acc wr ∧ b < wr.heap.size ∧ Below w.heap.size w wr ∧ V = pap base (l.drop k) acc) (fun i _ => n - (intOf i).toNat)
  case atStart => exact ⟨0, ⟨#[]⟩, Nat.zero_le _, rfl, Nat.zero_le _, D1.out, S2.out, B2.out, HV.out⟩
  case round =>
    obtain ⟨k, acc, hk, rfl, ha, hd, hbw, hb, hf⟩ := hrel
    have HBB := Lib.hid hb
    have HD := Lib.hid hd
    have HBL := Lib.hid hbw
    by_cases hlt : k < n
    · have t2 : (k : Int) < (n : Int) := by omega
      obtain ⟨b1, off1, hA1, hb1w, hx1, hi1⟩ := R1.out (by omega)
      have ix1 := hi1 k hlt k rfl
      rw [← hA1] at ix1
      obtain ⟨c0, c1, c2, c3⟩ := pc_cells (hx1 k hlt)
      have c0 := (hb.cell (p := ⟨b1, off1 + k * 4, none⟩) hb1w).trans c0
      have c1 := (hb.cell (p := ⟨b1, off1 + k * 4 + 1, none⟩) hb1w).trans c1
      have c2 := (hb.cell (p := ⟨b1, off1 + k * 4 + 2, none⟩) hb1w).trans c2
      have c3 := (hb.cell (p := ⟨b1, off1 + k * 4 + 3, none⟩) hb1w).trans c3
      have hg := HG.out (l.getD k pc0) (by rw [List.getD_eq_getElem?_getD, List.getElem?_eq_getElem (by rw [HL1.out]; exact hlt)]; exact List.getElem_mem _)
      obtain ⟨s1, s2, s3, s4, s5, s6, s7⟩ := pcGood_size hg
      rw [drop_cons9 pc0 (by rw [HL1.out]; exact hlt), pap_step hg] at hf
      generalize l.getD k pc0 = x at *
      generalize off1 + k * 4 = o at *
      obtain ⟨cp, fr, ln, lit⟩ := x
      dsimp only at c0 c1 c2 c3 s1 s2 s3 s4 s5 s6 s7 hf
      obtain ⟨f, rfl⟩ : ∃ f : Nat, fr = f := ⟨fr.toNat, by omega⟩
      obtain ⟨m, rfl⟩ : ∃ m : Nat, ln = m := ⟨ln.toNat, by omega⟩
      rw [show ((f : Int) + (m : Int)).toNat = f + m by omega, Int.toNat_natCast] at hf
      have f1 : IntKind.i64.wrap ((f : Int) + (m : Int)) = (f : Int) + (m : Int) := IntWalk.i64_in _ (by omega)
      have BA := Lib.hid (HBB.out.alloc HBB.out.size (.cells #[.bool cp, .int .i64 (f : Int), .int .i64 (m : Int), .string lit] 44))
      clear hx1 hi1 hA1 hb hg s1 s2 hd hbw
      by_cases t3 : (N : Int) < (f : Int) + (m : Int)
      · rw [if_pos (by rw [HSZ.out]; exact t3)] at hf
        have HF := Lib.hid hf
        clear hf
        go_wp2
        refine bodyPost_ret (v := .tuple #[.string ⟨#[]⟩, .bool false]) (by simp [results, Tryd.results13]) rfl ⟨by rw [HF.out]; rfl, BA.out⟩
      · rw [if_neg (by rw [HSZ.out]; exact t3)] at hf
        have hsl := sub_str base f (f + m) (by omega) (by rw [HSZ.out]; omega) (f : Int) ((f : Int) + (m : Int)) rfl (by omega)
        have hpp : (base.extract f (f + m)).size = m := by rw [extract_size _ _ _ (by rw [HSZ.out]; omega)]; omega
        generalize base.extract f (f + m) = p at *
        have HF := Lib.hid hf
        have HPP := Lib.hid hpp
        have hcn := heap_alloc_new wr (.cells #[.bool cp, .int .i64 (f : Int), .int .i64 (m : Int), .string lit] 44)
        have HCN := Lib.hid hcn
        have DA := Lib.hid (HD.out.alloc (.cells #[.bool cp, .int .i64 (f : Int), .int .i64 (m : Int), .string lit] 44))
        have SA := Lib.hid (show b < (wr.alloc (.cells #[.bool cp, .int .i64 (f : Int), .int .i64 (m : Int), .string lit] 44)).heap.size by rw [World.size_alloc]; have := HBL.out; omega)
        have NE := Lib.hid (show wr.heap.size ≠ b by have := HBL.out; omega)
        clear hpp hf hcn
        go_wp2_with fail
        refine (HW.out b b acc p _ DA.out (by rw [HPP.out]; omega) (Nat.le_of_lt SA.out)).mono ?_
        rintro e w3 ⟨rfl, hd3, hb3, hk3⟩
        have BL3 := hb3.size
        have B3 := Lib.hid (BA.out.trans (hb3.mono HBW.out))
        have D3 := Lib.hid hd3
        have S3 := Lib.hid (show b < w3.heap.size by have := SA.out; omega)
        have hq := hk3 _ _ HCN.out (fun e => NE.out (Option.some.inj e)) (fun c fz e => by cases e)
        have k3 : w3.cell? ⟨wr.heap.size, 3, none⟩ = some (.string lit) := by rw [cell_of_row _ _ _ _ _ _ hq]; rfl
        have HAP := Lib.hid (show (acc ++ p).size = acc.size + m by rw [ba_size_append, HPP.out])
        clear hd3 hb3 hk3 hq BL3 c0 c1 c2 c3
        go_wp2_with fail
        refine (HW.out b b (acc ++ p) lit _ D3.out (by rw [HAP.out]; omega) (Nat.le_of_lt S3.out)).mono ?_
        rintro e w4 ⟨rfl, hd4, hb4, hk4⟩
        have B4 := Lib.hid (B3.out.trans (hb4.mono HBW.out))
        have D4 := Lib.hid hd4
        have S4 := Lib.hid (show b < w4.heap.size by have := S3.out; have := hb4.size; omega)
        have HAQ := Lib.hid (show (acc ++ p ++ lit).size ≤ 800 * (k + 1) by rw [ba_size_append, HAP.out]; omega)
        clear hd4 hb4 hk4 k3
        go_wp2
        go_roundw
        case rel => exact ⟨k + 1, acc ++ p ++ lit, by omega, by go_num, HAQ.out, D4.out, S4.out, B4.out, HF.out⟩
        case measure => simp [intOf]; omega
    · obtain rfl : k = n := by omega
      have t2 : ¬ (k : Int) < (k : Int) := by omega
      rw [List.drop_eq_nil_of_le (by rw [HL1.out]; exact Nat.le_refl _)] at hf
      have HF := Lib.hid (show V = some acc from hf)
      clear hf hb hd hbw
      go_wp2_with fail
      refine (HS.out b b acc _ HD.out (Nat.le_of_lt HBL.out)).mono ?_
      rintro e w3 ⟨rfl, hb3⟩
      have B3 := Lib.hid (HBB.out.trans (hb3.mono HBW.out))
      clear hb3
      go_wp2
      refine bodyPost_ret (v := .tuple #[.string acc, .bool true]) (by simp [results, Tryd.results13]) rfl ⟨by rw [HF.out]; rfl, B3.out⟩
end Go.Proofs.YtnencoainacpoaaDoor

end
section
/-
  What the program's own putOne and Put of pieces answer. Nothing that was there is written.
-/
namespace Go.Proofs.YtnencoainacpoaaDoor
open Go.RowKit WM
set_option linter.unusedVariables false
set_option maxRecDepth 100000
theorem bs_one11 (w : World) (c : Int) : BsAt (w.alloc (.cells #[.int .u8 c] 5)) (some ⟨w.heap.size, 0, none⟩) 1 1 [c] := ⟨byt_one11 w c, rfl, fun h => by cases h⟩
theorem own_one11 (w : World) (c : Int) {base : Nat} (h : base ≤ w.heap.size) : (w.alloc (.cells #[.int .u8 c] 5)).ownsRow base 5 1 (.slice (some ⟨w.heap.size, 0, none⟩) 1 1) 1 ([c].map (Value.int .u8)) :=
  ⟨rfl, .inr ⟨w.heap.size, 1, #[.int .u8 c], rfl, h, heap_alloc_new w _, Nat.le_refl _, by decide, rfl, rfl⟩⟩
theorem own_sl11 {w : World} {base n : Nat} {v : Value} {xs : List Value} (h : w.ownsRow base 5 1 v n xs) : ∃ A c, v = .slice A n c := by
  rcases h.2 with ⟨rfl, h2⟩ | ⟨g, cap, cur, rfl, _⟩
  · exact ⟨none, 0, by rw [h2]⟩
  · exact ⟨_, cap, rfl⟩
set_option maxHeartbeats 8000000 in
theorem putOne_any (p : Pc) (w : World) (hg : pcGood p = true) : Calls Tryd.prog 37 #[KPc.v p] w (Gives w (pcB p)) := by
  rw [pc_v]
  obtain ⟨s1, s2, s3, s4, s5, s6, s7⟩ := pcGood_size hg
  obtain ⟨cp, fr, ln, lit⟩ := p
  dsimp only at s3 s4 s5 s6 s7 ⊢
  clear s1 s2 hg
  have HV : Hid (∀ v n w', w'.ownsRow w.heap.size 5 1 v n ((pcB ⟨cp, fr, ln, lit⟩).map (Value.int .u8)) → Below w.heap.size w w' → Gives w (pcB ⟨cp, fr, ln, lit⟩) (.returned v) w') := Lib.hid (fun v n w' h1 h2 => gives_own h1 h2)
  generalize Gives w (pcB ⟨cp, fr, ln, lit⟩) = RR at *
  obtain ⟨w1, hw1⟩ : ∃ w1, w1 = w.alloc (.cells #[.bool cp, .int .i64 fr, .int .i64 ln, .string lit] 44) := ⟨_, rfl⟩
  have HS1 := Lib.hid (show w1.heap.size = w.heap.size + 1 by rw [hw1, World.size_alloc])
  have HW1 := Lib.hid (show w.heap.size ≤ w1.heap.size by rw [hw1, World.size_alloc]; omega)
  have HB1 := Lib.hid (show Below w.heap.size w w1 by rw [hw1]; exact (Below.refl w.heap.size w).alloc (Nat.le_refl _) _)
  have HLT := Lib.hid (show w.heap.size < w1.heap.size by rw [hw1, World.size_alloc]; omega)
  cases cp
  · rw [show pcB ⟨false, fr, ln, lit⟩ = [0] ++ txt lit from rfl] at HV
    have HT := Lib.hid (fun X => text_gives lit X (by omega))
    have HL1 := Lib.hid (show (txt lit).length ≤ 220 by have := enc_len lit.size; unfold txt; rw [List.length_append, nums_len]; omega)
    have HNE := Lib.hid (show txt lit ≠ [] by
      intro h
      have h2 := congrArg List.length h
      have := enc_len lit.size
      unfold txt at h2
      rw [List.length_append, List.length_nil] at h2
      omega)
    have k0 : w1.cell? ⟨w.heap.size, 0, none⟩ = some (.bool false) := by rw [hw1, cell_of_row _ _ _ _ _ _ (heap_alloc_new w _)]; rfl
    have K0 := Lib.hid k0
    have k3 : w1.cell? ⟨w.heap.size, 3, none⟩ = some (.string lit) := by rw [hw1, cell_of_row _ _ _ _ _ _ (heap_alloc_new w _)]; rfl
    have K3 := Lib.hid k3
    generalize txt lit = Tx at *
    go_enter Tryd.func37, Tryd.ntmps37
    go_wp2_with fail
    rw [← hw1]
    clear hw1
    refine (HT.out _).mono ?_
    rintro e x2 ⟨A1, n1, k1, rfl, hn, hnk, hkm, hown, hb⟩
    have B2 := Lib.hid ((HB1.out.alloc HB1.out.size (.cells #[.int .u8 0] 5)).trans (hb.mono (by rw [World.size_alloc]; have := HW1.out; omega)))
    have OW := Lib.hid (own_below (own_one11 w1 0 (base := w.heap.size) HW1.out) hb)
    rw [HS1.out] at OW
    have Y1 := Lib.hid (BsAt.own hown)
    have HN1 := Lib.hid hn
    clear hn hnk hkm hown hb
    obtain ⟨i0, hi, hz0, hz1, hz2⟩ := info_parts infoByte
    go_wp2_with (at_builtin; refine wpList_append_byt _ rfl _ _ 31 rfl w.heap.size 5 i0 Tryd.underlying31 hi hz0 hz1 hz2 _ 1 [0] rfl OW.out _ A1 n1 k1 _ rfl Y1.out.1 Y1.out.2.1 Y1.out.2.2 (by have := HN1.out; have := HL1.out; omega) B2.out.size ?_; intro v6 y6 ho6 hg6; have B6 := Lib.hid (B2.out.grown hg6 B2.out.size (fun g hg => own_base OW.out hg)); have O6 := Lib.hid ho6; clear ho6 hg6; obtain ⟨A6, c6, rfl⟩ := own_sl11 O6.out)
    first | exact HV.out _ _ _ O6.out B6.out | (go_ret; exact HV.out _ _ _ O6.out B6.out)
  · rw [show pcB ⟨true, fr, ln, lit⟩ = [1] ++ enc fr ++ enc ln from rfl] at HV
    have HP1 := Lib.hid (fun X => put_gives fr X (by omega) (by omega))
    have HP2 := Lib.hid (fun X => put_gives ln X (by omega) (by omega))
    have F1 := Lib.hid (show IntKind.u64.wrap fr = fr from IntWalk.u64_in _ (by omega))
    have F2 := Lib.hid (show IntKind.u64.wrap ln = ln from IntWalk.u64_in _ (by omega))
    have HL1 := Lib.hid (enc_len fr)
    have HL2 := Lib.hid (enc_len ln)
    have k0 : w1.cell? ⟨w.heap.size, 0, none⟩ = some (.bool true) := by rw [hw1, cell_of_row _ _ _ _ _ _ (heap_alloc_new w _)]; rfl
    have K0 := Lib.hid k0
    have k1 : w1.cell? ⟨w.heap.size, 1, none⟩ = some (.int .i64 fr) := by rw [hw1, cell_of_row _ _ _ _ _ _ (heap_alloc_new w _)]; rfl
    have K1 := Lib.hid k1
    have k2 : w1.cell? ⟨w.heap.size, 2, none⟩ = some (.int .i64 ln) := by rw [hw1, cell_of_row _ _ _ _ _ _ (heap_alloc_new w _)]; rfl
    have K2 := Lib.hid k2
    go_enter Tryd.func37, Tryd.ntmps37
    go_wp2_with fail
    rw [← hw1]
    clear hw1
    go_wp2_with fail
    refine wp_region_held_drew (S := fun w' => Below w1.heap.size w1 w') (by kernel_rfl) ((Below.refl w1.heap.size w1).drew) (fun hS => ?_)
    generalize World.drew _ = x0 at *
    refine wpAnyH_take (i := 1) (oi := ⟨some 6, _, _, _, _, _⟩) (v := ?_) rfl (by kernel_rfl) (by kernel_rfl) (by kernel_rfl) (fun _ _ _ h => h) (Or.inl ⟨by rfl, ?_⟩) hS ?_; rotate_left; (focus (intro w9 hSw; (try dsimp only at hSw); go_simp; try with_reducible rfl)); simp only [Act.put, List.setIfInBounds_toArray, List.set_cons_zero, List.set_cons_succ]
    refine wpAnyH_take (i := 2) (oi := ⟨some 7, _, _, _, _, _⟩) (v := ?_) rfl (by kernel_rfl) (by kernel_rfl) (by kernel_rfl) (fun _ _ _ h => h) (Or.inl ⟨by rfl, ?_⟩) hS ?_; rotate_left; (focus (intro w9 hSw; (try dsimp only at hSw); have q0 := (hSw.cell (p := ⟨w.heap.size, 1, none⟩) HLT.out).trans K1.out; go_simp; try with_reducible rfl)); simp only [Act.put, List.setIfInBounds_toArray, List.set_cons_zero, List.set_cons_succ]
    refine wpAnyH_take (i := 3) (oi := ⟨some 8, _, _, _, _, _⟩) (v := (.int .u64 fr)) rfl (by kernel_rfl) (by kernel_rfl) (by kernel_rfl) (fun _ _ _ h => h) (Or.inl ⟨by rfl, ?_⟩) hS ?_; (focus (intro w9 hSw; (try dsimp only at hSw); have q0 := F1.out; go_simp; try rfl)); simp only [Act.put, List.setIfInBounds_toArray, List.set_cons_zero, List.set_cons_succ]
    refine wpAnyH_take (i := 5) (oi := ⟨some 10, _, _, _, _, _⟩) (v := ?_) rfl (by kernel_rfl) (by kernel_rfl) (by kernel_rfl) (fun _ _ _ h => h) (Or.inl ⟨by rfl, ?_⟩) hS ?_; rotate_left; (focus (intro w9 hSw; (try dsimp only at hSw); go_simp; try with_reducible rfl)); simp only [Act.put, List.setIfInBounds_toArray, List.set_cons_zero, List.set_cons_succ]
    refine wpAnyH_take (i := 6) (oi := ⟨some 11, _, _, _, _, _⟩) (v := ?_) rfl (by kernel_rfl) (by kernel_rfl) (by kernel_rfl) (fun _ _ _ h => h) (Or.inl ⟨by rfl, ?_⟩) hS ?_; rotate_left; (focus (intro w9 hSw; (try dsimp only at hSw); have q0 := (hSw.cell (p := ⟨w.heap.size, 2, none⟩) HLT.out).trans K2.out; go_simp; try with_reducible rfl)); simp only [Act.put, List.setIfInBounds_toArray, List.set_cons_zero, List.set_cons_succ]
    refine wpAnyH_take (i := 7) (oi := ⟨some 12, _, _, _, _, _⟩) (v := (.int .u64 ln)) rfl (by kernel_rfl) (by kernel_rfl) (by kernel_rfl) (fun _ _ _ h => h) (Or.inl ⟨by rfl, ?_⟩) hS ?_; (focus (intro w9 hSw; (try dsimp only at hSw); have q0 := F2.out; go_simp; try rfl)); simp only [Act.put, List.setIfInBounds_toArray, List.set_cons_zero, List.set_cons_succ]
    refine wpAnyH_ready (rs := [0, 4]) (by kernel_rfl) (by simp) (AllReadyH.cons (o := ⟨some 5, _, _, _, _, _⟩) rfl (fun K hK => ?_) (AllReadyH.cons (o := ⟨some 9, _, _, _, _, _⟩) rfl (fun K hK => ?_) AllReadyH.nil))
    · go_simp
      have hbn := (Below.refl x0.heap.size x0).alloc (Nat.le_refl _) (.cells #[.int .u8 1] 5)
      have hbx := hS.alloc hS.size (.cells #[.int .u8 1] 5)
      have Y0 := Lib.hid (bs_one11 x0 1)
      have OW := Lib.hid (own_one11 x0 1 (base := w.heap.size) (Nat.le_trans HW1.out hS.size))
      refine hK.out _ _ hbx (fun hS => ?_)
      clear hK K hbn hbx
      try simp only [Act.put, List.setIfInBounds_toArray, List.set_cons_zero, List.set_cons_succ]
      generalize hg0 : x0.heap.size = g0 at *
      generalize x0.alloc (.cells #[.int .u8 1] 5) = x1 at *
      refine wpAnyH_ready (rs := [4]) (by kernel_rfl) (by simp) (AllReadyH.cons (o := ⟨some 9, _, _, _, _, _⟩) rfl (fun K hK => ?_) AllReadyH.nil)
      go_simp
      refine (HP1.out _).mono ?_
      rintro e x2 ⟨A1, n1, k1, rfl, hn, hnk, hkm, hown, hb⟩
      have hbx := hS.trans (hb.mono hS.size)
      have Y1 := Lib.hid (BsAt.own hown)
      have Y0 := Lib.hid (Y0.out.below hb (Nat.le_refl _))
      have OW := Lib.hid (own_below OW.out hb)
      clear hn hnk hkm hown hb hS
      refine hK.out _ _ hbx (fun hS => ?_)
      clear hK K hbx
      try simp only [Act.put, List.setIfInBounds_toArray, List.set_cons_zero, List.set_cons_succ]
      refine wpAnyH_ready (rs := [8]) (by kernel_rfl) (by simp) (AllReadyH.cons (o := ⟨some 13, _, _, _, _, _⟩) rfl (fun K hK => ?_) AllReadyH.nil)
      go_simp
      refine (HP2.out _).mono ?_
      rintro e x3 ⟨A2, n2, k2, rfl, hn, hnk, hkm, hown, hb⟩
      have hbx := hS.trans (hb.mono hS.size)
      have Y2 := Lib.hid (BsAt.own hown)
      have Y0 := Lib.hid (Y0.out.below hb (Nat.le_refl _))
      have Y1 := Lib.hid (Y1.out.below hb (Nat.le_refl _))
      have OW := Lib.hid (own_below OW.out hb)
      clear hn hnk hkm hown hb hS
      refine hK.out _ _ hbx (fun hS => ?_)
      clear hK K hbx
      try simp only [Act.put, List.setIfInBounds_toArray, List.set_cons_zero, List.set_cons_succ]
      refine wpAnyH_ready (rs := [9]) (by kernel_rfl) (by simp) (AllReadyH.cons (o := ⟨some 14, _, _, _, _, _⟩) rfl (fun K hK => ?_) AllReadyH.nil)
      go_simp
      have hbx := hS.alloc hS.size (.cells #[.slice (some ⟨g0, 0, none⟩) 1 1, .slice A1 n1 k1, .slice A2 n2 k2] 31)
      have hba := (Below.refl x3.heap.size x3).alloc (Nat.le_refl _) (.cells #[.slice (some ⟨g0, 0, none⟩) 1 1, .slice A1 n1 k1, .slice A2 n2 k2] 31)
      have hh : (x3.alloc (.cells #[.slice (some ⟨g0, 0, none⟩) 1 1, .slice A1 n1 k1, .slice A2 n2 k2] 31)).heap[x3.heap.size]? = some (.cells #[.slice (some ⟨g0, 0, none⟩) 1 1, .slice A1 n1 k1, .slice A2 n2 k2] 31) := heap_alloc_new x3 _
      have HC := Lib.hid (concat3_any x3.heap.size (some ⟨g0, 0, none⟩) A1 A2 1 n1 n2 1 k1 k2 [1] (enc fr) (enc ln) _ (by simp) (by rw [cell_of_row _ _ _ _ _ _ hh]; rfl) (by rw [cell_of_row _ _ _ _ _ _ hh]; rfl) (by rw [cell_of_row _ _ _ _ _ _ hh]; rfl) (Y0.out.below hba (Nat.le_refl _)) (Y1.out.below hba (Nat.le_refl _)) (Y2.out.below hba (Nat.le_refl _)) (by have := Y1.out.2.1; have := Y2.out.2.1; have := HL1.out; have := HL2.out; omega) (by omega))
      have BW := Lib.hid (HB1.out.trans (hbx.mono HW1.out))
      refine hK.out _ _ hbx (fun hS => ?_)
      clear hK K hba hh hbx
      try simp only [Act.put, List.setIfInBounds_toArray, List.set_cons_zero, List.set_cons_succ]
      generalize x3.alloc (.cells #[.slice (some ⟨g0, 0, none⟩) 1 1, .slice A1 n1 k1, .slice A2 n2 k2] 31) = y5 at *
      refine wpAnyH_ready (rs := [10]) (by kernel_rfl) (by simp) (AllReadyH.cons (o := ⟨some 15, _, _, _, _, _⟩) rfl (fun K hK => ?_) AllReadyH.nil)
      go_simp
      refine HC.out.mono ?_
      rintro e y6 ⟨A6, n6, k6, rfl, hn6, hnk6, hkm6, hown6, hb6⟩
      have hbx := hS.trans (hb6.mono hS.size)
      have B6 := Lib.hid (BW.out.trans (hb6.mono BW.out.size))
      have O6 := Lib.hid (own_lower11 hown6 BW.out.size)
      clear hn6 hnk6 hkm6 hown6 hb6 hS
      refine hK.out _ _ hbx (fun hS => ?_)
      clear hK K
      try simp only [Act.put, List.setIfInBounds_toArray, List.set_cons_zero, List.set_cons_succ]
      refine wpAnyH_take (i := 11) (oi := ⟨some 2, _, _, _, _, _⟩) (v := ?_) rfl (by kernel_rfl) (by kernel_rfl) (by kernel_rfl) (fun _ _ _ h => h) (Or.inl ⟨by rfl, ?_⟩) hS ?_; rotate_left; (focus (intro w9 hSw; (try dsimp only at hSw); go_simp; try with_reducible rfl)); simp only [Act.put, List.setIfInBounds_toArray, List.set_cons_zero, List.set_cons_succ]
      refine wpAnyH_done (by kernel_rfl) ?_ _
      clear hS hbx
      go_wp2
      first | exact HV.out _ _ _ O6.out B6.out | (go_ret; exact HV.out _ _ _ O6.out B6.out) | (refine bodyPost_ret (v := .slice A6 n6 k6) (by simp [results, Tryd.results37]) rfl (HV.out _ _ _ O6.out B6.out))
    · go_simp
      refine (HP1.out _).mono ?_
      rintro e x1 ⟨A1, n1, k1, rfl, hn, hnk, hkm, hown, hb⟩
      have hbx := hS.trans (hb.mono hS.size)
      have Y1 := Lib.hid (BsAt.own hown)
      clear hn hnk hkm hown hb hS
      refine hK.out _ _ hbx (fun hS => ?_)
      clear hK K hbx
      try simp only [Act.put, List.setIfInBounds_toArray, List.set_cons_zero, List.set_cons_succ]
      refine wpAnyH_ready (rs := [0, 8]) (by kernel_rfl) (by simp) (AllReadyH.cons (o := ⟨some 5, _, _, _, _, _⟩) rfl (fun K hK => ?_) (AllReadyH.cons (o := ⟨some 13, _, _, _, _, _⟩) rfl (fun K hK => ?_) AllReadyH.nil))
      · go_simp
        have hbn := (Below.refl x1.heap.size x1).alloc (Nat.le_refl _) (.cells #[.int .u8 1] 5)
        have hbx := hS.alloc hS.size (.cells #[.int .u8 1] 5)
        have Y0 := Lib.hid (bs_one11 x1 1)
        have OW := Lib.hid (own_one11 x1 1 (base := w.heap.size) (Nat.le_trans HW1.out hS.size))
        have Y1 := Lib.hid (Y1.out.below hbn (Nat.le_refl _))
        refine hK.out _ _ hbx (fun hS => ?_)
        clear hK K hbn hbx
        try simp only [Act.put, List.setIfInBounds_toArray, List.set_cons_zero, List.set_cons_succ]
        generalize hg0 : x1.heap.size = g0 at *
        generalize x1.alloc (.cells #[.int .u8 1] 5) = x2 at *
        refine wpAnyH_ready (rs := [8]) (by kernel_rfl) (by simp) (AllReadyH.cons (o := ⟨some 13, _, _, _, _, _⟩) rfl (fun K hK => ?_) AllReadyH.nil)
        go_simp
        refine (HP2.out _).mono ?_
        rintro e x3 ⟨A2, n2, k2, rfl, hn, hnk, hkm, hown, hb⟩
        have hbx := hS.trans (hb.mono hS.size)
        have Y2 := Lib.hid (BsAt.own hown)
        have Y1 := Lib.hid (Y1.out.below hb (Nat.le_refl _))
        have Y0 := Lib.hid (Y0.out.below hb (Nat.le_refl _))
        have OW := Lib.hid (own_below OW.out hb)
        clear hn hnk hkm hown hb hS
        refine hK.out _ _ hbx (fun hS => ?_)
        clear hK K hbx
        try simp only [Act.put, List.setIfInBounds_toArray, List.set_cons_zero, List.set_cons_succ]
        refine wpAnyH_ready (rs := [9]) (by kernel_rfl) (by simp) (AllReadyH.cons (o := ⟨some 14, _, _, _, _, _⟩) rfl (fun K hK => ?_) AllReadyH.nil)
        go_simp
        have hbx := hS.alloc hS.size (.cells #[.slice (some ⟨g0, 0, none⟩) 1 1, .slice A1 n1 k1, .slice A2 n2 k2] 31)
        have hba := (Below.refl x3.heap.size x3).alloc (Nat.le_refl _) (.cells #[.slice (some ⟨g0, 0, none⟩) 1 1, .slice A1 n1 k1, .slice A2 n2 k2] 31)
        have hh : (x3.alloc (.cells #[.slice (some ⟨g0, 0, none⟩) 1 1, .slice A1 n1 k1, .slice A2 n2 k2] 31)).heap[x3.heap.size]? = some (.cells #[.slice (some ⟨g0, 0, none⟩) 1 1, .slice A1 n1 k1, .slice A2 n2 k2] 31) := heap_alloc_new x3 _
        have HC := Lib.hid (concat3_any x3.heap.size (some ⟨g0, 0, none⟩) A1 A2 1 n1 n2 1 k1 k2 [1] (enc fr) (enc ln) _ (by simp) (by rw [cell_of_row _ _ _ _ _ _ hh]; rfl) (by rw [cell_of_row _ _ _ _ _ _ hh]; rfl) (by rw [cell_of_row _ _ _ _ _ _ hh]; rfl) (Y0.out.below hba (Nat.le_refl _)) (Y1.out.below hba (Nat.le_refl _)) (Y2.out.below hba (Nat.le_refl _)) (by have := Y1.out.2.1; have := Y2.out.2.1; have := HL1.out; have := HL2.out; omega) (by omega))
        have BW := Lib.hid (HB1.out.trans (hbx.mono HW1.out))
        refine hK.out _ _ hbx (fun hS => ?_)
        clear hK K hba hh hbx
        try simp only [Act.put, List.setIfInBounds_toArray, List.set_cons_zero, List.set_cons_succ]
        generalize x3.alloc (.cells #[.slice (some ⟨g0, 0, none⟩) 1 1, .slice A1 n1 k1, .slice A2 n2 k2] 31) = y5 at *
        refine wpAnyH_ready (rs := [10]) (by kernel_rfl) (by simp) (AllReadyH.cons (o := ⟨some 15, _, _, _, _, _⟩) rfl (fun K hK => ?_) AllReadyH.nil)
        go_simp
        refine HC.out.mono ?_
        rintro e y6 ⟨A6, n6, k6, rfl, hn6, hnk6, hkm6, hown6, hb6⟩
        have hbx := hS.trans (hb6.mono hS.size)
        have B6 := Lib.hid (BW.out.trans (hb6.mono BW.out.size))
        have O6 := Lib.hid (own_lower11 hown6 BW.out.size)
        clear hn6 hnk6 hkm6 hown6 hb6 hS
        refine hK.out _ _ hbx (fun hS => ?_)
        clear hK K
        try simp only [Act.put, List.setIfInBounds_toArray, List.set_cons_zero, List.set_cons_succ]
        refine wpAnyH_take (i := 11) (oi := ⟨some 2, _, _, _, _, _⟩) (v := ?_) rfl (by kernel_rfl) (by kernel_rfl) (by kernel_rfl) (fun _ _ _ h => h) (Or.inl ⟨by rfl, ?_⟩) hS ?_; rotate_left; (focus (intro w9 hSw; (try dsimp only at hSw); go_simp; try with_reducible rfl)); simp only [Act.put, List.setIfInBounds_toArray, List.set_cons_zero, List.set_cons_succ]
        refine wpAnyH_done (by kernel_rfl) ?_ _
        clear hS hbx
        go_wp2
        first | exact HV.out _ _ _ O6.out B6.out | (go_ret; exact HV.out _ _ _ O6.out B6.out) | (refine bodyPost_ret (v := .slice A6 n6 k6) (by simp [results, Tryd.results37]) rfl (HV.out _ _ _ O6.out B6.out))
      · go_simp
        refine (HP2.out _).mono ?_
        rintro e x2 ⟨A2, n2, k2, rfl, hn, hnk, hkm, hown, hb⟩
        have hbx := hS.trans (hb.mono hS.size)
        have Y2 := Lib.hid (BsAt.own hown)
        have Y1 := Lib.hid (Y1.out.below hb (Nat.le_refl _))
        clear hn hnk hkm hown hb hS
        refine hK.out _ _ hbx (fun hS => ?_)
        clear hK K hbx
        try simp only [Act.put, List.setIfInBounds_toArray, List.set_cons_zero, List.set_cons_succ]
        refine wpAnyH_ready (rs := [0]) (by kernel_rfl) (by simp) (AllReadyH.cons (o := ⟨some 5, _, _, _, _, _⟩) rfl (fun K hK => ?_) AllReadyH.nil)
        go_simp
        have hbn := (Below.refl x2.heap.size x2).alloc (Nat.le_refl _) (.cells #[.int .u8 1] 5)
        have hbx := hS.alloc hS.size (.cells #[.int .u8 1] 5)
        have Y0 := Lib.hid (bs_one11 x2 1)
        have OW := Lib.hid (own_one11 x2 1 (base := w.heap.size) (Nat.le_trans HW1.out hS.size))
        have Y1 := Lib.hid (Y1.out.below hbn (Nat.le_refl _))
        have Y2 := Lib.hid (Y2.out.below hbn (Nat.le_refl _))
        refine hK.out _ _ hbx (fun hS => ?_)
        clear hK K hbn hbx
        try simp only [Act.put, List.setIfInBounds_toArray, List.set_cons_zero, List.set_cons_succ]
        generalize hg0 : x2.heap.size = g0 at *
        generalize x2.alloc (.cells #[.int .u8 1] 5) = x3 at *
        refine wpAnyH_ready (rs := [9]) (by kernel_rfl) (by simp) (AllReadyH.cons (o := ⟨some 14, _, _, _, _, _⟩) rfl (fun K hK => ?_) AllReadyH.nil)
        go_simp
        have hbx := hS.alloc hS.size (.cells #[.slice (some ⟨g0, 0, none⟩) 1 1, .slice A1 n1 k1, .slice A2 n2 k2] 31)
        have hba := (Below.refl x3.heap.size x3).alloc (Nat.le_refl _) (.cells #[.slice (some ⟨g0, 0, none⟩) 1 1, .slice A1 n1 k1, .slice A2 n2 k2] 31)
        have hh : (x3.alloc (.cells #[.slice (some ⟨g0, 0, none⟩) 1 1, .slice A1 n1 k1, .slice A2 n2 k2] 31)).heap[x3.heap.size]? = some (.cells #[.slice (some ⟨g0, 0, none⟩) 1 1, .slice A1 n1 k1, .slice A2 n2 k2] 31) := heap_alloc_new x3 _
        have HC := Lib.hid (concat3_any x3.heap.size (some ⟨g0, 0, none⟩) A1 A2 1 n1 n2 1 k1 k2 [1] (enc fr) (enc ln) _ (by simp) (by rw [cell_of_row _ _ _ _ _ _ hh]; rfl) (by rw [cell_of_row _ _ _ _ _ _ hh]; rfl) (by rw [cell_of_row _ _ _ _ _ _ hh]; rfl) (Y0.out.below hba (Nat.le_refl _)) (Y1.out.below hba (Nat.le_refl _)) (Y2.out.below hba (Nat.le_refl _)) (by have := Y1.out.2.1; have := Y2.out.2.1; have := HL1.out; have := HL2.out; omega) (by omega))
        have BW := Lib.hid (HB1.out.trans (hbx.mono HW1.out))
        refine hK.out _ _ hbx (fun hS => ?_)
        clear hK K hba hh hbx
        try simp only [Act.put, List.setIfInBounds_toArray, List.set_cons_zero, List.set_cons_succ]
        generalize x3.alloc (.cells #[.slice (some ⟨g0, 0, none⟩) 1 1, .slice A1 n1 k1, .slice A2 n2 k2] 31) = y5 at *
        refine wpAnyH_ready (rs := [10]) (by kernel_rfl) (by simp) (AllReadyH.cons (o := ⟨some 15, _, _, _, _, _⟩) rfl (fun K hK => ?_) AllReadyH.nil)
        go_simp
        refine HC.out.mono ?_
        rintro e y6 ⟨A6, n6, k6, rfl, hn6, hnk6, hkm6, hown6, hb6⟩
        have hbx := hS.trans (hb6.mono hS.size)
        have B6 := Lib.hid (BW.out.trans (hb6.mono BW.out.size))
        have O6 := Lib.hid (own_lower11 hown6 BW.out.size)
        clear hn6 hnk6 hkm6 hown6 hb6 hS
        refine hK.out _ _ hbx (fun hS => ?_)
        clear hK K
        try simp only [Act.put, List.setIfInBounds_toArray, List.set_cons_zero, List.set_cons_succ]
        refine wpAnyH_take (i := 11) (oi := ⟨some 2, _, _, _, _, _⟩) (v := ?_) rfl (by kernel_rfl) (by kernel_rfl) (by kernel_rfl) (fun _ _ _ h => h) (Or.inl ⟨by rfl, ?_⟩) hS ?_; rotate_left; (focus (intro w9 hSw; (try dsimp only at hSw); go_simp; try with_reducible rfl)); simp only [Act.put, List.setIfInBounds_toArray, List.set_cons_zero, List.set_cons_succ]
        refine wpAnyH_done (by kernel_rfl) ?_ _
        clear hS hbx
        go_wp2
        first | exact HV.out _ _ _ O6.out B6.out | (go_ret; exact HV.out _ _ _ O6.out B6.out) | (refine bodyPost_ret (v := .slice A6 n6 k6) (by simp [results, Tryd.results37]) rfl (HV.out _ _ _ O6.out B6.out))
set_option maxHeartbeats 8000000 in
theorem put11_any (A : Option Addr) (c : Nat) (l : List Pc) (w : World) (h1 : KPc.row w A c l) (hl : l.length ≤ 10000000) : Calls Tryd.prog 21 #[.slice A l.length c] w (DPutPost w l) := by
  have HB := Lib.hid (Below.refl w.heap.size w)
  have H1 := Lib.hid h1
  have HM := Lib.hid (may11_any A c l w h1 hl)
  have R1 := Lib.hid (fun h => pc_row H1.out h)
  cases hm : pmay l
  · have HV : Hid (∀ e w', e = .returned (.tuple #[.slice none 0 0, .bool false]) ∧ Below w.heap.size w w' → DPutPost w l e w') := Lib.hid (fun e w' h1 => by unfold DPutPost; rw [hm]; exact h1)
    rw [hm] at HM
    generalize DPutPost w l = RR at *
    generalize l.length = n at *
    clear h1 hm
    go_enter Tryd.func21, Tryd.ntmps21
    go_wp2_with fail
    refine HM.out.mono ?_
    rintro e w1 ⟨rfl, hb⟩
    have B1 := Lib.hid hb
    clear hb
    go_wp2
    first | exact HV.out _ _ ⟨rfl, B1.out⟩ | (go_ret2; exact HV.out _ _ ⟨rfl, B1.out⟩)
  obtain ⟨hgood, hl60, _⟩ := pmay_iff.1 hm
  have HV : Hid (∀ v m (zs : List Int) w', zs = pputB l → w'.ownsRow w.heap.size 5 1 v m (zs.map (Value.int .u8)) → Below w.heap.size w w' → DPutPost w l (.returned (.tuple #[v, .bool true])) w') := Lib.hid (fun v m zs w' h0 h1 h2 => by unfold DPutPost; rw [if_pos hm, ← h0]; exact givesT_own h1 h2)
  have HG := Lib.hid hgood
  have HE := Lib.hid (show pputB l = enc l.length ++ l.flatMap pcB from rfl)
  rw [hm] at HM
  generalize DPutPost w l = RR at *
  generalize pputB l = V at *
  generalize hn1 : l.length = n at *
  have HL1 := Lib.hid hn1
  obtain ⟨i0, hi, hz0, hz1, hz2⟩ := info_parts infoByte
  have HP0 := Lib.hid (fun X => put_gives (n : Int) X (by omega) (by omega))
  have hel := enc_len (n : Int)
  have hcv : IntKind.u64.wrap (n : Int) = n := by simp [IntKind.wrap, IntKind.bits, IntKind.signed]; omega
  generalize enc (n : Int) = E0 at *
  clear h1 hn1 hm hgood
  go_enter Tryd.func21, Tryd.ntmps21
  go_wp2_with fail
  refine HM.out.mono ?_
  rintro e w1 ⟨rfl, hb⟩
  have B1 := Lib.hid hb
  clear hb
  go_wp2_with fail
  refine (HP0.out _).mono ?_
  rintro e w2 ⟨A2, n2, c2, rfl, hn2, hnc2, hcm2, ho2, hb2⟩
  have B2 := Lib.hid (B1.out.trans (hb2.mono B1.out.size))
  have O2 := Lib.hid (show w2.ownsRow w.heap.size 5 1 (.slice A2 n2 c2) n2 ((E0 ++ (l.take 0).flatMap pcB).map (Value.int .u8)) by rw [List.take_zero, List.flatMap_nil, List.append_nil]; exact own_lower11 ho2 B1.out.size)
  have HN2 := Lib.hid (show n2 ≤ 10 by omega)
  clear hn2 hnc2 hcm2 ho2 hb2
  go_wp2
  go_loopw [4, 16] (fun v i wr => ∃ k m : Nat, k ≤ n ∧ i = .int .i64 k ∧ m ≤ 10 + 300 * k ∧ wr.ownsRow w.heap.size 5 1 v m ((E0 ++ (l.take k).flatMap pcB).map (Value.int .u8)) ∧ Below w.heap.size w wr) (fun _ i _ => n - (intOf i).toNat)
  case atStart => exact ⟨0, n2, Nat.zero_le _, rfl, HN2.out, O2.out, B2.out⟩
  case round =>
    obtain ⟨k, m, hk, rfl, hm, ho, hb⟩ := hrel
    by_cases hlt : k < n
    · have t2 : (k : Int) < (n : Int) := by omega
      obtain ⟨b1, off1, hA1, hb1w, hx1, hi1⟩ := R1.out (by omega)
      have ix1 := hi1 k hlt k rfl
      rw [← hA1] at ix1
      obtain ⟨c0, c1, c2, c3⟩ := pc_cells (hx1 k hlt)
      have c0 := (hb.cell (p := ⟨b1, off1 + k * 4, none⟩) hb1w).trans c0
      have c1 := (hb.cell (p := ⟨b1, off1 + k * 4 + 1, none⟩) hb1w).trans c1
      have c2 := (hb.cell (p := ⟨b1, off1 + k * 4 + 2, none⟩) hb1w).trans c2
      have c3 := (hb.cell (p := ⟨b1, off1 + k * 4 + 3, none⟩) hb1w).trans c3
      obtain ⟨_, z1, z2, z3⟩ := pc_cells (hx1 k hlt)
      have hg := HG.out (l.getD k pc0) (by rw [List.getD_eq_getElem?_getD, List.getElem?_eq_getElem (by rw [HL1.out]; exact hlt)]; exact List.getElem_mem _)
      obtain ⟨s1, s2, s3, s4, s5, s6, s7⟩ := pcGood_size hg
      have HTK := Lib.hid (show (l.take (k + 1)).flatMap pcB = (l.take k).flatMap pcB ++ pcB (l.getD k pc0) by
        rw [List.take_succ_eq_append_getElem (by rw [HL1.out]; exact hlt), List.flatMap_append, List.flatMap_singleton, List.getD_eq_getElem?_getD, List.getElem?_eq_getElem (by rw [HL1.out]; exact hlt)]
        rfl)
      generalize l.getD k pc0 = x at *
      generalize (l.take k).flatMap pcB = Q at *
      generalize hP : E0 ++ Q = P at *
      have HPE := Lib.hid hP
      generalize off1 + k * 4 = o at *
      obtain ⟨cp, fr, ln, lit⟩ := x
      dsimp only at c0 c1 c2 c3 s1 s2 s3 s4 s5 s6 s7
      have hmb : m ≤ 18010 := by omega
      have HPO := Lib.hid (fun X => putOne_any ⟨cp, fr, ln, lit⟩ X hg)
      simp only [pc_v] at HPO
      have HPL := Lib.hid (pcB_len hg)
      generalize hPB : pcB ⟨cp, fr, ln, lit⟩ = PB at *
      have O3 := Lib.hid (ho.alloc (.cells #[.bool cp, .int .i64 fr, .int .i64 ln, .string lit] 44))
      have B3 := Lib.hid (hb.alloc hb.size (.cells #[.bool cp, .int .i64 fr, .int .i64 ln, .string lit] 44))
      clear hx1 hi1 hA1 hg s1 s2 hP hb1w hPB ho hb
      go_wp2_with fail
      refine (HPO.out _).mono ?_
      rintro e w4 ⟨A4, n4, c4, rfl, hn4, hnc4, hcm4, ho4, hb4⟩
      have B4 := Lib.hid (B3.out.trans (hb4.mono B3.out.size))
      have O4 := Lib.hid (own_below O3.out hb4)
      have Y4 := Lib.hid (Byt.own ho4)
      have ZN4 := Lib.hid (own_none11 ho4)
      have HN4 := Lib.hid hn4
      have hn5 : n4 ≤ 220 := by have := HPL.out; omega
      clear ho4 hb4 hcm4 hnc4 hn4 c0 c1 c2 c3
      go_wp2_with (at_builtin; refine wpList_append_byt _ rfl _ _ 31 rfl w.heap.size 5 i0 Tryd.underlying31 hi hz0 hz1 hz2 _ m P rfl O4.out _ A4 n4 c4 PB rfl Y4.out HN4.out ZN4.out (by omega) B4.out.size ?_; intro v6 w6 ho6 hg6; have O6 := Lib.hid ho6; have B6 := Lib.hid (B4.out.grown hg6 B4.out.size (fun g hg => own_base O4.out hg)); clear ho6 hg6; obtain ⟨A6, c6, rfl⟩ := own_sl11 O6.out)
      go_roundw
      case rel => exact ⟨k + 1, m + n4, by omega, by go_num, by omega, by rw [HTK.out, ← List.append_assoc, HPE.out]; exact O6.out, B6.out⟩
      case measure => simp [intOf]; omega
    · obtain rfl : k = n := by omega
      have t2 : ¬ (k : Int) < (k : Int) := by omega
      have hT : l.take k = l := List.take_of_length_le (by rw [HL1.out]; exact Nat.le_refl _)
      rw [hT, ← HE.out] at ho
      have HO := Lib.hid ho
      have HBB := Lib.hid hb
      clear ho hb hT
      go_wp2
      first | exact HV.out _ _ _ _ rfl HO.out HBB.out | (go_ret2; exact HV.out _ _ _ _ rfl HO.out HBB.out)
end Go.Proofs.YtnencoainacpoaaDoor

end
section
/-
  What the program's own reader of pieces and Get answer. Nothing that was there is written.
-/
namespace Go.Proofs.YtnencoainacpoaaDoor
open Go.RowKit WM
set_option linter.unusedVariables false
set_option maxRecDepth 100000
/-- Block q holds a reader. -/
def RdAt (w : World) (q : Nat) (s : RS) : Prop := ∃ A len cap, w.heap[q]? = some (.cells #[.slice A len cap, .bool s.2] 72) ∧ Byt w q A s.1 ∧ s.1.length = len ∧ len ≤ cap ∧ cap ≤ maxLen ∧ AllBytes s.1
section
variable {w w' : World} {q : Nat} {s : RS}
theorem RdAt.lt (h : RdAt w q s) : q < w.heap.size := by
  obtain ⟨A, len, cap, h, _⟩ := h
  exact (Array.getElem?_eq_some_iff.1 h).1
theorem RdAt.kept {row : Option Nat} (h : RdAt w q s) (hg : w.grownBy w' row) (hr : ∀ k, row = some k → q < k) : RdAt w' q s := by
  have hq := h.lt
  obtain ⟨A, len, cap, h, h1, h2⟩ := h
  refine ⟨A, len, cap, (hg.block q hq (fun e => by have := hr q e.symm; omega)).trans h, h1.move fun p hp => World.cell?_of_block (hg.block p.block (by omega) (fun e => by have := hr _ e.symm; omega)), h2⟩
end
theorem rd_trans {a b c : World} {row : Option Nat} (h : a.grownBy b row) (k : b.grownBy c row) : a.grownBy c row :=
  ⟨k.os.trans h.os, k.tape.trans h.tape, k.output.trans h.output, Nat.le_trans h.size k.size, fun i hi hne => (k.block i (Nat.lt_of_lt_of_le hi h.size) hne).trans (h.block i hi hne)⟩
theorem rd_new {a b c : World} {row row' : Option Nat} (h : a.grownBy b row) (k : b.grownBy c row') (hr : ∀ g, row' = some g → a.heap.size ≤ g) : a.grownBy c row :=
  ⟨k.os.trans h.os, k.tape.trans h.tape, k.output.trans h.output, Nat.le_trans h.size k.size, fun i hi hne => (k.block i (Nat.lt_of_lt_of_le hi h.size) (fun e => by have := hr i e.symm; omega)).trans (h.block i hi hne)⟩
theorem rd_below {a b : World} {B : Nat} {row : Option Nat} (h : Below B a b) (hB : a.heap.size ≤ B) : a.grownBy b row :=
  ⟨h.os, h.tape, h.output, h.size, fun i hi _ => h.block i (by omega)⟩
theorem rd_row {a : World} {b : Nat} {cs : Array Value} : a.grownBy (a.setRow b cs) (some b) :=
  ⟨rfl, rfl, rfl, by simp, fun k _ hk => setRow_other a b k _ (fun e => hk (by rw [e]))⟩
theorem rd_put0 {w : World} {q : Nat} {u v : Value} (h : w.heap[q]? = some (.cells #[u, v] 72)) (x : Value) : (w.setCell ⟨q, 0, none⟩ x).heap[q]? = some (.cells #[x, v] 72) := by
  rw [heap_setCell_same _ _ _ _ _ _ h]
  rfl
theorem rd_put1 {w : World} {q : Nat} {u v : Value} (h : w.heap[q]? = some (.cells #[u, v] 72)) (x : Value) : (w.setCell ⟨q, 1, none⟩ x).heap[q]? = some (.cells #[u, x] 72) := by
  rw [heap_setCell_same _ _ _ _ _ _ h]
  rfl
theorem rd_set (w : World) (q j : Nat) (v : Value) : w.grownBy (w.setCell ⟨q, j, none⟩ v) (some q) := by
  refine ⟨rfl, rfl, rfl, ?_, fun k _ hk => Below.heap_setCell _ _ _ k (fun e => hk (by rw [e]))⟩
  exact ((Below.refl 0 w).setCell (p := ⟨q, j, none⟩) (Nat.zero_le _) v).size
def RdPost (w : World) (q : Nat) (v : Value) (s : RS) (e : Ending) (w' : World) : Prop := e = .returned v ∧ RdAt w' q s ∧ w.grownBy w' (some q)
theorem pass_yes (q k : Nat) (s : RS) (w : World) (h : RdAt w q s) (hk : k ≤ s.1.length) :
    Calls Tryd.prog 54 #[.pointer (some ⟨q, 0, none⟩), .int .i64 k, .bool true] w (RdPost w q (.tuple #[]) (s.1.drop k, s.2)) := by
  obtain ⟨A, len, cap, hq, hby, hl, hlc, hm, hall⟩ := h
  have c0 : w.cell? ⟨q, 0, none⟩ = some (.slice A len cap) := by rw [cell_of_row _ _ _ _ _ _ hq]; rfl
  have f0 : w.frozen? ⟨q, 0, none⟩ = false := frozen_of_row _ _ _ _ _ hq
  have hsl := sl_l A len cap k (by omega) (k : Int) rfl
  have hD := hby.drop (k := k) (cap := cap) (by omega)
  generalize (if cap = k then A else A.map (·.add k)) = A2 at hsl hD
  have HR : Hid (RdAt (w.setCell ⟨q, 0, none⟩ (.slice A2 (len - k) (cap - k))) q (s.1.drop k, s.2)) := Lib.hid ⟨A2, len - k, cap - k, rd_put0 hq _, hD.move fun p hp => World.cell?_of_block ((rd_set w q 0 _).block _ (by have := (Array.getElem?_eq_some_iff.1 hq).1; omega) (fun e => by have := Option.some.inj e; omega)), by rw [List.length_drop, hl], by omega, by omega, all_drop' hall k⟩
  clear hq hby hl hall hD
  go_enter Tryd.func54, Tryd.ntmps54
  go_wp2
  go_end0
  exact ⟨rfl, HR.out, rd_set _ _ _ _⟩
theorem pass_no (q : Nat) (m : Int) (s : RS) (w : World) (h : RdAt w q s) :
    Calls Tryd.prog 54 #[.pointer (some ⟨q, 0, none⟩), .int .i64 m, .bool false] w (RdPost w q (.tuple #[]) ([], false)) := by
  obtain ⟨A, len, cap, hq, hby, hl, hlc, hm, hall⟩ := h
  have f0 : w.frozen? ⟨q, 0, none⟩ = false := frozen_of_row _ _ _ _ _ hq
  have c0 : w.cell? ⟨q, 0, none⟩ = some (.slice A len cap) := by rw [cell_of_row _ _ _ _ _ _ hq]; rfl
  have hq1 := rd_put0 hq (.slice none 0 0)
  have c1 : (w.setCell ⟨q, 0, none⟩ (.slice none 0 0)).cell? ⟨q, 1, none⟩ = some (.bool s.2) := by rw [cell_of_row _ _ _ _ _ _ hq1]; rfl
  have d1 : w.cell? ⟨q, 1, none⟩ = some (.bool s.2) := by rw [cell_of_row _ _ _ _ _ _ hq]; rfl
  have f1 : (w.setCell ⟨q, 0, none⟩ (.slice none 0 0)).frozen? ⟨q, 1, none⟩ = false := frozen_of_row _ _ _ _ _ hq1
  have g1 : w.frozen? ⟨q, 1, none⟩ = false := frozen_of_row _ _ _ _ _ hq
  have HR : Hid (RdAt ((w.setCell ⟨q, 0, none⟩ (.slice none 0 0)).setCell ⟨q, 1, none⟩ (.bool false)) q ([], false)) := Lib.hid ⟨none, 0, 0, rd_put1 hq1 _, fun h => absurd rfl h, rfl, Nat.le_refl _, by decide, fun z hz => by cases hz⟩
  clear hq hq1 hby hl hall
  go_enter Tryd.func54, Tryd.ntmps54
  go_wp2
  refine bodyPost_ret (v := .tuple #[]) (by simp [results, Tryd.results54]) rfl ?_
  exact ⟨rfl, HR.out, rd_trans (rd_set _ _ _ _) (rd_set _ _ _ _)⟩
set_option maxHeartbeats 1000000 in
theorem number_any (q : Nat) (most : Nat) (s : RS) (w : World) (h : RdAt w q s) (hm9 : most ≤ 1000) :
    Calls Tryd.prog 40 #[.pointer (some ⟨q, 0, none⟩), .int .i64 most] w (RdPost w q (.int .i64 (nm most s).1) (nm most s).2) := by
  have h' := h
  obtain ⟨A, len, cap, hq, hby, hl, hlc, hm, hall⟩ := h
  have c0 : w.cell? ⟨q, 0, none⟩ = some (.slice A len cap) := by rw [cell_of_row _ _ _ _ _ _ hq]; rfl
  have HG := Lib.hid (get_any A len cap s.1 w hby hl hall (by omega))
  have hcv : IntKind.u64.wrap (most : Int) = (most : Int) := IntWalk.u64_in _ (by omega)
  cases hd : dec s.1 with
  | none =>
    have HV := Lib.hid (show nm most s = (0, ([], false)) by unfold nm; rw [hd])
    rw [hd] at HG
    unfold getV at HG
    have HP := Lib.hid (pass_no q 0 s w h')
    clear hq hby hl hall h' hd
    go_enter Tryd.func40, Tryd.ntmps40
    go_wp2_with fail
    refine HG.out.mono ?_
    rintro e w1 ⟨rfl, rfl⟩
    go_wp2_with fail
    refine HP.out.mono ?_
    rintro e w2 ⟨rfl, hr, hg⟩
    have HR := Lib.hid hr
    have HGG := Lib.hid hg
    clear hr hg c0
    go_wp2
    go_ret
    show RdPost _ _ _ _ _ _
    rw [HV.out]
    exact ⟨rfl, HR.out, HGG.out⟩
  | some p =>
    obtain ⟨n, k⟩ := p
    obtain ⟨d1, d2, d3, d4, d5⟩ := dec_some hall hd
    rw [hd] at HG
    unfold getV at HG
    by_cases hn : n ≤ most
    · have HV := Lib.hid (show nm most s = (n, (s.1.drop k, s.2)) by unfold nm; rw [hd]; simp only [if_pos hn])
      have HP := Lib.hid (pass_yes q k s w h' d2)
      have hcv2 : IntKind.i64.wrap n = n := IntWalk.i64_in _ (by omega)
      clear hq hby hl hall h' hd d1 d2 d3 d5
      go_enter Tryd.func40, Tryd.ntmps40
      go_wp2_with fail
      refine HG.out.mono ?_
      rintro e w1 ⟨rfl, rfl⟩
      go_wp2_with fail
      refine HP.out.mono ?_
      rintro e w2 ⟨rfl, hr, hg⟩
      have HR := Lib.hid hr
      have HGG := Lib.hid hg
      clear hr hg c0
      go_wp2
      go_ret
      show RdPost _ _ _ _ _ _
      rw [HV.out]
      exact ⟨rfl, HR.out, HGG.out⟩
    · have HV := Lib.hid (show nm most s = (0, ([], false)) by unfold nm; rw [hd]; simp only [if_neg hn])
      have HP0 : ∀ b : Bool, b = false → Calls Tryd.prog 54 #[.pointer (some ⟨q, 0, none⟩), .int .i64 k, .bool b] w (RdPost w q (.tuple #[]) ([], false)) := fun b hb => by subst hb; exact pass_no q k s w h'
      have HP := Lib.hid (HP0 (decide (n ≤ most)) (decide_eq_false hn))
      have HDD := Lib.hid (decide_eq_false hn)
      clear HP0
      clear hq hby hl hall h' hd d1 d2 d3 d5
      go_enter Tryd.func40, Tryd.ntmps40
      go_wp2_with fail
      refine HG.out.mono ?_
      rintro e w1 ⟨rfl, rfl⟩
      go_wp2_with fail
      refine HP.out.mono ?_
      rintro e w2 ⟨rfl, hr, hg⟩
      have HR := Lib.hid hr
      have HGG := Lib.hid hg
      clear hr hg c0
      have hdd := HDD.out
      go_wp2
      go_ret
      show RdPost _ _ _ _ _ _
      rw [HV.out]
      exact ⟨rfl, HR.out, HGG.out⟩
/-! ### results that lie in a block -/
theorem size_pcI (p : Pc) : (Tryd.prog.info? 44).map (·.size) = some (KPc.cs p).toArray.size := by
  obtain ⟨i, hi, _, hs, _⟩ := info_parts infoPc
  rw [hi]
  exact congrArg some hs
theorem ones_pcI (p : Pc) : (KPc.cs p).toArray.all (·.oneCell') = true := by simp [KPc, Pc.cs, Value.oneCell']
theorem build_txtR (s : ByteArray) (w : World) : (Instr.build 44 #[(3, .string s)]).run Tryd.prog w = .ok (.agg #[.bool false, .int .i64 0, .int .i64 0, .string s]) w := run_build w _ _ _ (by kernel_rfl)
theorem build_cpyR (f l : Int) (w : World) : (Instr.build 44 #[(0, .bool true), (1, .int .i64 f), (2, .int .i64 l)]).run Tryd.prog w = .ok (.agg #[.bool true, .int .i64 f, .int .i64 l, .string ⟨#[]⟩]) w := run_build w _ _ _ (by kernel_rfl)
/-- What holds of a block that was laid for a result, and of the reader, as the walk goes on. -/
structure RSt (w : World) (q : Nat) (s : RS) (X : World) : Prop where
  rd : RdAt X q s
  res : X.heap[w.heap.size]? = some (.cells (KPc.cs pc0).toArray 44)
  grown : w.grownBy X (some q)
theorem RSt.new {w : World} {q : Nat} {s : RS} (h : RdAt w q s) : RSt w q s (w.alloc (.cells #[.bool false, .int .i64 0, .int .i64 0, .string ⟨#[]⟩] 44)) :=
  ⟨h.kept (row := none) (rd_below ((Below.refl _ _).alloc (Nat.le_refl _) _) (Nat.le_refl _)) (fun k e => by cases e), heap_alloc_new w _, rd_below ((Below.refl _ _).alloc (Nat.le_refl _) _) (Nat.le_refl _)⟩
theorem RSt.more {w X Y : World} {q : Nat} {s t : RS} (h : RSt w q s X) (hq : q < w.heap.size) (hr : RdAt Y q t) (hg : X.grownBy Y (some q)) : RSt w q t Y :=
  ⟨hr, (hg.block _ (Array.getElem?_eq_some_iff.1 h.res).1 (fun e => by have := Option.some.inj e; omega)).trans h.res, rd_trans h.grown hg⟩
theorem RSt.put {w X : World} {q : Nat} {s : RS} (h : RSt w q s X) (hq : q < w.heap.size) (p : Pc) : RdAt (X.setRow w.heap.size (KPc.cs p).toArray) q s ∧ w.grownBy (X.setRow w.heap.size (KPc.cs p).toArray) (some q) ∧ (X.setRow w.heap.size (KPc.cs p).toArray).heap[w.heap.size]? = some (.cells (KPc.cs p).toArray 44) :=
  ⟨h.rd.kept rd_row (fun k e => by rw [← Option.some.inj e]; exact hq), rd_new h.grown rd_row (fun g e => by rw [← Option.some.inj e]; exact Nat.le_refl _), setRow_heap _ _ _ _ _ _ h.res⟩
set_option maxHeartbeats 4000000 in
theorem text_any (q : Nat) (s : RS) (w : World) (h : RdAt w q s) :
    Calls Tryd.prog 55 #[.pointer (some ⟨q, 0, none⟩)] w (RdPost w q (KPc.v (txr s).1) (txr s).2) := by
  have HQ := Lib.hid h.lt
  have SA := Lib.hid (RSt.new h)
  obtain ⟨A, len, cap, hq, hby, hl, hlc, hm, hall⟩ := SA.out.rd
  have c0 : (w.alloc (.cells #[.bool false, .int .i64 0, .int .i64 0, .string ⟨#[]⟩] 44)).cell? ⟨q, 0, none⟩ = some (.slice A len cap) := by rw [cell_of_row _ _ _ _ _ _ hq]; rfl
  have HG := Lib.hid (read_any A len cap s.1 200 _ hby hl hall hlc hm)
  have hz := zeroPc
  rw [pc_v] at hz
  dsimp only [pc0] at hz
  have HBD := Lib.hid build_txtR
  cases hd : rd s.1 200 with
  | none =>
    have HV := Lib.hid (show txr s = (⟨false, 0, 0, ⟨#[]⟩⟩, ([], false)) by unfold txr; rw [hd])
    rw [hd] at HG
    simp only [readV] at HG
    have HP := Lib.hid (pass_no q 0 s _ SA.out.rd)
    clear hq hby hl hall hd h
    go_enter Tryd.func55, Tryd.ntmps55
    go_wp2_with fail
    refine HG.out.mono ?_
    rintro e w1 ⟨rfl, rfl⟩
    go_wp2_with fail
    refine HP.out.mono ?_
    rintro e w2 ⟨rfl, hr, hg⟩
    have S2 := Lib.hid (SA.out.more HQ.out hr hg)
    have FIN := Lib.hid (S2.out.put HQ.out ⟨false, 0, 0, ⟨#[]⟩⟩)
    have F1 := Lib.hid S2.out.res
    clear hr hg c0
    go_wp2_with (first | ((with_reducible refine wpList_build_at (o := ⟨some 20, .build 44 #[(3, .tmp 19)], _, _, _, _⟩) ?e1 44 #[(3, .tmp 19)] ?e2 #[(3, .string ⟨#[]⟩)] ?e3 _ (HBD.out _ w2) ?_); (case e1 => rfl); (case e2 => rfl); (case e3 => (simp only [List.map_toArray, List.map_cons, List.map_nil]; rfl))) | ((with_reducible refine wpList_store_row (o := ⟨none, .store 44 (.tmp 2) (.tmp 20), _, _, _, _⟩) ?e1 44 (.tmp 2) (.tmp 20) ?e2 w.heap.size (KPc.cs ⟨false, 0, 0, ⟨#[]⟩⟩).toArray ?e3 ?e4 44 _ F1.out (size_pcI _) rfl (ones_pcI _) ?_); (case e1 => rfl); (case e2 => rfl); (case e3 => rfl); (case e4 => rfl)))
    rw [HV.out]
    exact bodyPost_ret (v := KPc.v ⟨false, 0, 0, ⟨#[]⟩⟩) (by exact results_cell_row Tryd.results55 _ _ w.heap.size 44 _ (0, 0) _ rfl FIN.out.2.2 Tryd.underlying44 rfl (size_pcI _)) (by rfl) ⟨rfl, FIN.out.1, FIN.out.2.1⟩
  | some p =>
    obtain ⟨t, k⟩ := p
    obtain ⟨d1, d2, d3, d4, d5⟩ := rd_some hall hd
    have HV := Lib.hid (show txr s = (⟨false, 0, 0, strOfNums t⟩, (s.1.drop k, s.2)) by unfold txr; rw [hd])
    rw [hd] at HG
    simp only [readV] at HG
    have HP := Lib.hid (pass_yes q k s _ SA.out.rd d1)
    clear hq hby hl hall hd h d1 d2 d3 d4 d5
    go_enter Tryd.func55, Tryd.ntmps55
    go_wp2_with fail
    refine HG.out.mono ?_
    rintro e w1 ⟨rfl, rfl⟩
    go_wp2_with fail
    refine HP.out.mono ?_
    rintro e w2 ⟨rfl, hr, hg⟩
    have S2 := Lib.hid (SA.out.more HQ.out hr hg)
    have FIN := Lib.hid (S2.out.put HQ.out ⟨false, 0, 0, strOfNums t⟩)
    have F1 := Lib.hid S2.out.res
    clear hr hg c0
    go_wp2_with (first | ((with_reducible refine wpList_build_at (o := ⟨some 20, .build 44 #[(3, .tmp 19)], _, _, _, _⟩) ?e1 44 #[(3, .tmp 19)] ?e2 #[(3, .string (strOfNums t))] ?e3 _ (HBD.out _ w2) ?_); (case e1 => rfl); (case e2 => rfl); (case e3 => (simp only [List.map_toArray, List.map_cons, List.map_nil]; rfl))) | ((with_reducible refine wpList_store_row (o := ⟨none, .store 44 (.tmp 2) (.tmp 20), _, _, _, _⟩) ?e1 44 (.tmp 2) (.tmp 20) ?e2 w.heap.size (KPc.cs ⟨false, 0, 0, strOfNums t⟩).toArray ?e3 ?e4 44 _ F1.out (size_pcI _) rfl (ones_pcI _) ?_); (case e1 => rfl); (case e2 => rfl); (case e3 => rfl); (case e4 => rfl)))
    rw [HV.out]
    exact bodyPost_ret (v := KPc.v ⟨false, 0, 0, strOfNums t⟩) (by exact results_cell_row Tryd.results55 _ _ w.heap.size 44 _ (0, 0) _ rfl FIN.out.2.2 Tryd.underlying44 rfl (size_pcI _)) (by rfl) ⟨rfl, FIN.out.1, FIN.out.2.1⟩
set_option maxHeartbeats 4000000 in
theorem copy_any (q : Nat) (s : RS) (w : World) (h : RdAt w q s) :
    Calls Tryd.prog 56 #[.pointer (some ⟨q, 0, none⟩)] w (RdPost w q (KPc.v (cpr s).1) (cpr s).2) := by
  have HQ := Lib.hid h.lt
  have SA := Lib.hid (RSt.new h)
  have HC1 := Lib.hid (number_any q 200 s _ SA.out.rd (by decide))
  have HC2 := Lib.hid (fun X (hX : RdAt X q (nm 200 s).2) => number_any q 200 (nm 200 s).2 X hX (by decide))
  have HV := Lib.hid (show cpr s = (⟨true, (nm 200 s).1, (nm 200 (nm 200 s).2).1, ⟨#[]⟩⟩, (nm 200 (nm 200 s).2).2) from rfl)
  generalize cpr s = V at *
  change Hid (∀ X, RdAt X q (nm 200 s).2 → Calls Tryd.prog 40 #[.pointer (some ⟨q, 0, none⟩), .int .i64 200] X (RdPost X q (.int .i64 (nm 200 (nm 200 s).2).1) (nm 200 (nm 200 s).2).2)) at HC2
  change Hid (Calls Tryd.prog 40 #[.pointer (some ⟨q, 0, none⟩), .int .i64 200] _ (RdPost _ q (.int .i64 (nm 200 s).1) (nm 200 s).2)) at HC1
  generalize nm 200 (nm 200 s).2 = y at *
  generalize nm 200 s = x at *
  obtain ⟨f, x⟩ := x
  obtain ⟨g, y⟩ := y
  dsimp only at HC1 HC2 HV
  have hz := zeroPc
  rw [pc_v] at hz
  dsimp only [pc0] at hz
  have HBD := Lib.hid build_cpyR
  clear h
  go_enter Tryd.func56, Tryd.ntmps56
  go_wp2_with fail
  refine HC1.out.mono ?_
  rintro e w1 ⟨rfl, hr, hg⟩
  have S1 := Lib.hid (SA.out.more HQ.out hr hg)
  clear hr hg
  go_wp2_with fail
  refine (HC2.out _ S1.out.rd).mono ?_
  rintro e w2 ⟨rfl, hr, hg⟩
  have S2 := Lib.hid (S1.out.more HQ.out hr hg)
  have FIN := Lib.hid (S2.out.put HQ.out (⟨true, f, g, ⟨#[]⟩⟩ : Pc))
  have F1 := Lib.hid S2.out.res
  clear hr hg
  go_wp2_with (first | ((with_reducible refine wpList_build_at (o := ⟨some 9, .build 44 #[(0, .const (.bool true)), (1, .tmp 6), (2, .tmp 8)], _, _, _, _⟩) ?e1 44 #[(0, .const (.bool true)), (1, .tmp 6), (2, .tmp 8)] ?e2 #[(0, .bool true), (1, .int .i64 f), (2, .int .i64 g)] ?e3 _ (HBD.out _ _ w2) ?_); (case e1 => rfl); (case e2 => rfl); (case e3 => (simp only [List.map_toArray, List.map_cons, List.map_nil]; rfl))) | ((with_reducible refine wpList_store_row (o := ⟨none, .store 44 (.tmp 2) (.tmp 9), _, _, _, _⟩) ?e1 44 (.tmp 2) (.tmp 9) ?e2 w.heap.size (KPc.cs (⟨true, f, g, ⟨#[]⟩⟩ : Pc)).toArray ?e3 ?e4 44 _ F1.out (size_pcI _) rfl (ones_pcI _) ?_); (case e1 => rfl); (case e2 => rfl); (case e3 => rfl); (case e4 => rfl)))
  rw [HV.out]
  exact bodyPost_ret (v := KPc.v (⟨true, f, g, ⟨#[]⟩⟩ : Pc)) (by exact results_cell_row Tryd.results56 _ _ w.heap.size 44 _ (0, 0) _ rfl FIN.out.2.2 Tryd.underlying44 rfl (size_pcI _)) (by rfl) ⟨rfl, FIN.out.1, FIN.out.2.1⟩
set_option maxHeartbeats 4000000 in
theorem piece_any (q : Nat) (s : RS) (w : World) (h : RdAt w q s) :
    Calls Tryd.prog 41 #[.pointer (some ⟨q, 0, none⟩)] w (RdPost w q (KPc.v (pcr s).1) (pcr s).2) := by
  have HQ := Lib.hid h.lt
  have SA := Lib.hid (RSt.new h)
  have HC1 := Lib.hid (number_any q 1 s _ SA.out.rd (by decide))
  have HC2 := Lib.hid (fun X (hX : RdAt X q (nm 1 s).2) => copy_any q (nm 1 s).2 X hX)
  have HC3 := Lib.hid (fun X (hX : RdAt X q (nm 1 s).2) => text_any q (nm 1 s).2 X hX)
  have HV := Lib.hid (show pcr s = if (nm 1 s).1 = 1 then cpr (nm 1 s).2 else txr (nm 1 s).2 from rfl)
  generalize pcr s = V at *
  change Hid (Calls Tryd.prog 40 #[.pointer (some ⟨q, 0, none⟩), .int .i64 1] _ (RdPost _ q (.int .i64 (nm 1 s).1) (nm 1 s).2)) at HC1
  generalize nm 1 s = x at *
  obtain ⟨f, x⟩ := x
  dsimp only at HC1 HC2 HC3 HV
  have hz := zeroPc
  rw [pc_v] at hz
  dsimp only [pc0] at hz
  clear h
  by_cases t1 : f = 1
  · have HW := Lib.hid (show V = cpr x by rw [HV.out, if_pos t1])
    subst t1
    clear HV HC3
    generalize cpr x = y at *
    obtain ⟨p, y⟩ := y
    dsimp only at HC2
    go_enter Tryd.func41, Tryd.ntmps41
    go_wp2_with fail
    refine HC1.out.mono ?_
    rintro e w1 ⟨rfl, hr, hg⟩
    have S1 := Lib.hid (SA.out.more HQ.out hr hg)
    clear hr hg
    go_wp2_with fail
    refine (HC2.out _ S1.out.rd).mono ?_
    rintro e w2 ⟨rfl, hr, hg⟩
    have S2 := Lib.hid (S1.out.more HQ.out hr hg)
    have FIN := Lib.hid (S2.out.put HQ.out p)
    have F1 := Lib.hid S2.out.res
    clear hr hg
    go_wp2_with ((with_reducible refine wpList_store_row (o := ⟨none, .store 44 (.tmp 2) (.tmp 12), _, _, _, _⟩) ?e1 44 (.tmp 2) (.tmp 12) ?e2 w.heap.size (KPc.cs p).toArray ?e3 ?e4 44 _ F1.out (size_pcI _) rfl (ones_pcI _) ?_); (case e1 => rfl); (case e2 => rfl); (case e3 => rfl); (case e4 => rfl))
    rw [HW.out]
    exact bodyPost_ret (v := KPc.v p) (by exact results_cell_row Tryd.results41 _ _ w.heap.size 44 _ (0, 0) _ rfl FIN.out.2.2 Tryd.underlying44 rfl (size_pcI _)) (by rfl) ⟨rfl, FIN.out.1, FIN.out.2.1⟩
  · have HW := Lib.hid (show V = txr x by rw [HV.out, if_neg t1])
    clear HV HC2
    generalize txr x = y at *
    obtain ⟨p, y⟩ := y
    dsimp only at HC3
    go_enter Tryd.func41, Tryd.ntmps41
    go_wp2_with fail
    refine HC1.out.mono ?_
    rintro e w1 ⟨rfl, hr, hg⟩
    have S1 := Lib.hid (SA.out.more HQ.out hr hg)
    clear hr hg
    go_wp2_with fail
    refine (HC3.out _ S1.out.rd).mono ?_
    rintro e w2 ⟨rfl, hr, hg⟩
    have S2 := Lib.hid (S1.out.more HQ.out hr hg)
    have FIN := Lib.hid (S2.out.put HQ.out p)
    have F1 := Lib.hid S2.out.res
    clear hr hg
    go_wp2_with ((with_reducible refine wpList_store_row (o := ⟨none, .store 44 (.tmp 2) (.tmp 12), _, _, _, _⟩) ?e1 44 (.tmp 2) (.tmp 12) ?e2 w.heap.size (KPc.cs p).toArray ?e3 ?e4 44 _ F1.out (size_pcI _) rfl (ones_pcI _) ?_); (case e1 => rfl); (case e2 => rfl); (case e3 => rfl); (case e4 => rfl))
    rw [HW.out]
    exact bodyPost_ret (v := KPc.v p) (by exact results_cell_row Tryd.results41 _ _ w.heap.size 44 _ (0, 0) _ rfl FIN.out.2.2 Tryd.underlying44 rfl (size_pcI _)) (by rfl) ⟨rfl, FIN.out.1, FIN.out.2.1⟩
end Go.Proofs.YtnencoainacpoaaDoor

end
section
/-
  What the program's own Get of pieces answers. Nothing that was there is written.
-/
namespace Go.Proofs.YtnencoainacpoaaDoor
open Go.RowKit WM
set_option linter.unusedVariables false
set_option maxRecDepth 100000
theorem below_drewN9 (w : World) (n : Nat) : Below w.heap.size w (w.drewN n) := (Below.refl w.heap.size w).trans ⟨rfl, rfl, rfl, Nat.le_refl _, fun _ _ => rfl⟩
set_option maxHeartbeats 8000000 in
theorem get11_any (A : Option Addr) (len cap : Nat) (zs : List Int) (w : World) (h : Byt w w.heap.size A zs) (hl : zs.length = len) (hb : AllBytes zs) (hlc : len ≤ cap) (hm : cap ≤ maxLen) (hlen : len ≤ 1000000) : Calls Tryd.prog 23 #[.slice A len cap] w (DGetPost w (pget zs)) := by
  have HN : Hid (∀ w', pget zs = none → Below w.heap.size w w' → DGetPost w (pget zs) (.returned (.tuple #[.slice none 0 0, .int .i64 0, .bool false])) w') := Lib.hid (fun w' h1 h2 => by rw [h1]; exact ⟨rfl, h2⟩)
  have HS : Hid (∀ l a A' c' w', pget zs = some (l, a) → KPc.row w' A' c' l → Below w.heap.size w w' → DGetPost w (pget zs) (.returned (.tuple #[.slice A' l.length c', .int .i64 a, .bool true])) w') := Lib.hid (fun l a A' c' w' h1 h2 h3 => by rw [h1]; exact ⟨A', c', rfl, h2, h3⟩)
  obtain ⟨q, hq⟩ : ∃ q, q = w.heap.size := ⟨_, rfl⟩
  have BA := Lib.hid ((Below.refl w.heap.size w).alloc (Nat.le_refl _) (.cells #[.slice A len cap, .bool true] 72))
  have RA : Hid (RdAt (w.alloc (.cells #[.slice A len cap, .bool true] 72)) q (zs, true)) := Lib.hid ⟨A, len, cap, by rw [hq]; exact heap_alloc_new w _, by rw [hq]; exact h.below BA.out, hl, hlc, hm, hb⟩
  have HC := Lib.hid (number_any q 60 (zs, true) _ RA.out (by decide))
  have HPG := Lib.hid (pget_rget hb)
  have HNO := Lib.hid (nm_ok (m := 60) (s := (zs, true)) (by decide) hb)
  have HHL := Lib.hid hl
  change Hid (Calls Tryd.prog 40 #[.pointer (some ⟨q, 0, none⟩), .int .i64 60] _ (RdPost _ q (.int .i64 (nm 60 (zs, true)).1) (nm 60 (zs, true)).2)) at HC
  generalize nm 60 (zs, true) = x at *
  obtain ⟨n, s1⟩ := x
  dsimp only at HC HPG HNO
  obtain ⟨m, rfl⟩ : ∃ m : Nat, n = m := ⟨n.toNat, by have := HNO.out.1; omega⟩
  rw [Int.toNat_natCast] at HPG
  have hm60 : m ≤ 60 := by have := HNO.out.2.1; omega
  have HSL : Hid (s1.1.length ≤ len) := Lib.hid (by have := HNO.out.2.2.2; rw [hl] at this; exact this)
  generalize DGetPost w (pget zs) = RR at *
  generalize pget zs = V at *
  have HX := Lib.hid (show ∃ x, x = pcrN m s1 [] from ⟨_, rfl⟩)
  have HPC := Lib.hid piece_any
  obtain ⟨i0, hi, hz0, hz1, hz2⟩ := info_parts infoPc
  have hzl : (KPc.v pc0).cells.size = KPc.n := by decide
  clear h hl hb hlc hm
  go_enter Tryd.func23, Tryd.ntmps23
  go_wp2_with fail
  try rw [← hq]
  refine HC.out.mono ?_
  rintro e w2 ⟨rfl, hr, hg⟩
  have R2 := Lib.hid hr
  have B2 := Lib.hid (BA.out.grown hg BA.out.size (fun g e => by rw [← Option.some.inj e, hq]; exact Nat.le_refl _))
  have S2 := Lib.hid (show q + 1 ≤ w2.heap.size from R2.out.lt)
  have HQ := Lib.hid hq
  clear hr hg hq
  go_wp2
  go_loopw [6, 10] (fun v i wr => ∃ (k : Nat) (l : List Pc) (s : RS), k ≤ m ∧ i = .int .i64 k ∧ l.length = k ∧ wr.ownsRow (q + 1) 44 KPc.n v k (l.flatMap KPc.cs) ∧ (∀ p ∈ l, p.Ok) ∧ RdAt wr q s ∧ s.1.length ≤ len ∧ Below w.heap.size w wr ∧ q + 1 ≤ wr.heap.size ∧ pcrN m s1 [] = pcrN (m - k) s l) (fun _ i _ => m - (intOf i).toNat)
  case atStart => exact ⟨0, [], s1, Nat.zero_le _, rfl, rfl, World.ownsRow_nil _ _ _ _, (fun p hp => by cases hp), R2.out, HSL.out, B2.out, S2.out, rfl⟩
  case round =>
    obtain ⟨k, l, s, hk, rfl, hlk, ho, hok, hr, hsl, hb, hsz, hx⟩ := hrel
    have HO := Lib.hid ho
    have HOK := Lib.hid hok
    have HR := Lib.hid hr
    have HBB := Lib.hid hb
    have HSZ := Lib.hid hsz
    have HLK := Lib.hid hlk
    by_cases hlt : k < m
    · have t2 : (k : Int) < (m : Int) := by omega
      obtain ⟨_, _, _, _, _, _, _, _, hall⟩ := hr
      have hpo := pcr_ok hall
      have HX1 := Lib.hid (show pcrN m s1 [] = pcrN (m - (k + 1)) (pcr s).2 (l ++ [(pcr s).1]) by
        rw [hx, show m - k = (m - (k + 1)) + 1 by omega]; rfl)
      have HP := Lib.hid (HPC.out q s wr HR.out)
      generalize pcr s = y at *
      obtain ⟨p, s'⟩ := y
      dsimp only at HX1 HP hpo
      have OKX := Lib.hid (show p.Ok from ⟨wf64_small hpo.1 (by omega), wf64_small hpo.2.2.1 (by omega), by have := hpo.2.2.2.2.1; simp only [maxLen]; omega⟩)
      have HSL' := Lib.hid (show s'.1.length ≤ len from Nat.le_trans hpo.2.2.2.2.2.2 hsl)
      clear ho hok hb hsz hx hall hpo hsl hlk
      go_wp2_with fail
      refine HP.out.mono ?_
      rintro e w3 ⟨rfl, hr3, hg3⟩
      have R3 := Lib.hid hr3
      have B3 := Lib.hid (HBB.out.grown hg3 HBB.out.size (fun g e => by rw [← Option.some.inj e, HQ.out]; exact Nat.le_refl _))
      have O3 := Lib.hid (HO.out.kept hg3 (.inr (fun e => by have := own_base HO.out e; omega)))
      have S3 := Lib.hid (show q + 1 ≤ w3.heap.size from R3.out.lt)
      have O1 := Lib.hid ((O3.out).alloc (.cells (KPc.cs p).toArray 44))
      have BX := Lib.hid (B3.out.alloc B3.out.size (.cells (KPc.cs p).toArray 44))
      have RX := Lib.hid (R3.out.kept (row := none) (rd_below ((Below.refl _ _).alloc (Nat.le_refl _) (.cells (KPc.cs p).toArray 44)) (Nat.le_refl _)) (fun k e => by cases e))
      have R2 := Lib.hid (Kind.row_one (K := KPc) (w := w3) (x := p) (t := 44) OKX.out)
      have VL : Hid (k + 1 ≤ 10000000) := Lib.hid (by omega)
      have VS := Lib.hid (show q + 1 ≤ (w3.alloc (.cells (KPc.cs p).toArray 44)).heap.size by rw [World.size_alloc]; have := S3.out; omega)
      have XL := Lib.hid (show (KPc.cs p).length = KPc.n from rfl)
      clear hr3 hg3
      go_wp2_with (first | ((with_reducible refine wpList_bsliceK (K := KPc) (o := ⟨some 14, .buildSlice 22 1 #[(0, .tmp 13)], _, _, _, _⟩) ?e1 (.tmp 13) ?e2 p ?e3 XL.out Tryd.underlying22 sizePc zeroPc nPc ?_); (case e1 => rfl); (case e2 => rfl); (case e3 => rfl)) | (at_builtin; refine wpList_append_K (K := KPc) _ rfl _ _ 22 rfl (q + 1) 44 i0 _ 40 Tryd.underlying22 hi hz0 hz1 hz2 hzl (by omega) _ k l rfl O1.out (some ⟨w3.heap.size, 0, none⟩) 1 1 [p] (by first | rfl | simp) R2.out rfl VL.out VS.out ?_; intro v4 w4 ho4 hg4; have O4 := Lib.hid ho4; have B4 := Lib.hid (BX.out.grown hg4 BX.out.size (fun g hg => by have := own_base O1.out hg; have := HQ.out; omega)); have R4 := Lib.hid (RX.out.kept hg4 (fun g hg => by have := own_base O1.out hg; omega)); obtain ⟨g14, cap14, rfl⟩ := ownsRow_succ ho4; clear ho4 hg4))
      go_roundw
      case rel => exact ⟨k + 1, l ++ [p], s', by omega, by go_num, by rw [List.length_append, HLK.out]; rfl, O4.out, (fun x hx => (List.mem_append.1 hx).elim (HOK.out x) (fun h => by rw [List.mem_singleton.1 h]; exact OKX.out)), R4.out, HSL'.out, B4.out, R4.out.lt, HX1.out⟩
      case measure => simp [intOf]; omega
    · obtain rfl : k = m := by omega
      have t2 : ¬ (k : Int) < (k : Int) := by omega
      rw [Nat.sub_self] at hx
      have hx2 : pcrN k s1 [] = (l, s) := hx
      rw [hx2] at HPG
      have HV := Lib.hid (show V = rget zs (l, s) from HPG.out)
      obtain ⟨A9, c9, rfl⟩ : ∃ A9 c9, u6 = .slice A9 k c9 := by
        rcases ho.2 with ⟨h1, h2⟩ | ⟨g, cp, cur, h1, _⟩
        · exact ⟨none, 0, by rw [h1, h2]⟩
        · exact ⟨_, cp, h1⟩
      have RW := Lib.hid (show KPc.row wr A9 c9 l from Kind.row_own (K := KPc) (by rw [hlk]; exact ho) hok)
      have HMY := may11_any A9 c9 l wr RW.out (by omega)
      rw [hlk] at HMY
      have HMY := Lib.hid HMY
      obtain ⟨Ar, lr, cr, hqr, _, hlr, _⟩ := hr
      have c0 : wr.cell? ⟨q, 0, none⟩ = some (.slice Ar lr cr) := by rw [cell_of_row _ _ _ _ _ _ hqr]; rfl
      have c1 : wr.cell? ⟨q, 1, none⟩ = some (.bool s.2) := by rw [cell_of_row _ _ _ _ _ _ hqr]; rfl
      have HC0 := Lib.hid c0
      have hlr2 : lr ≤ len := by omega
      have HLR := Lib.hid hlr
      have HFF : Hid (s.2 = false → V = none) := Lib.hid (fun h9 => by rw [HV.out]; unfold rget; rw [if_neg (by rw [h9]; simp)])
      have HFM : Hid (pmay l = false → V = none) := Lib.hid (fun h9 => by rw [HV.out]; unfold rget; rw [if_neg (by rw [h9]; simp)])
      have HFT : Hid (s.2 = true → pmay l = true → V = some (l, len - lr)) := Lib.hid (fun h9 h8 => by rw [HV.out]; unfold rget; rw [if_pos ⟨h9, h8⟩, HHL.out]; dsimp only; rw [HLR.out])
      clear ho hok hb hsz hx hx2 hqr hlr hsl HPG HV
      obtain ⟨zr, ok⟩ := s
      dsimp only at c1 HFF HFM HFT
      cases ok
      · have HVV := Lib.hid (HFF.out rfl)
        go_wp2
        first | exact HN.out _ HVV.out (HBB.out) | (go_ret3; exact HN.out _ HVV.out (HBB.out)) | (refine bodyPost_ret (v := .tuple #[.slice none 0 0, .int .i64 0, .bool false]) (by simp [results, Tryd.results23]) rfl (HN.out _ HVV.out (HBB.out)))
      · cases hmy : pmay l
        · rw [hmy] at HMY
          have HVV := Lib.hid (HFM.out hmy)
          clear hmy
          go_wp2_with fail
          refine HMY.out.mono ?_
          rintro e w9 ⟨rfl, hb9⟩
          have B9 := Lib.hid (HBB.out.trans (hb9.mono HBB.out.size))
          clear hb9 c0 c1
          go_wp2
          first | exact HN.out _ HVV.out (B9.out) | (go_ret3; exact HN.out _ HVV.out (B9.out)) | (refine bodyPost_ret (v := .tuple #[.slice none 0 0, .int .i64 0, .bool false]) (by simp [results, Tryd.results23]) rfl (HN.out _ HVV.out (B9.out)))
        · rw [hmy] at HMY
          have HVV := Lib.hid (HFT.out rfl hmy)
          clear hmy
          go_wp2_with fail
          refine HMY.out.mono ?_
          rintro e w9 ⟨rfl, hb9⟩
          have B9 := Lib.hid (HBB.out.trans (hb9.mono HBB.out.size))
          have R9 := Lib.hid (Kind.row_below RW.out hb9 (Nat.le_refl _))
          have d9 := (hb9.cell (p := ⟨q, 0, none⟩) (by have := HSZ.out; dsimp only; omega)).trans HC0.out
          have FIN := fun nq => HS.out l (len - lr) A9 c9 (w9.drewN nq) HVV.out (Kind.row_below R9.out (below_drewN9 w9 nq) (Nat.le_refl _)) (B9.out.trans ((below_drewN9 w9 nq).mono B9.out.size))
          rw [hlk] at FIN
          have FIN := Lib.hid FIN
          have f1 : IntKind.i64.wrap ((len : Int) - (lr : Int)) = ((len - lr : Nat) : Int) := by rw [IntWalk.i64_in _ (by omega)]; omega
          clear hb9 c0 c1
          go_wp2
          go_quiet (fail)
          try go_wp2
          first | exact FIN.out _ | (go_ret3; exact FIN.out) | (refine bodyPost_ret (v := .tuple #[.slice A9 k c9, .int .i64 ((len - lr : Nat) : Int), .bool true]) (by simp [results, Tryd.results23]) rfl (FIN.out _))
end Go.Proofs.YtnencoainacpoaaDoor

end
