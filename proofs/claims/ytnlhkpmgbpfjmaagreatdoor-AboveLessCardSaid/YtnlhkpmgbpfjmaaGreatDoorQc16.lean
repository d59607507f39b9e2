import Derived.Test.YtnlhkpmgbpfjmaaGreatDoorQc0
import Derived.Test.YtnlhkpmgbpfjmaaGreatDoorQc14
import Derived.Test.YtnlhkpmgbpfjmaaGreatDoorQc10
import Derived.Lib.LazyBuf
import Derived.Maps.OwnSet
import Derived.Maps.Views
import Derived.Maps.Range
import Derived.DeepKeys4
import Derived.Lib.AppendZeros
import Derived.Deep.Draws
import Derived.Test.YtnlhkpmgbpfjmaaGreatDoorQc15
/-
  What the functions that a law of this layer reaches answer, part 16. Nothing that was there is written.
-/
namespace Go.Proofs.YtnlhkpmgbpfjmaaGreatDoor
set_option linter.unusedVariables false
set_option linter.unusedSimpArgs false
section
open Go.RowKit WM
set_option maxRecDepth 100000
def ClonePost (w : World) (fs : List Fld) (e : Ending) (w' : World) : Prop := ∃ A c, e = .returned (.slice A fs.length c) ∧ FsAt w' A c fs ∧ Below w.heap.size w w'
theorem clone_end {w w' : World} {v : Value} {n : Nat} {fs : List Fld} (hl : fs.length = n) (ho : w'.ownsRow w.heap.size 59 4 v n (fs.flatMap Fld.cs)) (hb : Below w.heap.size w w') : ClonePost w fs (.returned v) w' := by
 subst hl
 have ho' := ho
 rcases ho.2 with ⟨rfl, h0⟩ | ⟨g, cap, cur, rfl, _⟩
 ·rw [h0] at ho'
  exact ⟨none, 0, by rw [h0], FsAt.own (base := w.heap.size) (by rw [h0]; exact ho'), hb⟩
 ·exact ⟨_, cap, rfl, FsAt.own ho', hb⟩
set_option maxHeartbeats 1000000 in
theorem fclone_any (A : Option Addr) (len c : Nat) (fs : List Fld) (w : World) (hl : fs.length = len) (h : FsAt w A c fs) (hs : len ≤ 1000) :
  Calls Tryz.prog 89 #[.slice A len c] w (ClonePost w fs) := by
 cases A with
 | none =>
  obtain ⟨h1, h2, h3, _⟩ := h
  have hc := h3 rfl
  subst hc
  have hn : fs = [] := List.eq_nil_of_length_eq_zero (by omega)
  subst hn
  simp at hl
  subst hl
  have HP : Hid (ClonePost w [] (.returned (.slice none 0 0)) w) := Lib.hid ⟨none, 0, rfl, FsAt.nil _ _ _ (by decide) (fun _ => rfl), Below.refl _ _⟩
  have heq : (binOp .eql 34 (.slice none 0 0) (.slice none 0 0)).run Tryz.prog w = .ok (.bool true) w := run_eql_slice_nil w _ 59 none 0 0 Tryz.underlying34
  go_enter Tryz.func89, Tryz.ntmps89
  go_wp2
  go_ret
  exact HP.out
 | some ad =>
  obtain ⟨i0, hi, hz0, hz1, hz2⟩ := info_parts infoFld
  have ho := World.ownsRow_made (base := w.heap.size) (size := 4) (e := 59) w #[] 0 (Nat.le_refl _) (by decide) rfl
  have HA := Lib.hid (h.below ((Below.refl w.heap.size w).alloc (Nat.le_refl _) (.cells #[] 59)) (Nat.le_refl _))
  have HL := Lib.hid hl
  have HB := Lib.hid ((Below.refl w.heap.size w).alloc (Nat.le_refl _) (.cells #[] 59))
  have heq : (binOp .eql 34 (.slice (some ad) len c) (.slice none 0 0)).run Tryz.prog w = .ok (.bool false) w := run_eql_slice_nil w _ 59 (some ad) len c Tryz.underlying34
  clear h hl
  go_enter Tryz.func89, Tryz.ntmps89
  go_wp2_with (at_builtin; refine wpList_append_fld _ rfl _ _ 34 rfl w.heap.size 59 i0 Tryz.underlying34 hi hz0 hz1 hz2 _ 0 [] rfl ho (some ad) len c fs rfl HA.out HL.out (by omega) (by simp) ?_; intro v2 w2 ho2 hg2)
  go_ret
  exact clone_end (by rw [HL.out]; omega) ho2 (HB.out.grown hg2 (by simp) (fun g hg => own_base ho hg))
theorem XAt.put {w : World} {b : Nat} {x : RcA} (h : XAt w b x) (A : Option Addr) (c : Nat) : XAt (w.setCell ⟨b, 18, none⟩ (.slice A x.R.fs.length c)) b ⟨x.R, A, c⟩ := h.rc.put _
def OwnPost (w : World) (R : Rc) (e : Ending) (w' : World) : Prop := ∃ y : RcA, e = .returned (.agg y.cells) ∧ y.R = R ∧ RvAt w' y ∧ Below w.heap.size w w'
theorem res_x {fn : Func} {p : Tmp} (h : fn.results = #[.cell p 36]) {tmps : Array Value} {w : World} {b : Nat} {x : RcA} (hp : tmps.getD p undef = .pointer (some ⟨b, 0, none⟩)) (hs : XAt w b x) :
  (results fn tmps).run Tryz.prog w = .ok (.agg x.cells) w := res_rc h hp hs.rc
theorem res_x2 {fn : Func} {p q : Tmp} (h : fn.results = #[.cell p 36, .tmp q]) {tmps : Array Value} {w : World} {b : Nat} {x : RcA} (hp : tmps.getD p undef = .pointer (some ⟨b, 0, none⟩)) (hs : XAt w b x) :
  (results fn tmps).run Tryz.prog w = .ok (.tuple #[.agg x.cells, tmps.getD q undef]) w := res_rc2 h hp hs.rc
set_option maxHeartbeats 2000000 in
theorem own_any (x : RcA) (w : World) (h : RvAt w x) (hs : x.R.fs.length ≤ 1000) : Calls Tryz.prog 57 #[.agg x.cells] w (OwnPost w x.R) := by
 have ZX := Lib.hid h.len
 have S0 := Lib.hid ((XAt.new w h.len).old (.cells rcA0.cells 36))
 have s1 := XAt.new (x := rcA0) (w.alloc (.cells x.cells 36)) z16_len
 rw [World.size_alloc] at s1
 have S1 := Lib.hid s1
 have HB := Lib.hid (((Below.refl w.heap.size w).alloc (Nat.le_refl _) (.cells x.cells 36)).alloc (by simp) (.cells rcA0.cells 36))
 have s0 := S0.out.c18
 have HC := Lib.hid (fclone_any x.A _ x.c x.R.fs _ rfl (h.2.below HB.out (Nat.le_refl _)) hs)
 unfold ClonePost at HC
 have HOK := Lib.hid h.1
 have hz := zeroX
 clear s1 h
 go_enter Tryz.func57, Tryz.ntmps57
 go_wp2_with fail
 refine HC.out.mono ?_
 rintro e w1 ⟨A', c', rfl, hF, hb⟩
 have T0 := S0.out.below hb S0.out.lt
 have T1 := Lib.hid (S1.out.below hb S1.out.lt)
 have HB1 := Lib.hid (HB.out.trans (hb.mono HB.out.size))
 have f18 := T0.fz 18
 have d18 := T0.c18
 have S0K := Lib.hid T0
 have T2 := T0.put A' c'
 have TL := Lib.hid T2.load
 have T3 := Lib.hid (show XAt (w1.setCell ⟨w.heap.size, 18, none⟩ (.slice A' x.R.fs.length c')) (w.heap.size + 1) rcA0 from T1.out.same (Below.heap_setCell _ _ _ _ (show w.heap.size + 1 ≠ w.heap.size by omega)))
 have HB2 := Lib.hid (HB1.out.setCell (p := ⟨w.heap.size, 18, none⟩) (Nat.le_refl _) (.slice A' x.R.fs.length c'))
 have HF := Lib.hid (show RvAt w1 (⟨x.R, A', c'⟩ : RcA) from ⟨HOK.out, hF⟩)
 have HBB := Lib.hid hb
 clear T0 T2 hb hF
 go_wp2_with (first | ((with_reducible refine wpList_load_by (o := ⟨some 7, .load 36 (.tmp 1), _, _, _, _⟩) ?e1 36 (.tmp 1) ?e2 ⟨w.heap.size, 0, none⟩ ?e3 _ TL.out ?_); (case e1 => rfl); (case e2 => rfl); (case e3 => rfl)) | ((with_reducible refine wpList_store_oldx (o := ⟨none, .store 36 (.tmp 2) (.tmp 7), _, _, _, _⟩) ?e1 (.tmp 2) (.tmp 7) ?e2 (w.heap.size + 1) _ T3.out ?e3 (⟨x.R, A', c'⟩ : RcA) ?e4 ZX.out ?_); (case e1 => rfl); (case e2 => rfl); (case e3 => rfl); (case e4 => rfl); intro w2 hg2 hx2; have G2 := Lib.hid hg2; have X2 := Lib.hid hx2; clear hg2 hx2))
 refine bodyPost_ret (v := .agg (⟨x.R, A', c'⟩ : RcA).cells) ?_ rfl ?_
 ·exact res_x Tryz.results57 rfl X2.out
 ·exact ⟨⟨x.R, A', c'⟩, rfl, rfl, (HF.out.kept_x (grownBy_setCell18 w1 w.heap.size 18 _) S0K.out).kept_x G2.out T3.out, HB2.out.grown G2.out HB2.out.size (fun k e => by have := Option.some.inj e; omega)⟩
theorem bat_drop {xs : List RcA} {k : Nat} (z : List Int) (hk : k < xs.length) : bat ((xs.drop k).map (·.R)) z = if (xs.getD k rcA0).R.z = z then some (xs.getD k rcA0).R else bat ((xs.drop (k + 1)).map (·.R)) z := by
 rw [List.drop_eq_getElem_cons hk, List.map_cons, bat_cons]
 simp only [List.getD, List.getElem?_eq_getElem hk, Option.getD_some]
def BFindPost (w : World) (o : Option Rc) (e : Ending) (w' : World) : Prop := ∃ y : RcA, e = .returned (.tuple #[.agg y.cells, .bool o.isSome]) ∧ y.R = o.getD rc0 ∧ RvAt w' y ∧ Below w.heap.size w w'
theorem IdAt.below {w w' : World} {b B : Nat} {z : List Int} (h : IdAt w b z) (hb : Below B w w') (hB : b < B) : IdAt w' b z := ⟨h.1, (hb.block b hB).trans h.2⟩
theorem IdAt.lt {w : World} {b : Nat} {z : List Int} (h : IdAt w b z) : b < w.heap.size := (Array.getElem?_eq_some_iff.1 h.2).1
theorem IdAt.old {w : World} {b : Nat} {z : List Int} (h : IdAt w b z) (o : Obj) : IdAt (w.alloc o) b z := h.below ((Below.refl w.heap.size w).alloc (Nat.le_refl _) o) h.lt
theorem IdAt.new (w : World) {z : List Int} (h : z.length = 16) : IdAt (w.alloc (.cells (bvals z) 31)) w.heap.size z := ⟨h, heap_alloc_new w _⟩
set_option maxHeartbeats 4000000 in
theorem bfind_any (b : Bk) (z : List Int) (w : World) (h : BkAt w b) (hz16 : z.length = 16) (hzb : AllBytes z) (hs : ∀ x ∈ b.xs, x.R.fs.length ≤ 1000) :
  Calls Tryz.prog 25 #[.agg #[.slice b.A b.xs.length b.c], .agg (bvals z)] w (BFindPost w (bat b.rs z)) := by
 obtain ⟨xs, A, c⟩ := b
 dsimp only at h hs ⊢
 unfold Bk.rs
 dsimp only
 have HRV := Lib.hid (fun i (hi : i < xs.length) => RsAt.rv h hi)
 have HSZ := Lib.hid (fun i (hi : i < xs.length) => show (xs.getD i rcA0).R.fs.length ≤ 1000 by rw [List.getD_eq_getElem?_getD, List.getElem?_eq_getElem hi]; exact hs _ (List.getElem_mem hi))
 obtain ⟨hc1, hc2, hc3, hcell, _⟩ := h
 dsimp only at hc1 hc2 hc3 hcell HRV
 simp only [maxLen] at hc2
 have HC := Lib.hid hcell
 have s0 := ((BoAt.new w (.slice A xs.length c)).old (.cells (bvals z) 31)).old (.cells rcA0.cells 36)
 have c00 := s0.c0
 have i1 := IdAt.new (w.alloc (.cells #[.slice A xs.length c] 24)) hz16
 rw [World.size_alloc] at i1
 have i2 := i1.old (.cells rcA0.cells 36)
 have x1 := XAt.new (x := rcA0) ((w.alloc (.cells #[.slice A xs.length c] 24)).alloc (.cells (bvals z) 31)) z16_len
 rw [World.size_alloc, World.size_alloc] at x1
 have HB := Lib.hid ((((Below.refl w.heap.size w).alloc (Nat.le_refl _) (.cells #[.slice A xs.length c] 24)).alloc (by simp) (.cells (bvals z) 31)).alloc (by simp; omega) (.cells rcA0.cells 36))
 have H1 := Lib.hid (And.intro i2 x1)
 have hz := zeroX
 have hb0 := build0
 have HV := Lib.hid (show bat (xs.map (·.R)) z = bat ((xs.drop 0).map (·.R)) z by rw [List.drop_zero])
 have HZB := Lib.hid (And.intro hz16 hzb)
 generalize bat (xs.map (·.R)) z = V at HV ⊢
 generalize hlen : xs.length = len at *
 have HLN := Lib.hid hlen
 clear hcell i1 i2 x1 s0 hlen hz16 hzb hs
 go_enter Tryz.func25, Tryz.ntmps25
 go_wp2
 clear c00
 go_loopw [11] (fun i wr => ∃ k : Nat, k ≤ len ∧ i = .int .i64 k ∧ IdAt wr (w.heap.size + 1) z ∧ XAt wr (w.heap.size + 1 + 1) rcA0 ∧ Below w.heap.size w wr ∧ V = bat ((xs.drop k).map (·.R)) z) (fun i _ => len - (intOf i).toNat)
 case atStart => exact ⟨0, Nat.zero_le _, rfl, H1.out.1, H1.out.2, HB.out, HV.out⟩
 case round =>
  obtain ⟨k, hk, rfl, hi, hx0, hb, hf⟩ := hrel
  by_cases hlt : k < len
  ·obtain ⟨b0, off, rfl, hbB, hcc⟩ := HC.out (by omega)
   have hx := (hcc k hlt).same (hb.block b0 hbB)
   have IX := ix_rec b0 off len c k hlt k rfl
   have hvx := (HRV.out k hlt).below hb (Nat.le_refl _)
   have hsx := HSZ.out k hlt
   rw [bat_drop z (by rw [HLN.out]; exact hlt)] at hf
   generalize xs.getD k rcA0 = x at *
   generalize off + k * 19 = ox at *
   have LX := Lib.hid hx.load
   have HVX := Lib.hid hvx
   have HSX := Lib.hid hsx
   have ZX := Lib.hid hvx.len
   have HBB := Lib.hid (And.intro hi (And.intro hx0 hb))
   have HE := eq_id hvx.1.2 HZB.out.2 hvx.len HZB.out.1
   clear hcc hx hvx hsx hi hx0 hb
   by_cases he : x.R.z = z
   ·rw [if_pos he] at hf
    have hq : (x.R.z == z) = true := by rw [beq_iff_eq]; exact he
    rw [hq] at HE
    have HF := Lib.hid hf
    have HEQ := Lib.hid he
    clear hf he hq
    go_wp2_with (first | ((with_reducible refine wpList_load_by (o := ⟨some 14, .load 36 (.tmp 13), _, _, _, _⟩) ?e1 36 (.tmp 13) ?e2 ⟨b0, ox, none⟩ ?e3 _ LX.out ?_); (case e1 => rfl); (case e2 => rfl); (case e3 => rfl)) | ((with_reducible refine wpList_store_newx (o := ⟨none, .store 36 (.tmp 7) (.tmp 14), _, _, _, _⟩) (w := wr) ?e1 (.tmp 7) (.tmp 14) ?e2 wr.heap.size ?e0 ?e3 x ?e4 ZX.out ?_); (case e1 => rfl); (case e2 => rfl); (case e0 => rfl); (case e3 => rfl); (case e4 => rfl); intro w2 hb2 hx2 hs2; have X2 := Lib.hid hx2; have HW2 := Lib.hid hb2; have LI := Lib.hid hx2.load_id; have LJ := Lib.hid (load_arr16 (HBB.out.1.below hb2 HBB.out.1.lt)); have LX2 := Lib.hid hx2.load; have HO := Lib.hid (own_any x w2 (HVX.out.below hb2 (Nat.le_refl _)) HSX.out); unfold OwnPost at HO; clear hx2 hb2 hs2) | ((with_reducible refine wpList_load_by (o := ⟨some 16, .load 31 (.tmp 15), _, _, _, _⟩) ?e1 31 (.tmp 15) ?e2 ⟨wr.heap.size, 0, none⟩ ?e3 _ LI.out ?_); (case e1 => rfl); (case e2 => rfl); (case e3 => rfl)) | ((with_reducible refine wpList_load_by (o := ⟨some 17, .load 31 (.tmp 3), _, _, _, _⟩) ?e1 31 (.tmp 3) ?e2 ⟨(w.heap.size + 1), 0, none⟩ ?e3 _ LJ.out ?_); (case e1 => rfl); (case e2 => rfl); (case e3 => rfl)) | ((with_reducible refine wpList_load_by (o := ⟨some 19, .load 36 (.tmp 7), _, _, _, _⟩) ?e1 36 (.tmp 7) ?e2 ⟨wr.heap.size, 0, none⟩ ?e3 _ LX2.out ?_); (case e1 => rfl); (case e2 => rfl); (case e3 => rfl)))
    refine HO.out.mono ?_
    rintro e w3 ⟨y, rfl, hyR, hy, hb3⟩
    have XR := Lib.hid ((HBB.out.2.1.below HW2.out HBB.out.2.1.lt).below hb3 (Nat.lt_of_lt_of_le HBB.out.2.1.lt HW2.out.size))
    have B3 := Lib.hid (HBB.out.2.2.trans ((HW2.out.trans (hb3.mono HW2.out.size)).mono HBB.out.2.2.size))
    have HYR := Lib.hid hyR
    have HY := Lib.hid hy
    have ZY := Lib.hid hy.len
    clear hyR hy hb3
    go_wp2_with (first | ((with_reducible refine wpList_store_oldx (o := ⟨none, .store 36 (.tmp 4) (.tmp 20), _, _, _, _⟩) ?e1 (.tmp 4) (.tmp 20) ?e2 (w.heap.size + 1 + 1) _ XR.out ?e3 y ?e4 ZY.out ?_); (case e1 => rfl); (case e2 => rfl); (case e3 => rfl); (case e4 => rfl); intro w2 hg2 hx2; have G4 := Lib.hid hg2; have X4 := Lib.hid hx2; clear hg2 hx2))
    refine bodyPost_ret (v := .tuple #[.agg y.cells, .bool true]) ?_ rfl ?_
    ·exact res_x2 Tryz.results25 rfl X4.out
    ·rw [HF.out]
     exact ⟨y, rfl, HYR.out, HY.out.kept_x G4.out XR.out, B3.out.grown G4.out B3.out.size (fun k e => by have := Option.some.inj e; omega)⟩
   ·rw [if_neg he] at hf
    have hq : (x.R.z == z) = false := by rw [beq_eq_false_iff_ne]; exact he
    rw [hq] at HE
    have HF := Lib.hid hf
    clear hf he hq
    go_wp2_with (first | ((with_reducible refine wpList_load_by (o := ⟨some 14, .load 36 (.tmp 13), _, _, _, _⟩) ?e1 36 (.tmp 13) ?e2 ⟨b0, ox, none⟩ ?e3 _ LX.out ?_); (case e1 => rfl); (case e2 => rfl); (case e3 => rfl)) | ((with_reducible refine wpList_store_newx (o := ⟨none, .store 36 (.tmp 7) (.tmp 14), _, _, _, _⟩) (w := wr) ?e1 (.tmp 7) (.tmp 14) ?e2 wr.heap.size ?e0 ?e3 x ?e4 ZX.out ?_); (case e1 => rfl); (case e2 => rfl); (case e0 => rfl); (case e3 => rfl); (case e4 => rfl); intro w2 hb2 hx2 hs2; have HW2 := Lib.hid hb2; have LI := Lib.hid hx2.load_id; have I2 := Lib.hid (HBB.out.1.below hb2 HBB.out.1.lt); have LJ := Lib.hid (load_arr16 I2.out); have X02 := Lib.hid (HBB.out.2.1.below hb2 HBB.out.2.1.lt); have B2 := Lib.hid (HBB.out.2.2.trans (hb2.mono HBB.out.2.2.size)); clear hx2 hb2 hs2) | ((with_reducible refine wpList_load_by (o := ⟨some 16, .load 31 (.tmp 15), _, _, _, _⟩) ?e1 31 (.tmp 15) ?e2 ⟨wr.heap.size, 0, none⟩ ?e3 _ LI.out ?_); (case e1 => rfl); (case e2 => rfl); (case e3 => rfl)) | ((with_reducible refine wpList_load_by (o := ⟨some 17, .load 31 (.tmp 3), _, _, _, _⟩) ?e1 31 (.tmp 3) ?e2 ⟨(w.heap.size + 1), 0, none⟩ ?e3 _ LJ.out ?_); (case e1 => rfl); (case e2 => rfl); (case e3 => rfl)))
    go_roundw
    case rel => exact ⟨k + 1, by omega, by go_num, I2.out, X02.out, B2.out, HF.out⟩
    case measure => simp [intOf]; omega
  ·obtain rfl : k = len := by omega
   rw [List.drop_eq_nil_of_le (by rw [HLN.out]; exact Nat.le_refl _), List.map_nil, bat_nil] at hf
   have HF := Lib.hid hf
   have HBB := Lib.hid hb
   have XR := Lib.hid hx0
   have ZY := Lib.hid (show rcA0.R.z.length = 16 from z16_len)
   clear hf hi hx0 hb
   go_wp2_with (first | ((with_reducible refine wpList_store_oldx (o := ⟨none, .store 36 (.tmp 4) (.tmp 22), _, _, _, _⟩) ?e1 (.tmp 4) (.tmp 22) ?e2 (w.heap.size + 1 + 1) _ XR.out ?e3 rcA0 ?e4 ZY.out ?_); (case e1 => rfl); (case e2 => rfl); (case e3 => rfl); (case e4 => rfl); intro w2 hg2 hx2; have G4 := Lib.hid hg2; have X4 := Lib.hid hx2; clear hg2 hx2))
   refine bodyPost_ret (v := .tuple #[.agg rcA0.cells, .bool false]) ?_ rfl ?_
   ·exact res_x2 Tryz.results25 rfl X4.out
   ·rw [HF.out]
    exact ⟨rcA0, rfl, rfl, RvAt.zero _, HBB.out.grown G4.out HBB.out.size (fun k e => by have := Option.some.inj e; omega)⟩
end
section
section
open Go.RowKit WM
set_option maxRecDepth 100000
theorem keyID : Maps.Keyed Tryz.prog 31 :=
 Maps.Keyed.of_law (deep_law (m := 2) (by decide) (by kernel_rfl) (by kernel_rfl) (by rw [Tryz.underlying31]))
theorem keyLaw : WideMaps.KeyLaw Tryz.prog 31 := deep_law (m := 2) (by decide) (by kernel_rfl) (by kernel_rfl) (by rw [Tryz.underlying31])
theorem mapM_gives {α β : Type} {f : α → Option β} {g : α → β} : ∀ (l : List α), (∀ x ∈ l, f x = some (g x)) → l.mapM f = some (l.map g)
 | [], _ => rfl
 | x :: l, h => by
  rw [List.mapM_cons, h x (by simp), mapM_gives l (fun y hy => h y (by simp [hy]))]
  rfl
theorem key_id {z : List Int} (h : z.length = 16) (hb : AllBytes z) : ∃ l, keyOf Tryz.prog 31 (.agg (bvals z)) = some l := by
 have c1 : Tryz.prog.cellsOf 5 = 1 := by kernel_rfl
 have c16 : Tryz.prog.cellsOf 31 = 16 := by kernel_rfl
 have kt : Tryz.prog.keyType 31 = true := by kernel_rfl
 have hl : (bvals z).size = 16 := by simp [bvals, h]
 have kb : ∀ d, ∃ ls, Tryz.prog.keyLits (d + 2) 31 (bvals z).toList = some ls := fun d => by
  unfold Program.keyLits
  rw [Tryz.underlying31]
  dsimp only
  rw [if_pos (by rw [Array.length_toList, hl, c16])]
  rw [mapM_gives (g := fun i => [Lit.int .u8 (z.getD i 0)]) _ (fun i hi => ?_)]
  ·exact ⟨_, rfl⟩
  ·have hi : i < 16 := by simpa using hi
   have e : ((bvals z).toList.drop (i * Tryz.prog.cellsOf 5)).take (Tryz.prog.cellsOf 5) = [.int .u8 (z.getD i 0)] := by
    rw [c1, Nat.mul_one]
    apply List.ext_getElem?
    intro j
    cases j with
    | zero => simp [bvals, List.getD, List.getElem?_eq_getElem (show i < z.length by omega)]
    | succ j => rw [List.getElem?_eq_none (by simp; omega), List.getElem?_eq_none (by simp)]
   rw [e]
   have hz := hb (z.getD i 0) (by rw [List.getD_eq_getElem?_getD, List.getElem?_eq_getElem (show i < z.length by omega)]; exact List.getElem_mem _)
   unfold Program.keyLits
   rw [Tryz.underlying5]
   dsimp only
   rw [if_pos]
   refine ⟨rfl, ?_⟩
   generalize z.getD i 0 = q at *
   simp [Lit.wf, IntKind.min, IntKind.max, IntKind.bits, IntKind.signed]
   omega
 have hs : ∃ d, Tryz.prog.types.size + 1 = d + 2 := ⟨Tryz.prog.types.size - 1, by have : 1 ≤ Tryz.prog.types.size := of_decide_eq_true (by kernel_rfl); omega⟩
 obtain ⟨d, hd⟩ := hs
 obtain ⟨ls, hls⟩ := kb d
 refine ⟨.string (keyBytes ls), ?_⟩
 ·unfold keyOf
  rw [Tryz.underlying31]
  dsimp only
  rw [if_pos (by rw [kt]; simp [Value.formed, Tryz.underlying31, hl, c16]), hd]
  show ((Tryz.prog.keyLits (d + 2) 31 (bvals z).toList).map fun ls => Lit.string (keyBytes ls)) = _
  rw [hls]
  rfl
theorem bvals_inj {x y : List Int} (h : bvals x = bvals y) : x = y := by
 have h2 := congrArg Array.toList h
 simp only [bvals] at h2
 have h3 : (x.map (Value.int .u8)).map intOf = (y.map (Value.int .u8)).map intOf := congrArg (List.map intOf) h2
 rw [List.map_map, List.map_map] at h3
 simpa [Function.comp_def, intOf] using h3
theorem key_ne {x y : List Int} {k l : Lit} (hx : keyOf Tryz.prog 31 (.agg (bvals x)) = some k) (hy : keyOf Tryz.prog 31 (.agg (bvals y)) = some l) (h : x ≠ y) : k ≠ l := by
 rintro rfl
 have := keyLaw.inj hx hy
 injection this with this
 exact h (bvals_inj this)
def heldR (v : Value) : Option (DataW Value × List MemPlace) := some (.held v, [])
def xat (es : List RcA) (z : List Int) : Option RcA := es.find? fun x => decide (x.R.z = z)
theorem xat_bat (es : List RcA) (z : List Int) : bat (es.map (·.R)) z = (xat es z).map (·.R) := by
 unfold bat xat
 rw [List.find?_map]
 rfl
theorem xat_some {es : List RcA} {z : List Int} {x : RcA} (h : xat es z = some x) : x ∈ es ∧ x.R.z = z := ⟨List.mem_of_find?_eq_some h, by simpa using List.find?_some h⟩
theorem xat_cons (x : RcA) (es : List RcA) (z : List Int) : xat (x :: es) z = if x.R.z = z then some x else xat es z := by
 unfold xat
 rw [List.find?_cons]
 by_cases h : x.R.z = z <;> simp [h]
theorem xat_none {es : List RcA} {z : List Int} : xat es z = none ↔ ∀ x ∈ es, x.R.z ≠ z := by
 unfold xat
 rw [List.find?_eq_none]
 simp
theorem xat_mem : ∀ {es : List RcA}, (es.map (·.R.z)).Nodup → ∀ {x : RcA}, x ∈ es → xat es x.R.z = some x
 | [], _, x, h => by cases h
 | y :: ys, hn, x, h => by
  rw [List.map_cons, List.nodup_cons] at hn
  rw [xat_cons]
  rcases List.mem_cons.1 h with rfl | h
  ·rw [if_pos rfl]
  ·rw [if_neg (fun e => hn.1 (by rw [e]; exact List.mem_map_of_mem h)), xat_mem hn.2 h]
def xput (es : List RcA) (y : RcA) : List RcA := match xat es y.R.z with | none => es ++ [y] | some _ => es.map fun x => if x.R.z = y.R.z then y else x
theorem xat_append (es : List RcA) (y : RcA) (z : List Int) : xat (es ++ [y]) z = (xat es z).or (if y.R.z = z then some y else none) := by
 unfold xat
 rw [List.find?_append]
 by_cases h : y.R.z = z <;> simp [h]
theorem xat_map (y : RcA) (z : List Int) : ∀ es : List RcA, xat (es.map fun x => if x.R.z = y.R.z then y else x) z = if y.R.z = z then (xat es z).map (fun _ => y) else xat es z
 | [] => by simp [xat]
 | x :: es => by
  rw [List.map_cons, xat_cons, xat_map y z es, xat_cons]
  by_cases hx : x.R.z = y.R.z
  ·rw [if_pos hx]
   by_cases hz : y.R.z = z
   ·rw [if_pos hz, if_pos hz, if_pos (hx.trans hz)]; rfl
   ·rw [if_neg hz, if_neg hz, if_neg hz, if_neg (by rw [hx]; exact hz)]
  ·rw [if_neg hx]
   by_cases hz : y.R.z = z
   ·rw [if_pos hz, if_neg (by rw [← hz]; exact hx), if_pos hz, if_neg (by rw [← hz]; exact hx)]
   ·rw [if_neg hz, if_neg hz]
theorem xat_put (es : List RcA) (y : RcA) (z : List Int) : xat (xput es y) z = if y.R.z = z then some y else xat es z := by
 unfold xput
 cases e : xat es y.R.z with
 | none =>
  dsimp only
  rw [xat_append]
  by_cases hz : y.R.z = z
  ·subst hz; rw [if_pos rfl, if_pos rfl, e]; rfl
  ·rw [if_neg hz, if_neg hz, Option.or_none]
 | some x =>
  dsimp only
  rw [xat_map]
  by_cases hz : y.R.z = z
  ·subst hz; rw [if_pos rfl, if_pos rfl, e]; rfl
  ·rw [if_neg hz, if_neg hz]
theorem xput_mem {es : List RcA} {y x : RcA} (h : x ∈ xput es y) : x = y ∨ x ∈ es := by
 unfold xput at h
 cases e : xat es y.R.z with
 | none =>
  rw [e] at h
  rcases List.mem_append.1 h with h | h
  ·exact .inr h
  ·exact .inl (List.mem_singleton.1 h)
 | some o =>
  rw [e] at h
  obtain ⟨x', hx', rfl⟩ := List.mem_map.1 h
  split
  ·exact .inl rfl
  ·exact .inr hx'
theorem xput_keys {es : List RcA} {y : RcA} (h : (es.map (·.R.z)).Nodup) : ((xput es y).map (·.R.z)).Nodup := by
 unfold xput
 cases e : xat es y.R.z with
 | none =>
  dsimp only
  rw [List.map_append, List.nodup_append]
  refine ⟨h, by simp, ?_⟩
  intro a ha b hb e2
  simp only [List.map_cons, List.map_nil, List.mem_singleton] at hb
  obtain ⟨x, hx, rfl⟩ := List.mem_map.1 ha
  exact xat_none.1 e x hx (e2.trans hb)
 | some x =>
  dsimp only
  rw [List.map_map]
  have : (fun x : RcA => x.R.z) ∘ (fun x : RcA => if x.R.z = y.R.z then y else x) = fun x => x.R.z := by
   funext x
   simp only [Function.comp]
   split
   ·rename_i hz; exact hz.symm
   ·rfl
  rw [this]
  exact h
theorem xput_len (es : List RcA) (y : RcA) : (xput es y).length = if (xat es y.R.z).isSome then es.length else es.length + 1 := by
 unfold xput
 cases e : xat es y.R.z <;> simp
theorem xput_mput {es : List RcA} {y : RcA} {r : Rc} (h : (es.map (·.R.z)).Nodup) (hz : r.z = y.R.z) (hy : y.R = bone (bat (es.map (·.R)) r.z) r) : (xput es y).map (·.R) = mput (es.map (·.R)) r := by
 have hb := xat_bat es r.z
 unfold xput mput
 rw [← hz, hb]
 rw [hb] at hy
 cases e : xat es r.z with
 | none =>
  rw [e] at hy
  dsimp only [Option.map_none]
  rw [List.map_append, List.map_cons, List.map_nil, show y.R = r from hy]
 | some o =>
  rw [e] at hy
  dsimp only [Option.map_some]
  rw [List.map_map, List.map_map]
  apply List.map_congr_left
  intro x hx
  simp only [Function.comp]
  by_cases hxz : x.R.z = r.z
  ·have := xat_mem h hx
   rw [hxz, e] at this
   obtain rfl := Option.some.inj this
   rw [if_pos hxz, if_pos hxz]
   exact hy
  ·rw [if_neg hxz, if_neg hxz]
def MRs (w : World) (b n : Nat) (es : List RcA) : Prop :=
 ∃ D : DataW Value, w.ownsMap Tryz.prog 31 heldR b n D ∧ Maps.size D = es.length ∧ (es.map (·.R.z)).Nodup ∧ (∀ x ∈ es, RvAt w x) ∧
  (∀ z l, keyOf Tryz.prog 31 (.agg (bvals z)) = some l → Maps.has D l = (xat es z).isSome ∧ D.atKey l (.held (.agg rcA0.cells)) = .held (.agg ((xat es z).getD rcA0).cells)) ∧
  ∀ l, Maps.has D l = true → ∃ x ∈ es, keyOf Tryz.prog 31 (.agg (bvals x.R.z)) = some l
theorem MRs.lt {w : World} {b n : Nat} {es : List RcA} (h : MRs w b n es) : b < w.heap.size := by obtain ⟨D, h, _⟩ := h; exact h.lt
theorem MRs.rv {w : World} {b n : Nat} {es : List RcA} (h : MRs w b n es) : ∀ x ∈ es, RvAt w x := by obtain ⟨D, _, _, _, h, _⟩ := h; exact h
theorem MRs.keys {w : World} {b n : Nat} {es : List RcA} (h : MRs w b n es) : (es.map (·.R.z)).Nodup := by obtain ⟨D, _, _, h, _⟩ := h; exact h
theorem MRs.obj {w : World} {b n : Nat} {es : List RcA} (h : MRs w b n es) : ∃ E cl, w.heap[b]? = some (.map E cl) := by obtain ⟨D, ⟨E, cl, h, _⟩, _⟩ := h; exact ⟨E, cl, h⟩
theorem MRs.below {w w' : World} {b n B : Nat} {es : List RcA} (h : MRs w b n es) (hb : Below B w w') (hB : w.heap.size ≤ B) : MRs w' b n es := by
 have hlt := h.lt
 obtain ⟨D, ⟨E, clock, hh, r⟩, h1, h2, h3, h4, h5⟩ := h
 exact ⟨D, ⟨E, clock, (hb.block b (Nat.lt_of_lt_of_le hlt hB)).trans hh, r⟩, h1, h2, fun x hx => (h3 x hx).below hb hB, h4, h5⟩
theorem MRs.made (w : World) : MRs (w.alloc (.map #[] 0)) w.heap.size 0 [] :=
 ⟨.map [], World.ownsMap_made w _ _ _, rfl, List.nodup_nil, (fun x hx => absurd hx (by simp)), (fun z l _ => ⟨rfl, Maps.atKey_of_not_has rfl _⟩), (fun l h => by simp [Maps.has] at h)⟩
theorem MRs.look {w : World} {b n : Nat} {es : List RcA} (h : MRs w b n es) {z : List Int} (h16 : z.length = 16) (hb : AllBytes z) :
  (Instr.lookup 84 (.map (some b)) (.agg (bvals z)) true).run Tryz.prog w = .ok (.tuple #[.agg ((xat es z).getD rcA0).cells, .bool (xat es z).isSome]) w := by
 obtain ⟨D, h1, _, _, _, h4, _⟩ := h
 obtain ⟨l, hl⟩ := key_id h16 hb
 obtain ⟨v, ps, hr, hv⟩ := h1.look_ok keyID Tryz.underlying84 (zeroX w) (zd := .held (.agg rcA0.cells)) (zp := []) rfl hl
 rw [(h4 z l hl).2] at hv
 simp only [heldR, Option.some.injEq, Prod.mk.injEq, DataW.held.injEq] at hv
 rw [hr, (h4 z l hl).1, hv.1]
theorem has_size {D : DataW Value} (hT : Maps.Tidy D) (l : Lit) (d : DataW Value) : Maps.size (D.put l d) = if Maps.has D l then Maps.size D else Maps.size D + 1 := Maps.size_put hT d
theorem MRs.store {w : World} {b n : Nat} {es : List RcA} (h : MRs w b n es) (hn : n < 1000) {y : RcA} (hy : RvAt w y) :
  ∃ w', (Instr.mapUpdate 84 (.map (some b)) (.agg (bvals y.R.z)) (.agg y.cells)).run Tryz.prog w = .ok () w' ∧ MRs w' b (n + 1) (xput es y) ∧ w.grownBy w' (some b) := by
 obtain ⟨E, cl, hobj⟩ := h.obj
 obtain ⟨D, h1, h2, h3, h4, h5, h6⟩ := h
 obtain ⟨l, hl⟩ := key_id hy.len hy.1.2
 obtain ⟨w', hr, ho, hg⟩ := h1.update keyID Tryz.underlying84 (by simp only [maxLen]; omega) hl (d := .held (.agg y.cells)) (ps := []) rfl
 have hkl := keyID.key hl
 refine ⟨w', hr, ⟨_, ho, ?_, xput_keys h3, fun x hx => ?_, fun z l' hl' => ?_, fun l' hl' => ?_⟩, hg⟩
 ·rw [has_size (h1.tidy keyID), (h5 _ _ hl).1, xput_len, h2]
 ·rcases xput_mem hx with rfl | hx
  ·exact hy.kept_map hg hobj
  ·exact (h4 x hx).kept_map hg hobj
 ·rw [xat_put]
  by_cases hz : y.R.z = z
  ·subst hz
   rw [hl] at hl'
   obtain rfl := Option.some.inj hl'
   rw [if_pos rfl]
   exact ⟨Maps.has_put_same h1.isMap hkl _, Maps.atKey_put_same h1.isMap hkl _ _⟩
  ·rw [if_neg hz]
   have hne : l' ≠ l := key_ne hl' hl (fun e => hz e.symm)
   rw [Maps.has_put_other hne, Maps.atKey_put_other hne]
   exact h5 z l' hl'
 ·by_cases hne : l' = l
  ·subst hne
   have : (xat (xput es y) y.R.z) = some y := by rw [xat_put, if_pos rfl]
   exact ⟨y, (xat_some this).1, hl⟩
  ·rw [Maps.has_put_other hne] at hl'
   obtain ⟨x, hx, hk⟩ := h6 l' hl'
   have hxz : y.R.z ≠ x.R.z := fun e => by rw [e, hk] at hl; exact hne (Option.some.inj hl)
   have : (xat (xput es y) x.R.z) = some x := by rw [xat_put, if_neg hxz]; exact xat_mem h3 hx
   exact ⟨x, (xat_some this).1, hk⟩
end
section
open Go.RowKit WM
set_option maxRecDepth 20000
def zrc : Value := .agg rcA0.cells
theorem zrc_size : zrc.cells.size = 19 := cells_len z16_len
theorem infoRec : (Tryz.prog.info? 36).map (fun i => (i.zero, i.size, i.bytes)) = some (some zrc, 19, 56) := by kernel_rfl
theorem wpList_append_rec {P : Program} (w : World) {ops : Array Oper} {rest : List Oper} {o : Oper} {a : Act} {Q : Exit → Act → World → Prop} (hgd : o.guard = none) (s x : Operand) (t : TypeId)
  (ho : o.op = .call { callee := .builtin .append, args := #[s, x], argTypes := #[t, t] })
  (base : Nat) (e : TypeId) (i : TypeInfo) (ht : P.underlying t = some (.slice e)) (hi : P.info? e = some i) (hz : i.zero = some zrc) (hsize : i.size = 19) (hby : i.bytes = 56)
  (v : Value) (n : Nat) (gs : List RcA) (hs : a.eval s = v) (hown : w.ownsRow base e 19 v n (gs.flatMap RcA.cs))
  (A : Option Addr) (m c : Nat) (fs : List RcA) (hx : a.eval x = .slice A m c) (hr : RsAt w A c fs) (hl : fs.length = m) (hlen : n + m ≤ 100000) (hbase : base ≤ w.heap.size)
  (h : ∀ v' w', w'.ownsRow base e 19 v' (n + m) ((gs ++ fs).flatMap RcA.cs) → w.grownBy w' v.ownBlock → wpList P ops Q rest (a.put o.dst v') w') : wpList P ops Q (o :: rest) a w := by
 have fin : ∀ ad : Addr, A = some ad → (∀ j u, (fs.flatMap RcA.cs)[j]? = some u → w.cell? (ad.add j) = some u) → wpList P ops Q (o :: rest) a w := by
  intro ad hA hc
  subst hA
  refine wpList_append_own w hgd s x t ho base e i zrc 19 56 ht hi hz hsize hby zrc_size (by omega) v n _ hs hown ad m c (fs.flatMap RcA.cs) hx (by rw [recs_len (fun x hxx => (hr.2.2.2.2 x hxx).len), hl]) hc (recs_one fs) (by simp only [maxLen]; omega) (by omega) hbase ?_
  intro v' w' h1 h2 _
  exact h v' w' (by rw [List.flatMap_append]; exact h1) h2
 obtain ⟨h1, h2, h3, h4, h5⟩ := hr
 have hz16 : ∀ x ∈ fs, x.R.z.length = 16 := fun x hxx => (h5 x hxx).len
 by_cases hn : fs = []
 ·subst hn
  cases A with
  | none =>
   have hc0 := h3 rfl
   simp at hl
   subst hl
   subst hc0
   refine wpList_append_own_none hgd s x t ho base e i 19 ht hi v n _ hs hown hx ?_
   exact h v w (by simpa using hown) (World.grownBy.refl w _)
  | some ad => exact fin ad rfl (fun j u hj => by simp at hj)
 ·obtain ⟨b, off, hA, _, hc⟩ := h4 (List.length_pos_iff.2 hn)
  refine fin _ hA (fun j u hj => ?_)
  have hjl := (List.getElem?_eq_some_iff.1 hj).1
  rw [recs_len hz16] at hjl
  have hij : j = j / 19 * 19 + j % 19 := by omega
  have hi' : j / 19 < fs.length := by omega
  rw [hij, recs_at hz16 hi' (by omega)] at hj
  rw [Addr.add_lit, show off + j = off + j / 19 * 19 + j % 19 by omega, (hc (j / 19) hi').2 (j % 19) (by omega)]
  exact hj
def GrowPostB (w : World) (e : Ending) (w' : World) : Prop := ∃ v, e = .returned v ∧ w'.ownsRow w.heap.size 36 19 v 0 [] ∧ Below w.heap.size w w'
theorem slr_h (A : Option Addr) (len cap h : Nat) (h2 : h ≤ cap) (H : Int) (eH : H = h) (w : World) : (Instr.slice 22 (.slice A len cap) none (some (.int .i64 H)) none).run Tryz.prog w = .ok (.slice A h cap) w := by
 subst eH
 rw [run_slice_h w 22 _ len cap (by rw [elemRec]; exact Tryz.underlying22) .i64 h (by omega) (by omega), elemRec, sizeRecW]
 simp only [sliced, Result.andThen, Int.toNat_natCast, Nat.zero_mul, Nat.sub_zero]
 cases A with
 | none => simp
 | some a => obtain ⟨b, off, s⟩ := a; simp [Addr.add]
set_option maxRecDepth 20000 in
set_option maxHeartbeats 1000000 in
theorem bgrow_any (n : Nat) (w : World) (hn : n ≤ 1000) : Calls Tryz.prog 83 #[.slice none 0 0, .int .i64 n] w (GrowPostB w) := by
 by_cases h0 : n = 0
 ·subst h0
  go_enter Tryz.func83, Tryz.ntmps83
  go_wp2
  go_ret
  exact ⟨_, rfl, World.ownsRow_nil _ _ _ _, Below.refl _ _⟩
 ·obtain ⟨i0, hi, hz0, hz1, hz2⟩ := info_parts infoRec
  have happ := Lib.run_append_nil_zeros (P := Tryz.prog) w 22 3 22 36 i0 zrc .i64 .i64 Tryz.underlying22 Tryz.underlying3 hi hz0 n (by omega) (by omega) (by omega) (by rw [hz2]; omega)
  have hg := grownCap_ge w n 0 36
  have hm := grownCap_le_maxLen w n 0 36 (by simp only [maxLen]; omega)
  generalize grownCap w n 0 36 = C at happ hg hm
  have hs : (Builtin.zeroCells zrc.cells n ++ Builtin.zeroCells zrc.cells (C - n)).size = C * 19 := by
   rw [Array.size_append, size_zeroCells, size_zeroCells, zrc_size]; omega
  generalize Builtin.zeroCells zrc.cells n ++ Builtin.zeroCells zrc.cells (C - n) = Z at happ hs
  have HO := Lib.hid (World.ownsRow_made (base := w.heap.size) (size := 19) (e := 36) w.drew Z C (Nat.le_refl _) hm hs)
  have HB := Lib.hid (((Below.refl w.heap.size w).drew).alloc (Nat.le_refl _) (.cells Z 36))
  have s1 := slr_h none 0 0 0 (Nat.le_refl _) 0 rfl
  have s2 := slr_h (some ⟨w.heap.size, 0, none⟩) n C 0 (Nat.zero_le _) 0 rfl
  have t1 : ¬ (n : Int) < 0 := by omega
  have t2 : (0 : Int) < (n : Int) := by omega
  simp only [maxLen] at hm
  clear hs h0
  go_enter Tryz.func83, Tryz.ntmps83
  go_wp2_with (at_builtin; refine Lib.wpList_append_run _ rfl _ _ _ _ rfl _ _ rfl rfl _ _ happ ?_)
  go_ret
  exact ⟨_, rfl, HO.out, HB.out⟩
def ConcatPostB (w : World) (fs : List RcA) (e : Ending) (w' : World) : Prop := ∃ A n c, e = .returned (.slice A n c) ∧ fs.length = n ∧ RsAt w' A c fs ∧ Below w.heap.size w w'
theorem bconcat_own {w w' : World} {v : Value} {n : Nat} {fs : List RcA} (hl : fs.length = n) (hv : ∀ x ∈ fs, RvAt w' x) (ho : w'.ownsRow w.heap.size 36 19 v n (fs.flatMap RcA.cs)) (hb : Below w.heap.size w w') : ConcatPostB w fs (.returned v) w' := by
 subst hl
 have ho' := ho
 rcases ho.2 with ⟨rfl, h0⟩ | ⟨g, cap, cur, rfl, _⟩
 ·rw [h0] at ho'
  exact ⟨none, 0, 0, rfl, h0, RsAt.own (base := w.heap.size) (by rw [h0]; exact ho') hv, hb⟩
 ·exact ⟨_, _, cap, rfl, rfl, RsAt.own ho' hv, hb⟩
set_option maxRecDepth 20000 in
set_option maxHeartbeats 2000000 in
theorem bconcat_any (g : Nat) (A1 A2 : Option Addr) (l1 l2 c1 c2 : Nat) (f1 f2 : List RcA) (w : World) (hg : g < w.heap.size) (hg0 : w.cell? ⟨g, 0, none⟩ = some (.slice A1 l1 c1)) (hg1 : w.cell? ⟨g, 1, none⟩ = some (.slice A2 l2 c2))
  (hl1 : f1.length = l1) (hl2 : f2.length = l2) (h1 : RsAt w A1 c1 f1) (h2 : RsAt w A2 c2 f2) (hs : l1 + l2 ≤ 1000) :
  Calls Tryz.prog 53 #[.slice (some ⟨g, 0, none⟩) 2 2] w (ConcatPostB w (f1 ++ f2)) := by
 have HG := Lib.hid (bgrow_any (l1 + l2))
 rw [Int.natCast_add] at HG
 unfold GrowPostB at HG
 have t1 : ¬ (l1 : Int) < 0 := by omega
 have t2 : ¬ (l1 : Int) + (l2 : Int) < 0 := by omega
 obtain ⟨i0, hi, hz0, hz1, hz2⟩ := info_parts infoRec
 have HL1 := Lib.hid hl1
 have HL2 := Lib.hid hl2
 have H1 := Lib.hid h1
 have H2 := Lib.hid h2
 have HV1 := Lib.hid h1.2.2.2.2
 have HV2 := Lib.hid h2.2.2.2.2
 clear hl1 hl2 h1 h2
 go_enter Tryz.func53, Tryz.ntmps53
 go_wp2
 refine wp_loop_rounds 3 ?_
 rw [rounds_succ]
 go_wp2
 rw [rounds_succ]
 go_wp2
 rw [rounds_succ]
 go_wp2_with fail
 refine (HG.out _ hs).mono ?_
 rintro e w1 ⟨v, rfl, ho, hb⟩
 have G1 := Lib.hid hg1
 have hg0 := (hb.cell (p := ⟨g, 0, none⟩) hg).trans hg0
 have hg1 := (hb.cell (p := ⟨g, 1, none⟩) hg).trans hg1
 have F1 := Lib.hid (H1.out.below hb (Nat.le_refl _))
 have HB := Lib.hid hb
 clear hb hg1
 go_wp2
 refine wp_loop_rounds 3 ?_
 rw [rounds_succ]
 go_wp2_with (at_builtin; refine wpList_append_rec _ rfl _ _ 22 rfl w.heap.size 36 i0 Tryz.underlying22 hi hz0 hz1 hz2 _ 0 [] rfl ho A1 l1 c1 f1 rfl F1.out HL1.out (by omega) HB.out.size ?_; intro v2 w2 ho2 hg2)
 have HB2 := HB.out.grown hg2 HB.out.size (fun g hg => own_base ho hg)
 have hg1 := (HB2.cell (p := ⟨g, 1, none⟩) hg).trans G1.out
 have F2 := Lib.hid (H2.out.below HB2 (Nat.le_refl _))
 have HB2 := Lib.hid HB2
 clear hg2 hg0
 rw [List.nil_append] at ho2
 rw [rounds_succ]
 go_wp2_with (at_builtin; refine wpList_append_rec _ rfl _ _ 22 rfl w.heap.size 36 i0 Tryz.underlying22 hi hz0 hz1 hz2 _ _ f1 rfl ho2 A2 l2 c2 f2 rfl F2.out HL2.out (by omega) HB2.out.size ?_; intro v3 w3 ho3 hg3)
 have HB3 := Lib.hid (HB2.out.grown hg3 HB2.out.size (fun g hg => own_base ho2 hg))
 have HO3 := Lib.hid ho3
 clear hg3 hg1 ho ho2 ho3
 rw [rounds_succ]
 go_wp2
 go_ret
 exact bconcat_own (by rw [List.length_append, HL1.out, HL2.out]; omega) (fun x hx => by
  rcases List.mem_append.1 hx with hx | hx
  ·exact (HV1.out x hx).below HB3.out (Nat.le_refl _)
  ·exact (HV2.out x hx).below HB3.out (Nat.le_refl _)) HO3.out HB3.out
end
end
section
open Go.RowKit WM
set_option maxRecDepth 100000
theorem fl_one (f : Fld) : ∀ u ∈ f.cs, u.oneCell' = true := fun u hu => by
 simp only [Fld.cs, List.mem_cons, List.not_mem_nil, or_false] at hu
 rcases hu with rfl | rfl | rfl | rfl <;> rfl
def KFl : Kind Fld := { n := 4, pos := by decide, cs := Fld.cs, d := fld0, ok := fun _ _ => True, len := fun _ => rfl, one := fl_one, below := fun h _ => h }
def TFl : TKind Fld := { K := KFl, tag := fun _ _ => True, ts := [], below := fun h _ => h, kept := fun _ _ _ _ => ⟨trivial, trivial⟩ }
theorem FsAt.kfl {w : World} {A : Option Addr} {c : Nat} {fs : List Fld} (h : FsAt w A c fs) : KFl.row w A c fs := by
 obtain ⟨h1, h2, h3, h4⟩ := h
 refine ⟨h1, h2, h3, fun h0 => ?_, fun _ _ => trivial⟩
 obtain ⟨b, off, hA, hb, hc⟩ := h4 h0
 refine ⟨b, off, hA, hb, fun i hi j hj => ?_⟩
 obtain ⟨c0, c1, c2, c3⟩ := hc i hi
 match j, hj with
 | 0, _ => exact c0
 | 1, _ => exact c1
 | 2, _ => exact c2
 | 3, _ => exact c3
def KRc : Kind RcA := { n := 19, pos := by decide, cs := RcA.cs, d := rcA0, ok := fun w x => RvAt w x, len := fun h => cs_len h.len, one := cs_one, below := fun h hb => h.below hb (Nat.le_refl _) }
theorem rc_kept {w w' : World} {x : RcA} {row : Option Nat} (h : RvAt w x) (ht : FTag w x.A) (hg : w.grownBy w' row) (hr : NoT [59] w row) : RvAt w' x ∧ FTag w' x.A := by
 have h1 : ∀ g, row = some g → ∀ c, w.heap[g]? ≠ some (.cells c 59) := fun g e => hr g e _ List.mem_cons_self
 exact ⟨h.kept_tag ht hg h1, ht.kept hg h1⟩
theorem FTag.belowA {w w' : World} {A : Option Addr} (h : FTag w A) (hb : Below w.heap.size w w') : FTag w' A := fun p e => by
 obtain ⟨cur, hc⟩ := h p e
 exact ⟨cur, (hb.block _ (Array.getElem?_eq_some_iff.1 hc).1).trans hc⟩
def TRc : TKind RcA := { K := KRc, tag := fun w x => FTag w x.A, ts := [59], below := fun h hb => FTag.belowA h hb, kept := fun h ht hg hr => rc_kept h ht hg hr }
theorem rcells_pre (z : List Int) (n r : Int) (v : Value) : rcells z n r v = (lnP z n r ++ [v]).toArray := by
 unfold rcells lnP
 rw [List.append_assoc]
 rfl
theorem rv_cells (x : RcA) : x.cells = (lnP x.R.z x.R.n x.R.r ++ [Value.slice x.A x.R.fs.length x.c]).toArray := rcells_pre _ _ _ _
theorem RJ.recd {bl base : Nat} {z : List Int} {n r : Int} {A : Option Addr} {c : Nat} {fs : List Fld} {W : World} (h : RJ TFl 59 36 bl base (lnP z n r) (Value.slice A fs.length c) fs W) (hz : z.length = 16 ∧ AllBytes z) :
  RvAt W ⟨⟨z, n, r, fs⟩, A, c⟩ ∧ FTag W A ∧ XAt W bl ⟨⟨z, n, r, fs⟩, A, c⟩ :=
 ⟨⟨hz, FsAt.own h.own⟩, FTag.own h.own, hz.1, by rw [rv_cells]; exact h.blk⟩
theorem XAt.rj {W : World} {bl base : Nat} {z : List Int} {n r : Int} (h : XAt W bl ⟨⟨z, n, r, []⟩, none, 0⟩) (hl : bl < base) (hb : base ≤ W.heap.size) : RJ TFl 59 36 bl base (lnP z n r) (Value.slice none 0 0) [] W :=
 ⟨by have := h.2; rw [rv_cells] at this; exact this, World.ownsRow_nil _ _ _ _, (fun e he => by cases he), hl, hb⟩
theorem XAt.dead {W : World} {b : Nat} {x : RcA} (h : XAt W b x) (n r : Int) : XAt ((W.setCell ⟨b, 16, none⟩ (.int .i64 n)).setCell ⟨b, 17, none⟩ (.int .i64 r)) b ⟨⟨x.R.z, n, r, x.R.fs⟩, x.A, x.c⟩ := by
 refine ⟨h.1, ?_⟩
 rw [heap_setCell_same _ _ _ _ _ _ (heap_setCell_same _ _ _ _ _ _ h.2)]
 congr 2
 show (((rcells _ _ _ _).setIfInBounds 16 _).setIfInBounds 17 _) = rcells _ _ _ _
 unfold rcells
 rw [Z2, Z2, List.set_append_right _ _ (by simp [h.1]), List.set_append_right _ _ (by simp [h.1])]
 simp [h.1]
 rfl
theorem infoFldK : (Tryz.prog.info? 59).map (fun i => (i.zero, i.size, i.bytes)) = some (some (KFl.v fld0), 4, 40) := by kernel_rfl
theorem sizeFldK (w : World) : (sizeOf 59).run Tryz.prog w = .ok KFl.n w := sizeFld w
theorem zeroFldK (w : World) : (zeroValue 59).run Tryz.prog w = .ok (KFl.v fld0) w := (zero_of_info (show (Tryz.prog.info? 59).map (fun i => (i.zero, i.size)) = some (some (KFl.v fld0), 4) by kernel_rfl)).1 w
theorem nFl : KFl.n ≤ 1000 := by decide
end
end Go.Proofs.YtnlhkpmgbpfjmaaGreatDoor
