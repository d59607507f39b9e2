import Derived.Test.YtcmknbdeafcknaaGreatDoorBkRec
import Derived.Test.YtcmknbdeafcknaaGreatDoorRcConcat
import Derived.Lib.LazyBuf
/-
  What slices.Clone of fields, book.own and book.Find answer: records whose fields are the call's own. Nothing that was there is written.
-/
namespace Go.Proofs.YtcmknbdeafcknaaGreatDoor
open Go.RowKit WM
set_option linter.unusedVariables false
set_option maxRecDepth 100000
def ClonePost (w : World) (fs : List Fld) (e : Ending) (w' : World) : Prop := ∃ A c, e = .returned (.slice A fs.length c) ∧ FsAt w' A c fs ∧ Below w.heap.size w w'
theorem clone_end {w w' : World} {v : Value} {n : Nat} {fs : List Fld} (hl : fs.length = n) (ho : w'.ownsRow w.heap.size 59 4 v n (fs.flatMap Fld.cs)) (hb : Below w.heap.size w w') : ClonePost w fs (.returned v) w' := by
  subst hl
  have ho' := ho
  rcases ho.2 with ⟨rfl, h0⟩ | ⟨g, cap, cur, rfl, _⟩
  · rw [h0] at ho'
    exact ⟨none, 0, by rw [h0], FsAt.own (base := w.heap.size) (by rw [h0]; exact ho'), hb⟩
  · exact ⟨_, cap, rfl, FsAt.own ho', hb⟩
set_option maxHeartbeats 1000000 in
theorem fclone_any (A : Option Addr) (len c : Nat) (fs : List Fld) (w : World) (hl : fs.length = len) (h : FsAt w A c fs) (hs : len ≤ 1000) :
    Calls Tryz.prog 73 #[.slice A len c] w (ClonePost w fs) := by
  cases A with
  | none =>
    obtain ⟨h1, h2, h3, _⟩ := h
    have hc := h3 rfl
    subst hc
    have hn : fs = [] := List.eq_nil_of_length_eq_zero (by omega)
    subst hn
    simp at hl
    subst hl
    have HP : Hid (ClonePost w [] (.returned (.slice none 0 0)) w) := Lib.hid ⟨none, 0, rfl, FsAt.nil _ _ _ (by decide) (fun _ => rfl), Below.refl _ _⟩
    have heq : (binOp .eql 31 (.slice none 0 0) (.slice none 0 0)).run Tryz.prog w = .ok (.bool true) w := run_eql_slice_nil w _ 59 none 0 0 Tryz.underlying31
    go_enter Tryz.func73, Tryz.ntmps73
    go_wp2
    go_ret
    exact HP.out
  | some ad =>
    obtain ⟨i0, hi, hz0, hz1, hz2⟩ := info_parts infoFld
    have ho := World.ownsRow_made (base := w.heap.size) (size := 4) (e := 59) w #[] 0 (Nat.le_refl _) (by decide) rfl
    have HA := Lib.hid (h.below ((Below.refl w.heap.size w).alloc (Nat.le_refl _) (.cells #[] 59)) (Nat.le_refl _))
    have HL := Lib.hid hl
    have HB := Lib.hid ((Below.refl w.heap.size w).alloc (Nat.le_refl _) (.cells #[] 59))
    have heq : (binOp .eql 31 (.slice (some ad) len c) (.slice none 0 0)).run Tryz.prog w = .ok (.bool false) w := run_eql_slice_nil w _ 59 (some ad) len c Tryz.underlying31
    clear h hl
    go_enter Tryz.func73, Tryz.ntmps73
    go_wp2_with (at_builtin; refine wpList_append_fld _ rfl _ _ 31 rfl w.heap.size 59 i0 Tryz.underlying31 hi hz0 hz1 hz2 _ 0 [] rfl ho (some ad) len c fs rfl HA.out HL.out (by omega) (by simp) ?_; intro v2 w2 ho2 hg2)
    go_ret
    exact clone_end (by rw [HL.out]; omega) ho2 (HB.out.grown hg2 (by simp) (fun g hg => own_base ho hg))
theorem XAt.put {w : World} {b : Nat} {x : RcA} (h : XAt w b x) (A : Option Addr) (c : Nat) : XAt (w.setCell ⟨b, 18, none⟩ (.slice A x.R.fs.length c)) b ⟨x.R, A, c⟩ := h.rc.put _
def OwnPost (w : World) (R : Rc) (e : Ending) (w' : World) : Prop := ∃ y : RcA, e = .returned (.agg y.cells) ∧ y.R = R ∧ RvAt w' y ∧ Below w.heap.size w w'
theorem res_x {fn : Func} {p : Tmp} (h : fn.results = #[.cell p 33]) {tmps : Array Value} {w : World} {b : Nat} {x : RcA} (hp : tmps.getD p undef = .pointer (some ⟨b, 0, none⟩)) (hs : XAt w b x) :
    (results fn tmps).run Tryz.prog w = .ok (.agg x.cells) w := res_rc h hp hs.rc
theorem res_x2 {fn : Func} {p q : Tmp} (h : fn.results = #[.cell p 33, .tmp q]) {tmps : Array Value} {w : World} {b : Nat} {x : RcA} (hp : tmps.getD p undef = .pointer (some ⟨b, 0, none⟩)) (hs : XAt w b x) :
    (results fn tmps).run Tryz.prog w = .ok (.tuple #[.agg x.cells, tmps.getD q undef]) w := res_rc2 h hp hs.rc
set_option maxHeartbeats 2000000 in
theorem own_any (x : RcA) (w : World) (h : RvAt w x) (hs : x.R.fs.length ≤ 1000) : Calls Tryz.prog 41 #[.agg x.cells] w (OwnPost w x.R) := by
  have ZX := Lib.hid h.len
  have S0 := Lib.hid ((XAt.new w h.len).old (.cells rcA0.cells 33))
  have s1 := XAt.new (x := rcA0) (w.alloc (.cells x.cells 33)) z16_len
  rw [World.size_alloc] at s1
  have S1 := Lib.hid s1
  have HB := Lib.hid (((Below.refl w.heap.size w).alloc (Nat.le_refl _) (.cells x.cells 33)).alloc (by simp) (.cells rcA0.cells 33))
  have s0 := S0.out.c18
  have HC := Lib.hid (fclone_any x.A _ x.c x.R.fs _ rfl (h.2.below HB.out (Nat.le_refl _)) hs)
  unfold ClonePost at HC
  have HOK := Lib.hid h.1
  have hz := zeroX
  clear s1 h
  go_enter Tryz.func41, Tryz.ntmps41
  go_wp2_with fail
  refine HC.out.mono ?_
  rintro e w1 ⟨A', c', rfl, hF, hb⟩
  have T0 := S0.out.below hb S0.out.lt
  have T1 := Lib.hid (S1.out.below hb S1.out.lt)
  have HB1 := Lib.hid (HB.out.trans (hb.mono HB.out.size))
  have f18 := T0.fz 18
  have d18 := T0.c18
  have S0K := Lib.hid T0
  have T2 := T0.put A' c'
  have TL := Lib.hid T2.load
  have T3 := Lib.hid (show XAt (w1.setCell ⟨w.heap.size, 18, none⟩ (.slice A' x.R.fs.length c')) (w.heap.size + 1) rcA0 from T1.out.same (Below.heap_setCell _ _ _ _ (show w.heap.size + 1 ≠ w.heap.size by omega)))
  have HB2 := Lib.hid (HB1.out.setCell (p := ⟨w.heap.size, 18, none⟩) (Nat.le_refl _) (.slice A' x.R.fs.length c'))
  have HF := Lib.hid (show RvAt w1 (⟨x.R, A', c'⟩ : RcA) from ⟨HOK.out, hF⟩)
  have HBB := Lib.hid hb
  clear T0 T2 hb hF
  go_wp2_with (first | ((with_reducible refine wpList_load_by (o := ⟨some 7, .load 33 (.tmp 1), _, _, _, _⟩) ?e1 33 (.tmp 1) ?e2 ⟨w.heap.size, 0, none⟩ ?e3 _ TL.out ?_); (case e1 => rfl); (case e2 => rfl); (case e3 => rfl)) | ((with_reducible refine wpList_store_oldx (o := ⟨none, .store 33 (.tmp 2) (.tmp 7), _, _, _, _⟩) ?e1 (.tmp 2) (.tmp 7) ?e2 (w.heap.size + 1) _ T3.out ?e3 (⟨x.R, A', c'⟩ : RcA) ?e4 ZX.out ?_); (case e1 => rfl); (case e2 => rfl); (case e3 => rfl); (case e4 => rfl); intro w2 hg2 hx2; have G2 := Lib.hid hg2; have X2 := Lib.hid hx2; clear hg2 hx2))
  refine bodyPost_ret (v := .agg (⟨x.R, A', c'⟩ : RcA).cells) ?_ rfl ?_
  · exact res_x Tryz.results41 rfl X2.out
  · exact ⟨⟨x.R, A', c'⟩, rfl, rfl, (HF.out.kept_x (grownBy_setCell18 w1 w.heap.size 18 _) S0K.out).kept_x G2.out T3.out, HB2.out.grown G2.out HB2.out.size (fun k e => by have := Option.some.inj e; omega)⟩
theorem bat_drop {xs : List RcA} {k : Nat} (z : List Int) (hk : k < xs.length) : bat ((xs.drop k).map (·.R)) z = if (xs.getD k rcA0).R.z = z then some (xs.getD k rcA0).R else bat ((xs.drop (k + 1)).map (·.R)) z := by
  rw [List.drop_eq_getElem_cons hk, List.map_cons, bat_cons]
  simp only [List.getD, List.getElem?_eq_getElem hk, Option.getD_some]
def BFindPost (w : World) (o : Option Rc) (e : Ending) (w' : World) : Prop := ∃ y : RcA, e = .returned (.tuple #[.agg y.cells, .bool o.isSome]) ∧ y.R = o.getD rc0 ∧ RvAt w' y ∧ Below w.heap.size w w'
theorem IdAt.below {w w' : World} {b B : Nat} {z : List Int} (h : IdAt w b z) (hb : Below B w w') (hB : b < B) : IdAt w' b z := ⟨h.1, (hb.block b hB).trans h.2⟩
theorem IdAt.lt {w : World} {b : Nat} {z : List Int} (h : IdAt w b z) : b < w.heap.size := (Array.getElem?_eq_some_iff.1 h.2).1
theorem IdAt.old {w : World} {b : Nat} {z : List Int} (h : IdAt w b z) (o : Obj) : IdAt (w.alloc o) b z := h.below ((Below.refl w.heap.size w).alloc (Nat.le_refl _) o) h.lt
theorem IdAt.new (w : World) {z : List Int} (h : z.length = 16) : IdAt (w.alloc (.cells (bvals z) 26)) w.heap.size z := ⟨h, heap_alloc_new w _⟩
set_option maxHeartbeats 4000000 in
theorem bfind_any (b : Bk) (z : List Int) (w : World) (h : BkAt w b) (hz16 : z.length = 16) (hzb : AllBytes z) (hs : ∀ x ∈ b.xs, x.R.fs.length ≤ 1000) :
    Calls Tryz.prog 13 #[.agg #[.slice b.A b.xs.length b.c], .agg (bvals z)] w (BFindPost w (bat b.rs z)) := by
  obtain ⟨xs, A, c⟩ := b
  dsimp only at h hs ⊢
  unfold Bk.rs
  dsimp only
  have HRV := Lib.hid (fun i (hi : i < xs.length) => RsAt.rv h hi)
  have HSZ := Lib.hid (fun i (hi : i < xs.length) => show (xs.getD i rcA0).R.fs.length ≤ 1000 by rw [List.getD_eq_getElem?_getD, List.getElem?_eq_getElem hi]; exact hs _ (List.getElem_mem hi))
  obtain ⟨hc1, hc2, hc3, hcell, _⟩ := h
  dsimp only at hc1 hc2 hc3 hcell HRV
  simp only [maxLen] at hc2
  have HC := Lib.hid hcell
  have s0 := ((BoAt.new w (.slice A xs.length c)).old (.cells (bvals z) 26)).old (.cells rcA0.cells 33)
  have c00 := s0.c0
  have i1 := IdAt.new (w.alloc (.cells #[.slice A xs.length c] 24)) hz16
  rw [World.size_alloc] at i1
  have i2 := i1.old (.cells rcA0.cells 33)
  have x1 := XAt.new (x := rcA0) ((w.alloc (.cells #[.slice A xs.length c] 24)).alloc (.cells (bvals z) 26)) z16_len
  rw [World.size_alloc, World.size_alloc] at x1
  have HB := Lib.hid ((((Below.refl w.heap.size w).alloc (Nat.le_refl _) (.cells #[.slice A xs.length c] 24)).alloc (by simp) (.cells (bvals z) 26)).alloc (by simp; omega) (.cells rcA0.cells 33))
  have H1 := Lib.hid (And.intro i2 x1)
  have hz := zeroX
  have hb0 := build0
  have HV := Lib.hid (show bat (xs.map (·.R)) z = bat ((xs.drop 0).map (·.R)) z by rw [List.drop_zero])
  have HZB := Lib.hid (And.intro hz16 hzb)
  generalize bat (xs.map (·.R)) z = V at HV ⊢
  generalize hlen : xs.length = len at *
  have HLN := Lib.hid hlen
  clear hcell i1 i2 x1 s0 hlen hz16 hzb hs
  go_enter Tryz.func13, Tryz.ntmps13
  go_wp2
  clear c00
  go_loopw [11] (fun i wr => ∃ k : Nat, k ≤ len ∧ i = .int .i64 k ∧ IdAt wr (w.heap.size + 1) z ∧ XAt wr (w.heap.size + 1 + 1) rcA0 ∧ Below w.heap.size w wr ∧ V = bat ((xs.drop k).map (·.R)) z) (fun i _ => len - (intOf i).toNat)
  case atStart => exact ⟨0, Nat.zero_le _, rfl, H1.out.1, H1.out.2, HB.out, HV.out⟩
  case round =>
    obtain ⟨k, hk, rfl, hi, hx0, hb, hf⟩ := hrel
    by_cases hlt : k < len
    · obtain ⟨b0, off, rfl, hbB, hcc⟩ := HC.out (by omega)
      have hx := (hcc k hlt).same (hb.block b0 hbB)
      have IX := ix_rec b0 off len c k hlt k rfl
      have hvx := (HRV.out k hlt).below hb (Nat.le_refl _)
      have hsx := HSZ.out k hlt
      rw [bat_drop z (by rw [HLN.out]; exact hlt)] at hf
      generalize xs.getD k rcA0 = x at *
      generalize off + k * 19 = ox at *
      have LX := Lib.hid hx.load
      have HVX := Lib.hid hvx
      have HSX := Lib.hid hsx
      have ZX := Lib.hid hvx.len
      have HBB := Lib.hid (And.intro hi (And.intro hx0 hb))
      have HE := eq_id hvx.1.2 HZB.out.2 hvx.len HZB.out.1
      clear hcc hx hvx hsx hi hx0 hb
      by_cases he : x.R.z = z
      · rw [if_pos he] at hf
        have hq : (x.R.z == z) = true := by rw [beq_iff_eq]; exact he
        rw [hq] at HE
        have HF := Lib.hid hf
        have HEQ := Lib.hid he
        clear hf he hq
        go_wp2_with (first | ((with_reducible refine wpList_load_by (o := ⟨some 14, .load 33 (.tmp 13), _, _, _, _⟩) ?e1 33 (.tmp 13) ?e2 ⟨b0, ox, none⟩ ?e3 _ LX.out ?_); (case e1 => rfl); (case e2 => rfl); (case e3 => rfl)) | ((with_reducible refine wpList_store_newx (o := ⟨none, .store 33 (.tmp 7) (.tmp 14), _, _, _, _⟩) (w := wr) ?e1 (.tmp 7) (.tmp 14) ?e2 wr.heap.size ?e0 ?e3 x ?e4 ZX.out ?_); (case e1 => rfl); (case e2 => rfl); (case e0 => rfl); (case e3 => rfl); (case e4 => rfl); intro w2 hb2 hx2 hs2; have X2 := Lib.hid hx2; have HW2 := Lib.hid hb2; have LI := Lib.hid hx2.load_id; have LJ := Lib.hid (load_arr16 (HBB.out.1.below hb2 HBB.out.1.lt)); have LX2 := Lib.hid hx2.load; have HO := Lib.hid (own_any x w2 (HVX.out.below hb2 (Nat.le_refl _)) HSX.out); unfold OwnPost at HO; clear hx2 hb2 hs2) | ((with_reducible refine wpList_load_by (o := ⟨some 16, .load 26 (.tmp 15), _, _, _, _⟩) ?e1 26 (.tmp 15) ?e2 ⟨wr.heap.size, 0, none⟩ ?e3 _ LI.out ?_); (case e1 => rfl); (case e2 => rfl); (case e3 => rfl)) | ((with_reducible refine wpList_load_by (o := ⟨some 17, .load 26 (.tmp 3), _, _, _, _⟩) ?e1 26 (.tmp 3) ?e2 ⟨(w.heap.size + 1), 0, none⟩ ?e3 _ LJ.out ?_); (case e1 => rfl); (case e2 => rfl); (case e3 => rfl)) | ((with_reducible refine wpList_load_by (o := ⟨some 19, .load 33 (.tmp 7), _, _, _, _⟩) ?e1 33 (.tmp 7) ?e2 ⟨wr.heap.size, 0, none⟩ ?e3 _ LX2.out ?_); (case e1 => rfl); (case e2 => rfl); (case e3 => rfl)))
        refine HO.out.mono ?_
        rintro e w3 ⟨y, rfl, hyR, hy, hb3⟩
        have XR := Lib.hid ((HBB.out.2.1.below HW2.out HBB.out.2.1.lt).below hb3 (Nat.lt_of_lt_of_le HBB.out.2.1.lt HW2.out.size))
        have B3 := Lib.hid (HBB.out.2.2.trans ((HW2.out.trans (hb3.mono HW2.out.size)).mono HBB.out.2.2.size))
        have HYR := Lib.hid hyR
        have HY := Lib.hid hy
        have ZY := Lib.hid hy.len
        clear hyR hy hb3
        go_wp2_with (first | ((with_reducible refine wpList_store_oldx (o := ⟨none, .store 33 (.tmp 4) (.tmp 20), _, _, _, _⟩) ?e1 (.tmp 4) (.tmp 20) ?e2 (w.heap.size + 1 + 1) _ XR.out ?e3 y ?e4 ZY.out ?_); (case e1 => rfl); (case e2 => rfl); (case e3 => rfl); (case e4 => rfl); intro w2 hg2 hx2; have G4 := Lib.hid hg2; have X4 := Lib.hid hx2; clear hg2 hx2))
        refine bodyPost_ret (v := .tuple #[.agg y.cells, .bool true]) ?_ rfl ?_
        · exact res_x2 Tryz.results13 rfl X4.out
        · rw [HF.out]
          exact ⟨y, rfl, HYR.out, HY.out.kept_x G4.out XR.out, B3.out.grown G4.out B3.out.size (fun k e => by have := Option.some.inj e; omega)⟩
      · rw [if_neg he] at hf
        have hq : (x.R.z == z) = false := by rw [beq_eq_false_iff_ne]; exact he
        rw [hq] at HE
        have HF := Lib.hid hf
        clear hf he hq
        go_wp2_with (first | ((with_reducible refine wpList_load_by (o := ⟨some 14, .load 33 (.tmp 13), _, _, _, _⟩) ?e1 33 (.tmp 13) ?e2 ⟨b0, ox, none⟩ ?e3 _ LX.out ?_); (case e1 => rfl); (case e2 => rfl); (case e3 => rfl)) | ((with_reducible refine wpList_store_newx (o := ⟨none, .store 33 (.tmp 7) (.tmp 14), _, _, _, _⟩) (w := wr) ?e1 (.tmp 7) (.tmp 14) ?e2 wr.heap.size ?e0 ?e3 x ?e4 ZX.out ?_); (case e1 => rfl); (case e2 => rfl); (case e0 => rfl); (case e3 => rfl); (case e4 => rfl); intro w2 hb2 hx2 hs2; have HW2 := Lib.hid hb2; have LI := Lib.hid hx2.load_id; have I2 := Lib.hid (HBB.out.1.below hb2 HBB.out.1.lt); have LJ := Lib.hid (load_arr16 I2.out); have X02 := Lib.hid (HBB.out.2.1.below hb2 HBB.out.2.1.lt); have B2 := Lib.hid (HBB.out.2.2.trans (hb2.mono HBB.out.2.2.size)); clear hx2 hb2 hs2) | ((with_reducible refine wpList_load_by (o := ⟨some 16, .load 26 (.tmp 15), _, _, _, _⟩) ?e1 26 (.tmp 15) ?e2 ⟨wr.heap.size, 0, none⟩ ?e3 _ LI.out ?_); (case e1 => rfl); (case e2 => rfl); (case e3 => rfl)) | ((with_reducible refine wpList_load_by (o := ⟨some 17, .load 26 (.tmp 3), _, _, _, _⟩) ?e1 26 (.tmp 3) ?e2 ⟨(w.heap.size + 1), 0, none⟩ ?e3 _ LJ.out ?_); (case e1 => rfl); (case e2 => rfl); (case e3 => rfl)))
        go_roundw
        case rel => exact ⟨k + 1, by omega, by go_num, I2.out, X02.out, B2.out, HF.out⟩
        case measure => simp [intOf]; omega
    · obtain rfl : k = len := by omega
      rw [List.drop_eq_nil_of_le (by rw [HLN.out]; exact Nat.le_refl _), List.map_nil, bat_nil] at hf
      have HF := Lib.hid hf
      have HBB := Lib.hid hb
      have XR := Lib.hid hx0
      have ZY := Lib.hid (show rcA0.R.z.length = 16 from z16_len)
      clear hf hi hx0 hb
      go_wp2_with (first | ((with_reducible refine wpList_store_oldx (o := ⟨none, .store 33 (.tmp 4) (.tmp 22), _, _, _, _⟩) ?e1 (.tmp 4) (.tmp 22) ?e2 (w.heap.size + 1 + 1) _ XR.out ?e3 rcA0 ?e4 ZY.out ?_); (case e1 => rfl); (case e2 => rfl); (case e3 => rfl); (case e4 => rfl); intro w2 hg2 hx2; have G4 := Lib.hid hg2; have X4 := Lib.hid hx2; clear hg2 hx2))
      refine bodyPost_ret (v := .tuple #[.agg rcA0.cells, .bool false]) ?_ rfl ?_
      · exact res_x2 Tryz.results13 rfl X4.out
      · rw [HF.out]
        exact ⟨rcA0, rfl, rfl, RvAt.zero _, HBB.out.grown G4.out HBB.out.size (fun k e => by have := Option.some.inj e; omega)⟩
end Go.Proofs.YtcmknbdeafcknaaGreatDoor

