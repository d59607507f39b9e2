/-
  What rec.gather answers: a map that holds, for each number, the cells of that number's fields, joined in their order. Nothing that was there is written.
-/
import Derived.Test.YtonbhcbkelmhgaaDoorRcMap
namespace Go.Proofs.YtonbhcbkelmhgaaDoor
open Go.RowKit WM
set_option linter.unusedVariables false
/-- One field more. -/
def gone (o : Option Cel) (c : Cel) : Cel := match o with | some d => cjoin d c | none => c
def gstep (f : Int → Option Cel) (x : Fld) : Int → Option Cel := fun j => if j = x.no then some (gone (f x.no) x.c) else f j
def gath (fs : List Fld) : Int → Option Cel := fs.foldl gstep (fun _ => none)
theorem gath_snoc {fs : List Fld} {k : Nat} (hk : k < fs.length) : gath (fs.take (k + 1)) = gstep (gath (fs.take k)) (fs.getD k fld0) := by
  rw [List.take_succ_eq_append_getElem hk, gath, List.foldl_append]
  simp only [List.foldl_cons, List.foldl_nil, List.getD, List.getElem?_eq_getElem hk, Option.getD_some]
  rfl
/-- No value is too long. -/
def Small (f : Int → Option Cel) : Prop := ∀ j c, f j = some c → c.s.size ≤ 300
theorem gone_small {o : Option Cel} {c : Cel} (ho : ∀ d, o = some d → d.s.size ≤ 300) (hc : c.s.size ≤ 300) : (gone o c).s.size ≤ 300 := by
  cases o with
  | none => exact hc
  | some d => exact cjoin_size (ho d rfl) hc
theorem gstep_small {f : Int → Option Cel} {x : Fld} (hf : Small f) (hx : x.c.s.size ≤ 300) : Small (gstep f x) := by
  intro j c h
  unfold gstep at h
  split at h
  · cases h
    exact gone_small (fun d hd => hf _ d hd) hx
  · exact hf j c h
theorem FlAt.put3 {w : World} {b : Nat} {f : Fld} (h : FlAt w b f) (c : Cel) : FlAt (((w.setCell ⟨b, 1, none⟩ (.int .i64 c.n)).setCell ⟨b, 2, none⟩ (.int .i64 c.r)).setCell ⟨b, 3, none⟩ (.string c.s)) b ⟨f.no, c⟩ := by
  unfold FlAt
  rw [heap_setCell_same _ _ _ _ _ _ (heap_setCell_same _ _ _ _ _ _ (heap_setCell_same _ _ _ _ _ _ h))]
  rfl
theorem below_put3' {B : Nat} {a w : World} (h : Below B a w) {b : Nat} (hb : B ≤ b) (u v x : Value) : Below B a (((w.setCell ⟨b, 1, none⟩ u).setCell ⟨b, 2, none⟩ v).setCell ⟨b, 3, none⟩ x) := ((h.setCell hb u).setCell hb v).setCell hb x
def GatherPost (w : World) (fs : List Fld) (e : Ending) (w' : World) : Prop := ∃ b n, e = .returned (.map (some b)) ∧ w.heap.size ≤ b ∧ MIs w' b n (gath fs) ∧ Below w.heap.size w w'
set_option maxHeartbeats 4000000 in
theorem gather_any (A : Option Addr) (len c : Nat) (fs : List Fld) (w : World) (hlaid : Laid w) (hl : fs.length = len) (hlen : len ≤ 900) (h : FsAt w A c fs)
    (hfs : ∀ i, i < len → (Lit.int .i64 (fs.getD i fld0).no).wf = true ∧ (fs.getD i fld0).c.s.size ≤ 300) :
    Calls Tryd.prog 55 #[.slice A len c] w (GatherPost w fs) := by
  obtain ⟨hc1, hc2, hc3, hcell⟩ := h
  simp only [maxLen] at hc2
  have hmm := @run_makeMap Tryd.prog
  have HL := Lib.hid hl
  have HC := Lib.hid hcell
  have HW := Lib.hid hfs
  have HLA := Lib.hid (fun (X : World) (hX : Below w.heap.size w X) => hlaid.below hX (Nat.le_refl _))
  have hlc : len ≤ c := by omega
  have H0 := Lib.hid (And.intro (MIs.made w) ((Below.refl w.heap.size w).alloc (Nat.le_refl _) (.map #[] 0)))
  clear hcell hc1 hl hfs hlaid
  go_enter Tryd.func55, Tryd.ntmps55
  go_wp2
  go_loopw [11] (fun i wr => ∃ k : Nat, k ≤ len ∧ i = .int .i64 k ∧ MIs wr w.heap.size k (gath (fs.take k)) ∧ Small (gath (fs.take k)) ∧ Below w.heap.size w wr) (fun i _ => len - (intOf i).toNat)
  case atStart => exact ⟨0, Nat.zero_le _, rfl, H0.out.1, fun j c h => by simp [gath] at h, H0.out.2⟩
  case round =>
    obtain ⟨k, hk, rfl, hM, hS, hb⟩ := hrel
    by_cases hlt : k < len
    · obtain ⟨b, off, rfl, hbB, hcc⟩ := HC.out (by rw [HL.out]; omega)
      obtain ⟨c0, c1, c2, c3⟩ := hcc k (by rw [HL.out]; exact hlt)
      have c0 := (hb.cell (p := ⟨b, off + k * 4, none⟩) hbB).trans c0
      have c1 := (hb.cell (p := ⟨b, off + k * 4 + 1, none⟩) hbB).trans c1
      have c2 := (hb.cell (p := ⟨b, off + k * 4 + 2, none⟩) hbB).trans c2
      have c3 := (hb.cell (p := ⟨b, off + k * 4 + 3, none⟩) hbB).trans c3
      have IX := ix_fld b off len c k hlt k rfl
      have hgs := gath_snoc (fs := fs) (k := k) (by rw [HL.out]; exact hlt)
      have hww := HW.out k hlt
      generalize fs.getD k fld0 = f at c0 c1 c2 c3 hgs hww
      obtain ⟨no, x⟩ := f
      dsimp only at c0 c1 c2 c3 hww
      generalize off + k * 4 = o at c0 c1 c2 c3 IX
      have hlt2 := hM.lt
      have hMF := hM.below ((Below.refl wr.heap.size wr).alloc (Nat.le_refl _) (.cells #[.int .i64 no, .int .i64 x.n, .int .i64 x.r, .string x.s] 55)) hlt2
      have LK := hMF.look hww.1
      have HGS := Lib.hid hgs
      have HWF := Lib.hid hww
      have HSM := Lib.hid (gstep_small (x := ⟨no, x⟩) hS hww.2)
      generalize gath (fs.take k) = g at hM hS hMF LK HGS HSM
      have HB := Lib.hid hb
      have HM := Lib.hid hM
      have HS := Lib.hid hS
      clear hcc hgs hww hM hMF hS hb
      cases hg : g no with
      | none =>
        rw [hg] at LK
        dsimp only [Option.getD_none, Option.isSome_none, Cel.v, cel00] at LK
        have HGV := Lib.hid (show gstep g ⟨no, x⟩ = fun j => if j = no then some x else g j by unfold gstep; simp only [hg]; rfl)
        have BN := Lib.hid (((Below.refl wr.heap.size wr).alloc (Nat.le_refl _) (.cells #[.int .i64 no, .int .i64 x.n, .int .i64 x.r, .string x.s] 55)).alloc (by simp) (.cells #[.int .i64 0, .int .i64 0, .string ⟨#[]⟩] 25))
        have MN := Lib.hid (HM.out.below BN.out hlt2)
        clear hg
        go_wp2_with (at_mapUpdate; refine wpList_mapUpdate_cel rfl _ _ _ rfl w.heap.size k g no x rfl rfl rfl MN.out (by omega) HWF.out.1 ?_; intro w5 hM5 hg5)
        have HM5 := Lib.hid hM5
        have HBN := Lib.hid (HB.out.trans (BN.out.mono HB.out.size))
        have HB5 := Lib.hid (HBN.out.grown hg5 HBN.out.size (fun k e => by cases e; exact Nat.le_refl _))
        clear hg5 hM5
        go_roundw
        case rel => exact ⟨k + 1, by omega, by go_num, by rw [HGS.out, HGV.out]; exact HM5.out, by rw [HGS.out]; exact HSM.out, HB5.out⟩
        case measure => simp [intOf]; omega
      | some d =>
        rw [hg] at LK
        dsimp only [Option.getD_some, Option.isSome_some, Cel.v] at LK
        have HGV := Lib.hid (show gstep g ⟨no, x⟩ = fun j => if j = no then some (cjoin d x) else g j by unfold gstep; simp only [hg]; rfl)
        have bN := (((Below.refl wr.heap.size wr).alloc (Nat.le_refl _) (.cells #[.int .i64 no, .int .i64 x.n, .int .i64 x.r, .string x.s] 55)).alloc (by simp) (.cells #[.int .i64 d.n, .int .i64 d.r, .string d.s] 25))
        have BN := Lib.hid bN
        have HBN := Lib.hid (HB.out.trans (bN.mono HB.out.size))
        have HJ := Lib.hid (cjoin_any d x _ (HLA.out _ HBN.out) (HS.out _ _ hg) HWF.out.2)
        have FN := Lib.hid ((FlAt.new wr ⟨no, x⟩).old (.cells #[.int .i64 d.n, .int .i64 d.r, .string d.s] 25))
        dsimp only [Cel.v] at FN HJ
        generalize cjoin d x = y at HGV HJ
        clear hg bN
        go_wp2_with fail
        refine HJ.out.mono ?_
        rintro e w4 ⟨rfl, hb4⟩
        have F4 := FN.out.below hb4 FN.out.lt
        have e1 := F4.c1
        have e2 := F4.c2
        have e3 := F4.c3
        have f1 := F4.fz 1
        have f2 := F4.fz 2
        have f3 := F4.fz 3
        have F5 := F4.put3 y
        have g0 := F5.c0
        have g1 := F5.c1
        have g2 := F5.c2
        have g3 := F5.c3
        have B4 := BN.out.trans (hb4.mono BN.out.size)
        have BP := Lib.hid (below_put3' B4 (Nat.le_refl wr.heap.size) (.int .i64 y.n) (.int .i64 y.r) (.string y.s))
        have MN := Lib.hid (HM.out.below BP.out hlt2)
        dsimp only at g0 g1 g2 g3
        clear hb4 F4 F5 B4 c0 c1 c2 c3
        go_wp2_with (at_mapUpdate; refine wpList_mapUpdate_cel rfl _ _ _ rfl w.heap.size k g no y rfl rfl rfl MN.out (by omega) HWF.out.1 ?_; intro w5 hM5 hg5)
        have HM5 := Lib.hid hM5
        have HBP := Lib.hid (HB.out.trans (BP.out.mono HB.out.size))
        have HB5 := Lib.hid (HBP.out.grown hg5 HBP.out.size (fun k e => by cases e; exact Nat.le_refl _))
        clear hg5 hM5
        go_roundw
        case rel => exact ⟨k + 1, by omega, by go_num, by rw [HGS.out, HGV.out]; exact HM5.out, by rw [HGS.out]; exact HSM.out, HB5.out⟩
        case measure => simp [intOf]; omega
    · obtain rfl : k = len := by omega
      rw [List.take_of_length_le (by rw [HL.out]; exact Nat.le_refl _)] at hM
      have HM := Lib.hid hM
      have HB := Lib.hid hb
      clear hM hb hS
      go_wp2
      go_ret
      exact ⟨_, _, rfl, Nat.le_refl _, HM.out, HB.out⟩
end Go.Proofs.YtonbhcbkelmhgaaDoor
