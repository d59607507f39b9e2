import Derived.Test.YtnlhkpmgbpfjmaaGreatDoorQc0
import Derived.Test.YtnlhkpmgbpfjmaaGreatDoorQc14
import Derived.Test.YtnlhkpmgbpfjmaaGreatDoorQc8
import Derived.Test.YtnlhkpmgbpfjmaaGreatDoorQc19
import Derived.Test.YtnlhkpmgbpfjmaaGreatDoorQc15
import Derived.Test.YtnlhkpmgbpfjmaaGreatDoorQc16
/-
  What the functions that a law of this layer reaches answer, part 20. Nothing that was there is written.
-/
namespace Go.Proofs.YtnlhkpmgbpfjmaaGreatDoor
set_option linter.unusedVariables false
set_option linter.unusedSimpArgs false
section
section
open Go.RowKit WM
set_option maxRecDepth 100000
def lastF (s : Int × Int) (fs : List Fld) : Int × Int := fs.foldl (fun s f => mx s (f.c.n, f.c.r)) s
def lastR (s : Int × Int) (r : Rc) : Int × Int := lastF (mx s (r.n, r.r)) r.fs
def blast (rs : List Rc) : Int × Int := rs.foldl lastR (0, 0)
theorem lastF_snoc {s : Int × Int} {fs : List Fld} {k : Nat} (hk : k < fs.length) : lastF s (fs.take (k + 1)) = mx (lastF s (fs.take k)) ((fs.getD k fld0).c.n, (fs.getD k fld0).c.r) := by
 unfold lastF
 rw [List.take_succ_eq_append_getElem hk, List.foldl_append]
 simp only [List.foldl_cons, List.foldl_nil, List.getD, List.getElem?_eq_getElem hk, Option.getD_some]
theorem last_snoc {xs : List RcA} {k : Nat} (hk : k < xs.length) : ((xs.take (k + 1)).map (·.R)).foldl lastR (0, 0) = lastR (((xs.take k).map (·.R)).foldl lastR (0, 0)) (xs.getD k rcA0).R := by
 rw [List.take_succ_eq_append_getElem hk, List.map_append, List.foldl_append]
 simp only [List.map_cons, List.map_nil, List.foldl_cons, List.foldl_nil, List.getD, List.getElem?_eq_getElem hk, Option.getD_some]
set_option maxHeartbeats 8000000 in
theorem blast_any (b : Bk) (w : World) (h : BkAt w b) :
  Calls Tryz.prog 65 #[.agg #[.slice b.A b.xs.length b.c]] w fun e w' => e = .returned (st (blast b.rs).1 (blast b.rs).2) ∧ Below w.heap.size w w' := by
 obtain ⟨xs, A, c⟩ := b
 dsimp only at h ⊢
 have s0 := (((BoAt.new w (.slice A xs.length c)).old (.cells #[.int .i64 0, .int .i64 0] 33)).old (.cells #[.int .i64 0, .int .i64 0] 33))
 have c00 := s0.c0
 have r1 := (StAt.new (w.alloc (.cells #[.slice A xs.length c] 24)) 0 0).old (.cells #[.int .i64 0, .int .i64 0] 33)
 rw [World.size_alloc] at r1
 have r2 := StAt.new ((w.alloc (.cells #[.slice A xs.length c] 24)).alloc (.cells #[.int .i64 0, .int .i64 0] 33)) 0 0
 rw [World.size_alloc, World.size_alloc] at r2
 have HB := Lib.hid ((((Below.refl w.heap.size w).alloc (Nat.le_refl _) (.cells #[.slice A xs.length c] 24)).alloc (by simp) (.cells #[.int .i64 0, .int .i64 0] 33)).alloc (by simp; omega) (.cells #[.int .i64 0, .int .i64 0] 33))
 have H0 := Lib.hid (And.intro r1 r2)
 have HRV := Lib.hid (fun i (hi : i < xs.length) => RsAt.rv h hi)
 obtain ⟨hc1, hc2, hc3, hcell, _⟩ := h
 dsimp only at hc1 hc2 hc3 hcell HRV
 simp only [maxLen] at hc2
 have HC := Lib.hid hcell
 have hz := zeroX
 have HMX := Lib.hid max_any
 unfold st at HMX
 generalize hlen : xs.length = len at *
 have HLN := Lib.hid hlen
 clear hcell s0 r1 r2 hlen
 unfold blast Bk.rs st
 dsimp only
 generalize hV : (xs.map (·.R)).foldl lastR (0, 0) = V
 have HV := Lib.hid hV
 clear hV
 go_enter Tryz.func65, Tryz.ntmps65
 go_wp2
 clear c00
 go_loopw [11] (fun i wr => ∃ (k : Nat) (s : Int × Int), k ≤ len ∧ i = .int .i64 k ∧ StAt wr (w.heap.size + 1) 0 0 ∧ StAt wr (w.heap.size + 1 + 1) s.1 s.2 ∧ Below w.heap.size w wr ∧ s = ((xs.take k).map (·.R)).foldl lastR (0, 0)) (fun i _ => len - (intOf i).toNat)
 case atStart => exact ⟨0, (0, 0), Nat.zero_le _, rfl, H0.out.1, H0.out.2, HB.out, rfl⟩
 case round =>
  obtain ⟨k, s, hk, rfl, hr, hs, hb, hf⟩ := hrel
  by_cases hlt : k < len
  ·obtain ⟨b0, off, rfl, hbB, hcc⟩ := HC.out (by omega)
   have hx := (hcc k hlt).same (hb.block b0 hbB)
   have IX := ix_rec b0 off len c k hlt k rfl
   have hvx := HRV.out k hlt
   have hsn := last_snoc (xs := xs) (k := k) (by rw [HLN.out]; exact hlt)
   rw [← hf] at hsn
   generalize xs.getD k rcA0 = x at *
   generalize off + k * 19 = ox at *
   have LX := Lib.hid hx.load
   have HVX := Lib.hid hvx
   have ZX := Lib.hid hvx.len
   have HSN := Lib.hid hsn
   have HBB := Lib.hid (And.intro hr (And.intro hs hb))
   clear hcc hx hvx hsn hr hs hb hf
   go_wp2_with (first | ((with_reducible refine wpList_load_by (o := ⟨some 14, .load 36 (.tmp 13), _, _, _, _⟩) ?e1 36 (.tmp 13) ?e2 ⟨b0, ox, none⟩ ?e3 _ LX.out ?_); (case e1 => rfl); (case e2 => rfl); (case e3 => rfl)) | ((with_reducible refine wpList_store_newx (o := ⟨none, .store 36 (.tmp 5) (.tmp 14), _, _, _, _⟩) (w := wr) ?e1 (.tmp 5) (.tmp 14) ?e2 wr.heap.size ?e0 ?e3 x ?e4 ZX.out ?_); (case e1 => rfl); (case e2 => rfl); (case e0 => rfl); (case e3 => rfl); (case e4 => rfl); intro w2 hb2 hx2 hs2; have X2 := Lib.hid hx2; have R2 := Lib.hid (HBB.out.1.below hb2 HBB.out.1.lt); have S2 := Lib.hid (HBB.out.2.1.below hb2 HBB.out.2.1.lt); have B2 := Lib.hid (HBB.out.2.2.trans (hb2.mono HBB.out.2.2.size)); have d16 := X2.out.c16; have d17 := X2.out.c17; have e0 := S2.out.c0; have e1 := S2.out.c1; clear hx2 hb2 hs2))
   refine (HMX.out s (x.R.n, x.R.r) _).mono ?_
   rintro e w3 ⟨rfl, hb3⟩
   have X3 := X2.out.below hb3 X2.out.lt
   have S3 := S2.out.below hb3 S2.out.lt
   have R3 := Lib.hid (R2.out.below hb3 R2.out.lt)
   have f0 := S3.fz 0
   have f1 := S3.fz 1
   have e0 := S3.c0
   have e1 := S3.c1
   have B3 := B2.out.trans (hb3.mono B2.out.size)
   have S4 := Lib.hid (S3.put (mx s (x.R.n, x.R.r)).1 (mx s (x.R.n, x.R.r)).2)
   have B4 := Lib.hid (below_put B3 (show w.heap.size ≤ w.heap.size + 1 + 1 by omega) (.int .i64 (mx s (x.R.n, x.R.r)).1) (.int .i64 (mx s (x.R.n, x.R.r)).2))
   have R4 : Hid (StAt (((w3.setCell ⟨w.heap.size + 1 + 1, 0, none⟩ (.int .i64 (mx s (x.R.n, x.R.r)).1))).setCell ⟨w.heap.size + 1 + 1, 1, none⟩ (.int .i64 (mx s (x.R.n, x.R.r)).2)) (w.heap.size + 1) 0 0) := Lib.hid (by
    unfold StAt
    rw [Below.heap_setCell _ _ _ _ (show w.heap.size + 1 ≠ w.heap.size + 1 + 1 by omega), Below.heap_setCell _ _ _ _ (show w.heap.size + 1 ≠ w.heap.size + 1 + 1 by omega)]
    exact R3.out)
   have X4 : XAt (((w3.setCell ⟨w.heap.size + 1 + 1, 0, none⟩ (.int .i64 (mx s (x.R.n, x.R.r)).1))).setCell ⟨w.heap.size + 1 + 1, 1, none⟩ (.int .i64 (mx s (x.R.n, x.R.r)).2)) wr.heap.size x := X3.same (by
    have := HBB.out.2.1.lt
    rw [Below.heap_setCell _ _ _ _ (show wr.heap.size ≠ w.heap.size + 1 + 1 by omega), Below.heap_setCell _ _ _ _ (show wr.heap.size ≠ w.heap.size + 1 + 1 by omega)])
   have x18 := X4.c18
   have HS0 : Hid (lastR s x.R = lastF (mx s (x.R.n, x.R.r)) x.R.fs) := Lib.hid rfl
   have HFS := Lib.hid HVX.out.2
   generalize mx s (x.R.n, x.R.r) = s0 at *
   generalize hfl : x.R.fs.length = fl at *
   have HFL := Lib.hid hfl
   clear hb3 X3 S3 B3 X4 hfl d16 d17
   go_wp2
   clear x18 e0 e1 f0 f1
   generalize hw4 : ((w3.setCell ⟨w.heap.size + 1 + 1, 0, none⟩ (.int .i64 s0.1))).setCell ⟨w.heap.size + 1 + 1, 1, none⟩ (.int .i64 s0.2) = w4 at *
   go_loopw [22] (fun i wi => ∃ (j : Nat) (t : Int × Int), j ≤ fl ∧ i = .int .i64 j ∧ StAt wi (w.heap.size + 1) 0 0 ∧ StAt wi (w.heap.size + 1 + 1) t.1 t.2 ∧ Below w.heap.size w wi ∧ t = lastF s0 (x.R.fs.take j)) (fun i _ => fl - (intOf i).toNat)
   case atStart => exact ⟨0, s0, Nat.zero_le _, rfl, R4.out, S4.out, B4.out, rfl⟩
   case round =>
    obtain ⟨j, t, hj, rfl, hr, hs, hb, hf⟩ := hrel
    by_cases hlt2 : j < fl
    ·obtain ⟨hq1, hq2, hq3, hq4⟩ := HFS.out
     obtain ⟨b1, off1, hA1, hb1, hcc⟩ := hq4 (by rw [HFL.out]; omega)
     simp only [maxLen] at hq2
     have hflc : fl ≤ x.c := by have := HFL.out; omega
     rw [hA1]
     obtain ⟨c0, c1, c2, c3⟩ := hcc j (by rw [HFL.out]; exact hlt2)
     have c0 := (hb.cell (p := ⟨b1, off1 + j * 4, none⟩) hb1).trans c0
     have c1 := (hb.cell (p := ⟨b1, off1 + j * 4 + 1, none⟩) hb1).trans c1
     have c2 := (hb.cell (p := ⟨b1, off1 + j * 4 + 2, none⟩) hb1).trans c2
     have c3 := (hb.cell (p := ⟨b1, off1 + j * 4 + 3, none⟩) hb1).trans c3
     have IXF := ix_fld b1 off1 fl x.c j hlt2 j rfl
     have hsn := lastF_snoc (s := s0) (fs := x.R.fs) (k := j) (by rw [HFL.out]; exact hlt2)
     rw [← hf] at hsn
     generalize x.R.fs.getD j fld0 = f at *
     generalize off1 + j * 4 = o1 at *
     have HSN2 := Lib.hid hsn
     have SA := hs.old (.cells #[.int .i64 f.no, .int .i64 f.c.n, .int .i64 f.c.r, .string f.c.s] 59)
     have RA := hr.old (.cells #[.int .i64 f.no, .int .i64 f.c.n, .int .i64 f.c.r, .string f.c.s] 59)
     have BA := hb.alloc hb.size (.cells #[.int .i64 f.no, .int .i64 f.c.n, .int .i64 f.c.r, .string f.c.s] 59)
     have e0 := SA.c0
     have e1 := SA.c1
     have HSA := Lib.hid (And.intro SA (And.intro RA BA))
     have HA1 := Lib.hid hA1
     clear hcc hq4 hsn hr hs hb hf SA RA BA hA1
     go_wp2_with fail
     refine (HMX.out t (f.c.n, f.c.r) _).mono ?_
     rintro e w5 ⟨rfl, hb5⟩
     have S5 := HSA.out.1.below hb5 HSA.out.1.lt
     have f0 := S5.fz 0
     have f1 := S5.fz 1
     have e0 := S5.c0
     have e1 := S5.c1
     have R5 := HSA.out.2.1.below hb5 HSA.out.2.1.lt
     have B5 := HSA.out.2.2.trans (hb5.mono HSA.out.2.2.size)
     have S6 := Lib.hid (S5.put (mx t (f.c.n, f.c.r)).1 (mx t (f.c.n, f.c.r)).2)
     have B6 := Lib.hid (below_put B5 (show w.heap.size ≤ w.heap.size + 1 + 1 by omega) (.int .i64 (mx t (f.c.n, f.c.r)).1) (.int .i64 (mx t (f.c.n, f.c.r)).2))
     have R6 : Hid (StAt (((w5.setCell ⟨w.heap.size + 1 + 1, 0, none⟩ (.int .i64 (mx t (f.c.n, f.c.r)).1))).setCell ⟨w.heap.size + 1 + 1, 1, none⟩ (.int .i64 (mx t (f.c.n, f.c.r)).2)) (w.heap.size + 1) 0 0) := Lib.hid (by
      unfold StAt
      rw [Below.heap_setCell _ _ _ _ (show w.heap.size + 1 ≠ w.heap.size + 1 + 1 by omega), Below.heap_setCell _ _ _ _ (show w.heap.size + 1 ≠ w.heap.size + 1 + 1 by omega)]
      exact R5)
     generalize mx t (f.c.n, f.c.r) = t2 at *
     clear hb5 S5 R5 B5 c0 c1 c2 c3
     go_wp2
     go_roundw
     case rel => exact ⟨j + 1, t2, by omega, by go_num, R6.out, S6.out, B6.out, HSN2.out.symm⟩
     case measure => simp [intOf]; omega
    ·obtain rfl : j = fl := by omega
     rw [List.take_of_length_le (by rw [HFL.out]; exact Nat.le_refl _), ← HS0.out, ← HSN.out] at hf
     have HF2 := Lib.hid hf
     have HRR := Lib.hid (And.intro hr (And.intro hs hb))
     clear hr hs hb hf
     go_wp2
     go_roundw
     case rel => exact ⟨k + 1, t, by omega, by go_num, HRR.out.1, HRR.out.2.1, HRR.out.2.2, HF2.out⟩
     case measure => simp [intOf]; omega
  ·obtain rfl : k = len := by omega
   rw [List.take_of_length_le (by rw [HLN.out]; exact Nat.le_refl _), HV.out] at hf
   subst hf
   have e0 := hs.c0
   have e1 := hs.c1
   have f0 := hr.fz 0
   have f1 := hr.fz 1
   have g0 := hr.c0
   have g1 := hr.c1
   have HP := Lib.hid (hr.put s.1 s.2)
   have HQ := Lib.hid (below_put hb (show w.heap.size ≤ w.heap.size + 1 by omega) (.int .i64 s.1) (.int .i64 s.2))
   clear hs hr hb
   go_wp2
   refine bodyPost_ret (v := st s.1 s.2) ?_ rfl ⟨rfl, HQ.out⟩
   exact res_st Tryz.results65 rfl HP.out
end
section
open Go.RowKit WM
set_option maxRecDepth 100000
theorem bmayRep_any (r : Int) (w : World) : Calls Tryz.prog 63 #[.int .i64 r] w fun e w' => e = .returned (.bool (mayR r)) ∧ Below w.heap.size w w' := by
 have HB := Lib.hid (Below.refl w.heap.size w)
 by_cases h0 : 0 ≤ r
 ·go_enter Tryz.func63, Tryz.ntmps63
  go_wp2
  go_ret
  exact ⟨by simp [mayR, h0], HB.out⟩
 ·go_enter Tryz.func63, Tryz.ntmps63
  go_wp2
  go_ret
  exact ⟨by rw [mayR, decide_eq_false (by omega)]; rfl, HB.out⟩
theorem one_at {w : World} {x : RcA} (h : RvAt w x) : BkAt (w.alloc (.cells x.cells 36)) ⟨[x], some ⟨w.heap.size, 0, none⟩, 1⟩ := by
 refine ⟨Nat.le_refl _, (show 1 ≤ maxLen by decide), (fun e => by cases e), fun _ => ⟨w.heap.size, 0, rfl, by rw [World.size_alloc]; omega, fun i hi => ?_⟩, fun y hy => ?_⟩
 ·obtain rfl : i = 0 := by simpa using hi
  exact (XAt.new w h.len).rec
 ·rw [List.mem_singleton.1 hy]
  exact h.below ((Below.refl w.heap.size w).alloc (Nat.le_refl _) _) (Nat.le_refl _)
set_option maxHeartbeats 4000000 in
theorem with_any (b : Bk) (x : RcA) (w : World) (hlaid : Laid w) (h1 : BkAt w b) (h2 : RvAt w x) :
  Calls Tryz.prog 66 #[.agg #[.slice b.A b.xs.length b.c], .agg x.cells] w (BJoinPost w (bjE b.rs [x.R])) := by
 have s0 := ((BoAt.new w (.slice b.A b.xs.length b.c)).old (.cells x.cells 36)).old (.cells #[.slice none 0 0] 24)
 have x1 := (XAt.new (x := x) (w.alloc (.cells #[.slice b.A b.xs.length b.c] 24)) h2.len).old (.cells #[.slice none 0 0] 24)
 rw [World.size_alloc] at x1
 have s2 := BoAt.new ((w.alloc (.cells #[.slice b.A b.xs.length b.c] 24)).alloc (.cells x.cells 36)) (.slice none 0 0)
 rw [World.size_alloc, World.size_alloc] at s2
 have S2 := Lib.hid s2
 have HB := Lib.hid ((((Below.refl w.heap.size w).alloc (Nat.le_refl _) (.cells #[.slice b.A b.xs.length b.c] 24)).alloc (by simp) (.cells x.cells 36)).alloc (by simp; omega) (.cells #[.slice none 0 0] 24))
 have L6 := Lib.hid s0.load
 have L7 := Lib.hid x1.load
 have ZX := Lib.hid h2.len
 have hz : ∀ w : World, (zeroValue 24).run Tryz.prog w = .ok (.agg #[.slice none 0 0]) w := zeroBook
 have hb1 := build_book
 have hv := h2.below HB.out (Nat.le_refl _)
 have BA := (Below.refl ((((w.alloc (.cells #[.slice b.A b.xs.length b.c] 24)).alloc (.cells x.cells 36)).alloc (.cells #[.slice none 0 0] 24))).heap.size _).alloc (Nat.le_refl _) (.cells x.cells 36)
 have HBA := Lib.hid (HB.out.trans (BA.mono HB.out.size))
 have HO := one_at hv
 have HJ := Lib.hid (bjoin_any b ⟨[x], _, 1⟩ _ (hlaid.below HBA.out (Nat.le_refl _)) (h1.below HBA.out (Nat.le_refl _)) HO)
 have S3 := Lib.hid (S2.out.below BA S2.out.lt)
 unfold BJoinPost at HJ
 unfold BJoinPost
 have HE : Hid (bjE b.rs (Bk.rs ⟨[x], some ⟨w.heap.size + 1 + 1 + 1, 0, none⟩, 1⟩) = bjE b.rs [x.R]) := Lib.hid rfl
 simp only [World.size_alloc] at HJ
 dsimp only [List.length_cons, List.length_nil] at HJ
 rw [HE.out] at HJ
 generalize bjE b.rs [x.R] = r at HJ ⊢
 clear s0 x1 s2 h1 h2 hlaid hv BA HO
 go_enter Tryz.func66, Tryz.ntmps66
 go_wp2_with (first | ((with_reducible refine wpList_load_by (o := ⟨some 6, .load 24 (.tmp 2), _, _, _, _⟩) ?e1 24 (.tmp 2) ?e2 ⟨w.heap.size, 0, none⟩ ?e3 _ L6.out ?_); (case e1 => rfl); (case e2 => rfl); (case e3 => rfl)) | ((with_reducible refine wpList_load_by (o := ⟨some 7, .load 36 (.tmp 3), _, _, _, _⟩) ?e1 36 (.tmp 3) ?e2 ⟨(w.heap.size + 1), 0, none⟩ ?e3 _ L7.out ?_); (case e1 => rfl); (case e2 => rfl); (case e3 => rfl)) | ((with_reducible refine wpList_bslice (o := ⟨some 8, .buildSlice 22 1 #[(0, .tmp 7)], _, _, _, _⟩) ?e1 (.tmp 7) ?e2 x ?e3 ZX.out ?_); (case e1 => rfl); (case e2 => rfl); (case e3 => rfl)))
 refine HJ.out.mono ?_
 rintro e w1 ⟨d, rfl, hd, hk, hb⟩
 have S4 := Lib.hid (S3.out.below hb (by have := S3.out.lt; simp only [World.size_alloc] at this; exact this))
 have B1 := Lib.hid (HBA.out.trans (hb.mono (by have := HBA.out.size; simp only [World.size_alloc] at this; exact this)))
 have HD := Lib.hid hd
 have HK := Lib.hid hk
 clear hb hd hk
 go_wp2_with (first | ((with_reducible refine wpList_store_oldb (o := ⟨none, .store 24 (.tmp 4) (.tmp 11), _, _, _, _⟩) ?e1 (.tmp 4) (.tmp 11) ?e2 (w.heap.size + 1 + 1) _ S4.out ?e3 (.slice d.A d.xs.length d.c) ?e4 ?e5 ?_); (case e1 => rfl); (case e2 => rfl); (case e3 => rfl); (case e4 => rfl); (case e5 => rfl); intro w2 hg2 hx2; have G9 := Lib.hid hg2; have X9 := Lib.hid hx2; clear hg2 hx2))
 refine bodyPost_ret (v := .tuple #[.agg #[.slice d.A d.xs.length d.c], .int .i64 r.1]) ?_ rfl ?_
 ·exact res_bk2 Tryz.results66 rfl X9.out
 ·exact ⟨d, rfl, HD.out, HK.out.kept_bo G9.out S4.out, B1.out.grown G9.out B1.out.size (fun k e => by have := Option.some.inj e; omega)⟩
theorem wpList_build_by {w : World} {ops : Array Oper} {rest : List Oper} {o : Oper} {a : Act} {Q : Exit → Act → World → Prop} (hgd : o.guard = none) (t : TypeId) (parts : Array (Nat × Operand)) (hop : o.op = .build t parts) (ps : Array (Nat × Value)) (hp : parts.map (fun x => (x.1, a.eval x.2)) = ps)
  (v : Value) (hv : (Instr.build t ps).run Tryz.prog w = .ok v w) (hK : wpList Tryz.prog ops Q rest (a.put o.dst v) w) : wpList Tryz.prog ops Q (o :: rest) a w := by
 refine wpList_plain hgd fun K' hK' => ?_
 unfold Oper.wp execOp
 have e : parts.map (fun x => match x with | (i, x) => (i, a.eval x)) = ps := hp
 simp only [hop]
 rw [e]
 simp only [Sem.run_bind, hv, Result.andThen_ok, Sem.run_pure]
 exact hK' _ _ hK
def bnext (rs : List Rc) (q : Int) : Int × Int × Int := nxt (blast rs).1 (blast rs).2 q
def bwok (rs : List Rc) (no q : Int) (s : ByteArray) : Bool := bmay rs && decide (0 ≤ no) && decide (no < 8) && mayR q && decide (s.size ≤ 200)
def wrec (z : List Int) (no : Int) (t : Int × Int × Int) (s : ByteArray) : Rc := ⟨z, 0, 0, [⟨no, ⟨t.1, t.2.1, s⟩⟩]⟩
def bwrite (rs : List Rc) (z : List Int) (no q : Int) (s : ByteArray) : Int × List Rc :=
 if bwok rs no q s = true then (if (bnext rs q).2.2 = 0 then bjE rs [wrec z no (bnext rs q) s] else ((bnext rs q).2.2, [])) else (1, [])
theorem built_zf {z : List Int} (h : z.length = 16) (A : Option Addr) (l c : Nat) : Tryz.prog.built 36 [(0, .agg (bvals z)), (2, .slice A l c)] = some (rcells z 0 0 (.slice A l c)) := by
 obtain ⟨a, b, c', d, e, f, g, i, j, k, l', m, n', o, p, q, rfl⟩ := list16 h
 kernel_rfl
theorem build_zf {z : List Int} (h : z.length = 16) (A : Option Addr) (l c : Nat) (w : World) : (Instr.build 36 #[(0, .agg (bvals z)), (2, .slice A l c)]).run Tryz.prog w = .ok (.agg (rcells z 0 0 (.slice A l c))) w := run_build w _ _ _ (built_zf h A l c)
theorem build_zd {z : List Int} (h : z.length = 16) (n r : Int) (w : World) : (Instr.build 36 #[(0, .agg (bvals z)), (1, .agg #[.int .i64 n, .int .i64 r])]).run Tryz.prog w = .ok (.agg (rcells z n r (.slice none 0 0))) w := build_rec h n r w
theorem fs_one' (w : World) (f : Fld) : FsAt (w.alloc (.cells #[.int .i64 f.no, .int .i64 f.c.n, .int .i64 f.c.r, .string f.c.s] 59)) (some ⟨w.heap.size, 0, none⟩) 1 [f] := by
 have hF := FlAt.new w f
 refine ⟨Nat.le_refl _, by decide, fun h => (by cases h), fun _ => ⟨w.heap.size, 0, rfl, hF.lt, fun i hi => ?_⟩⟩
 obtain rfl : i = 0 := by simpa using hi
 exact ⟨hF.c0, hF.c1, hF.c2, hF.c3⟩
end
section
open Go.RowKit WM
set_option maxRecDepth 100000
set_option maxHeartbeats 16000000 in
theorem bwrite_any (b : Bk) (z : List Int) (no q : Int) (s : ByteArray) (w : World) (hlaid : Laid w) (h1 : BkAt w b) (hz16 : z.length = 16) (hzb : AllBytes z) :
  Calls Tryz.prog 32 #[.agg #[.slice b.A b.xs.length b.c], .agg (bvals z), .int .i64 no, .int .i64 q, .string s] w (BJoinPost w (bwrite b.rs z no q s)) := by
 have s0 := ((BoAt.new w (.slice b.A b.xs.length b.c)).old (.cells (bvals z) 31)).old (.cells #[.slice none 0 0] 24)
 have i1 := (IdAt.new (w.alloc (.cells #[.slice b.A b.xs.length b.c] 24)) hz16).old (.cells #[.slice none 0 0] 24)
 rw [World.size_alloc] at i1
 have s2 := BoAt.new ((w.alloc (.cells #[.slice b.A b.xs.length b.c] 24)).alloc (.cells (bvals z) 31)) (.slice none 0 0)
 rw [World.size_alloc, World.size_alloc] at s2
 have S0 := Lib.hid s0
 have I1 := Lib.hid i1
 have S2 := Lib.hid s2
 have HB := Lib.hid ((((Below.refl w.heap.size w).alloc (Nat.le_refl _) (.cells #[.slice b.A b.xs.length b.c] 24)).alloc (by simp) (.cells (bvals z) 31)).alloc (by simp; omega) (.cells #[.slice none 0 0] 24))
 have LA := Lib.hid S0.out.load
 have HM := Lib.hid (bmay_any b _ (h1.below HB.out (Nat.le_refl _)))
 have H1 := Lib.hid h1
 have HZ := Lib.hid (And.intro hz16 hzb)
 have hz : ∀ w : World, (zeroValue 24).run Tryz.prog w = .ok (.agg #[.slice none 0 0]) w := zeroBook
 have hb0 := build_book0
 have HLA := Lib.hid (fun (X : World) (hX : Below w.heap.size w X) => hlaid.below hX (Nat.le_refl _))
 have HR := Lib.hid (fun w => bmayRep_any q w)
 have HN := Lib.hid (fun w => next_any (blast b.rs).1 (blast b.rs).2 q w)
 have HTT : Hid (nxt (blast b.rs).1 (blast b.rs).2 q = bnext b.rs q) := Lib.hid rfl
 rw [HTT.out] at HN
 unfold st nxtV st at HN
 clear s0 i1 s2 h1 hlaid hz16 hzb
 cases hm : bmay b.rs
 ·have HE := Lib.hid (show bwrite b.rs z no q s = (1, []) by unfold bwrite bwok; rw [hm]; rfl)
  rw [hm] at HM
  clear hm
  go_enter Tryz.func32, Tryz.ntmps32
  go_wp2_with (first | ((with_reducible refine wpList_load_by (o := ⟨some 15, .load 24 (.tmp 5), _, _, _, _⟩) ?e1 24 (.tmp 5) ?e2 ⟨w.heap.size, 0, none⟩ ?e3 _ LA.out ?_); (case e1 => rfl); (case e2 => rfl); (case e3 => rfl)))
  refine HM.out.mono ?_
  rintro e w1 ⟨rfl, hb⟩
  have S01 := Lib.hid (S0.out.below hb S0.out.lt)
  have I11 := Lib.hid (I1.out.below hb I1.out.lt)
  have S21 := Lib.hid (S2.out.below hb S2.out.lt)
  have B1 := Lib.hid (HB.out.trans (hb.mono HB.out.size))
  clear hb
  go_wp2_with (first | ((with_reducible refine wpList_store_oldb (o := ⟨none, .store 24 (.tmp 10) (.tmp 36), _, _, _, _⟩) ?e1 (.tmp 10) (.tmp 36) ?e2 (w.heap.size + 1 + 1) _ S21.out ?e3 (.slice none 0 0) ?e4 ?e5 ?_); (case e1 => rfl); (case e2 => rfl); (case e3 => rfl); (case e4 => rfl); (case e5 => rfl); intro w2 hg2 hx2; have G9 := Lib.hid hg2; have X9 := Lib.hid hx2; clear hg2 hx2))
  refine bodyPost_ret (v := .tuple #[.agg #[.slice none 0 0], .int .i64 1]) ?_ rfl ?_
  ·exact res_bk2 Tryz.results32 rfl X9.out
  ·rw [HE.out]
   exact ⟨bk0, rfl, rfl, BkAt.zero _, B1.out.grown G9.out B1.out.size (fun k e => by have := Option.some.inj e; omega)⟩
 ·rw [hm] at HM
  by_cases t1 : no < 0
  ·have HE := Lib.hid (show bwrite b.rs z no q s = (1, []) by unfold bwrite bwok; rw [hm, decide_eq_false (show ¬ 0 ≤ no by omega)]; rfl)
   clear hm
   go_enter Tryz.func32, Tryz.ntmps32
   go_wp2_with (first | ((with_reducible refine wpList_load_by (o := ⟨some 15, .load 24 (.tmp 5), _, _, _, _⟩) ?e1 24 (.tmp 5) ?e2 ⟨w.heap.size, 0, none⟩ ?e3 _ LA.out ?_); (case e1 => rfl); (case e2 => rfl); (case e3 => rfl)))
   refine HM.out.mono ?_
   rintro e w1 ⟨rfl, hb⟩
   have S01 := Lib.hid (S0.out.below hb S0.out.lt)
   have I11 := Lib.hid (I1.out.below hb I1.out.lt)
   have S21 := Lib.hid (S2.out.below hb S2.out.lt)
   have B1 := Lib.hid (HB.out.trans (hb.mono HB.out.size))
   clear hb
   go_wp2_with (first | ((with_reducible refine wpList_store_oldb (o := ⟨none, .store 24 (.tmp 10) (.tmp 36), _, _, _, _⟩) ?e1 (.tmp 10) (.tmp 36) ?e2 (w.heap.size + 1 + 1) _ S21.out ?e3 (.slice none 0 0) ?e4 ?e5 ?_); (case e1 => rfl); (case e2 => rfl); (case e3 => rfl); (case e4 => rfl); (case e5 => rfl); intro w2 hg2 hx2; have G9 := Lib.hid hg2; have X9 := Lib.hid hx2; clear hg2 hx2))
   refine bodyPost_ret (v := .tuple #[.agg #[.slice none 0 0], .int .i64 1]) ?_ rfl ?_
   ·exact res_bk2 Tryz.results32 rfl X9.out
   ·rw [HE.out]
    exact ⟨bk0, rfl, rfl, BkAt.zero _, B1.out.grown G9.out B1.out.size (fun k e => by have := Option.some.inj e; omega)⟩
  ·by_cases t2 : 8 ≤ no
   ·have HE := Lib.hid (show bwrite b.rs z no q s = (1, []) by unfold bwrite bwok; rw [hm, decide_eq_false (show ¬ no < 8 by omega), Bool.and_false]; rfl)
    clear hm
    go_enter Tryz.func32, Tryz.ntmps32
    go_wp2_with (first | ((with_reducible refine wpList_load_by (o := ⟨some 15, .load 24 (.tmp 5), _, _, _, _⟩) ?e1 24 (.tmp 5) ?e2 ⟨w.heap.size, 0, none⟩ ?e3 _ LA.out ?_); (case e1 => rfl); (case e2 => rfl); (case e3 => rfl)))
    refine HM.out.mono ?_
    rintro e w1 ⟨rfl, hb⟩
    have S01 := Lib.hid (S0.out.below hb S0.out.lt)
    have I11 := Lib.hid (I1.out.below hb I1.out.lt)
    have S21 := Lib.hid (S2.out.below hb S2.out.lt)
    have B1 := Lib.hid (HB.out.trans (hb.mono HB.out.size))
    clear hb
    go_wp2_with (first | ((with_reducible refine wpList_store_oldb (o := ⟨none, .store 24 (.tmp 10) (.tmp 36), _, _, _, _⟩) ?e1 (.tmp 10) (.tmp 36) ?e2 (w.heap.size + 1 + 1) _ S21.out ?e3 (.slice none 0 0) ?e4 ?e5 ?_); (case e1 => rfl); (case e2 => rfl); (case e3 => rfl); (case e4 => rfl); (case e5 => rfl); intro w2 hg2 hx2; have G9 := Lib.hid hg2; have X9 := Lib.hid hx2; clear hg2 hx2))
    refine bodyPost_ret (v := .tuple #[.agg #[.slice none 0 0], .int .i64 1]) ?_ rfl ?_
    ·exact res_bk2 Tryz.results32 rfl X9.out
    ·rw [HE.out]
     exact ⟨bk0, rfl, rfl, BkAt.zero _, B1.out.grown G9.out B1.out.size (fun k e => by have := Option.some.inj e; omega)⟩
   ·cases hq : mayR q
    ·have HE := Lib.hid (show bwrite b.rs z no q s = (1, []) by unfold bwrite bwok; rw [hq, Bool.and_false]; rfl)
     rw [hq] at HR
     clear hm hq
     go_enter Tryz.func32, Tryz.ntmps32
     go_wp2_with (first | ((with_reducible refine wpList_load_by (o := ⟨some 15, .load 24 (.tmp 5), _, _, _, _⟩) ?e1 24 (.tmp 5) ?e2 ⟨w.heap.size, 0, none⟩ ?e3 _ LA.out ?_); (case e1 => rfl); (case e2 => rfl); (case e3 => rfl)))
     refine HM.out.mono ?_
     rintro e w1 ⟨rfl, hb⟩
     have S01 := Lib.hid (S0.out.below hb S0.out.lt)
     have I11 := Lib.hid (I1.out.below hb I1.out.lt)
     have S21 := Lib.hid (S2.out.below hb S2.out.lt)
     have B1 := Lib.hid (HB.out.trans (hb.mono HB.out.size))
     clear hb
     go_wp2_with fail
     refine (HR.out _).mono ?_
     rintro e w2 ⟨rfl, hb⟩
     have S02 := Lib.hid (S01.out.below hb S01.out.lt)
     have I12 := Lib.hid (I11.out.below hb I11.out.lt)
     have S22 := Lib.hid (S21.out.below hb S21.out.lt)
     have B2 := Lib.hid (B1.out.trans (hb.mono B1.out.size))
     clear hb
     go_wp2_with (first | ((with_reducible refine wpList_store_oldb (o := ⟨none, .store 24 (.tmp 10) (.tmp 36), _, _, _, _⟩) ?e1 (.tmp 10) (.tmp 36) ?e2 (w.heap.size + 1 + 1) _ S22.out ?e3 (.slice none 0 0) ?e4 ?e5 ?_); (case e1 => rfl); (case e2 => rfl); (case e3 => rfl); (case e4 => rfl); (case e5 => rfl); intro w2 hg2 hx2; have G9 := Lib.hid hg2; have X9 := Lib.hid hx2; clear hg2 hx2))
     refine bodyPost_ret (v := .tuple #[.agg #[.slice none 0 0], .int .i64 1]) ?_ rfl ?_
     ·exact res_bk2 Tryz.results32 rfl X9.out
     ·rw [HE.out]
      exact ⟨bk0, rfl, rfl, BkAt.zero _, B2.out.grown G9.out B2.out.size (fun k e => by have := Option.some.inj e; omega)⟩
    ·rw [hq] at HR
     by_cases t3 : 200 < (s.size : Int)
     ·have HE := Lib.hid (show bwrite b.rs z no q s = (1, []) by unfold bwrite bwok; rw [decide_eq_false (show ¬ s.size ≤ 200 by omega), Bool.and_false]; rfl)
      clear hm hq
      go_enter Tryz.func32, Tryz.ntmps32
      go_wp2_with (first | ((with_reducible refine wpList_load_by (o := ⟨some 15, .load 24 (.tmp 5), _, _, _, _⟩) ?e1 24 (.tmp 5) ?e2 ⟨w.heap.size, 0, none⟩ ?e3 _ LA.out ?_); (case e1 => rfl); (case e2 => rfl); (case e3 => rfl)))
      refine HM.out.mono ?_
      rintro e w1 ⟨rfl, hb⟩
      have S01 := Lib.hid (S0.out.below hb S0.out.lt)
      have I11 := Lib.hid (I1.out.below hb I1.out.lt)
      have S21 := Lib.hid (S2.out.below hb S2.out.lt)
      have B1 := Lib.hid (HB.out.trans (hb.mono HB.out.size))
      clear hb
      go_wp2_with fail
      refine (HR.out _).mono ?_
      rintro e w2 ⟨rfl, hb⟩
      have S02 := Lib.hid (S01.out.below hb S01.out.lt)
      have I12 := Lib.hid (I11.out.below hb I11.out.lt)
      have S22 := Lib.hid (S21.out.below hb S21.out.lt)
      have B2 := Lib.hid (B1.out.trans (hb.mono B1.out.size))
      clear hb
      go_wp2_with (first | ((with_reducible refine wpList_store_oldb (o := ⟨none, .store 24 (.tmp 10) (.tmp 36), _, _, _, _⟩) ?e1 (.tmp 10) (.tmp 36) ?e2 (w.heap.size + 1 + 1) _ S22.out ?e3 (.slice none 0 0) ?e4 ?e5 ?_); (case e1 => rfl); (case e2 => rfl); (case e3 => rfl); (case e4 => rfl); (case e5 => rfl); intro w2 hg2 hx2; have G9 := Lib.hid hg2; have X9 := Lib.hid hx2; clear hg2 hx2))
      refine bodyPost_ret (v := .tuple #[.agg #[.slice none 0 0], .int .i64 1]) ?_ rfl ?_
      ·exact res_bk2 Tryz.results32 rfl X9.out
      ·rw [HE.out]
       exact ⟨bk0, rfl, rfl, BkAt.zero _, B2.out.grown G9.out B2.out.size (fun k e => by have := Option.some.inj e; omega)⟩
     ·have HOK : bwok b.rs no q s = true := by unfold bwok; rw [hm, hq, decide_eq_true (show 0 ≤ no by omega), decide_eq_true (show no < 8 by omega), decide_eq_true (show s.size ≤ 200 by omega)]; rfl
      have HEE : bwrite b.rs z no q s = if (bnext b.rs q).2.2 = 0 then bjE b.rs [wrec z no (bnext b.rs q) s] else ((bnext b.rs q).2.2, []) := by unfold bwrite; rw [HOK, if_pos rfl]
      clear hm hq HOK HTT
      generalize bnext b.rs q = t at *
      by_cases t4 : t.2.2 = 0
      ·rw [if_pos t4] at HEE
       have HE := Lib.hid HEE
       obtain ⟨r, hr⟩ : ∃ r, bjE b.rs [wrec z no t s] = r := ⟨_, rfl⟩
       have HRR : Hid (bjE b.rs [(⟨wrec z no t s, some ⟨0, 0, none⟩, 1⟩ : RcA).R] = r) := Lib.hid hr
       rw [hr] at HE
       clear HEE hr
       go_enter Tryz.func32, Tryz.ntmps32
       go_wp2_with (first | ((with_reducible refine wpList_load_by (o := ⟨some 15, .load 24 (.tmp 5), _, _, _, _⟩) ?e1 24 (.tmp 5) ?e2 ⟨w.heap.size, 0, none⟩ ?e3 _ LA.out ?_); (case e1 => rfl); (case e2 => rfl); (case e3 => rfl)))
       refine HM.out.mono ?_
       rintro e w1 ⟨rfl, hb⟩
       have S01 := Lib.hid (S0.out.below hb S0.out.lt)
       have I11 := Lib.hid (I1.out.below hb I1.out.lt)
       have S21 := Lib.hid (S2.out.below hb S2.out.lt)
       have B1 := Lib.hid (HB.out.trans (hb.mono HB.out.size))
       clear hb
       go_wp2_with fail
       refine (HR.out _).mono ?_
       rintro e w2 ⟨rfl, hb⟩
       have S02 := Lib.hid (S01.out.below hb S01.out.lt)
       have I12 := Lib.hid (I11.out.below hb I11.out.lt)
       have S22 := Lib.hid (S21.out.below hb S21.out.lt)
       have B2 := Lib.hid (B1.out.trans (hb.mono B1.out.size))
       clear hb
       have LB := Lib.hid S02.out.load
       have HL := Lib.hid (blast_any b w2 (H1.out.below B2.out (Nat.le_refl _)))
       unfold st at HL
       go_wp2_with (first | ((with_reducible refine wpList_load_by (o := ⟨some 38, .load 24 (.tmp 5), _, _, _, _⟩) ?e1 24 (.tmp 5) ?e2 ⟨w.heap.size, 0, none⟩ ?e3 _ LB.out ?_); (case e1 => rfl); (case e2 => rfl); (case e3 => rfl)))
       refine HL.out.mono ?_
       rintro e w3 ⟨rfl, hb⟩
       have S03 := Lib.hid (S02.out.below hb S02.out.lt)
       have I13 := Lib.hid (I12.out.below hb I12.out.lt)
       have S23 := Lib.hid (S22.out.below hb S22.out.lt)
       have B3 := Lib.hid (B2.out.trans (hb.mono B2.out.size))
       clear hb
       go_wp2_with fail
       refine (HN.out _).mono ?_
       rintro e w4 ⟨rfl, hb⟩
       have S04 := Lib.hid (S03.out.below hb S03.out.lt)
       have I14 := Lib.hid (I13.out.below hb I13.out.lt)
       have S24 := Lib.hid (S23.out.below hb S23.out.lt)
       have B4 := Lib.hid (B3.out.trans (hb.mono B3.out.size))
       clear hb
       have BS := (Below.refl w4.heap.size w4).alloc (Nat.le_refl _) (.cells #[.int .i64 t.1, .int .i64 t.2.1] 33)
       have BC := BS.trans (((Below.refl _ _).alloc (Nat.le_refl _) (.cells #[.int .i64 t.1, .int .i64 t.2.1, .string s] 38)).mono BS.size)
       have BF := BC.trans (((Below.refl _ _).alloc (Nat.le_refl _) (.cells #[.int .i64 no, .int .i64 t.1, .int .i64 t.2.1, .string s] 59)).mono BC.size)
       have L51 := Lib.hid (S04.out.below BC S04.out.lt).load
       have L52 := Lib.hid (load_arr16 (I14.out.below BC I14.out.lt))
       have hbz := build_zf HZ.out.1
       have HFS := fs_one' ((w4.alloc (.cells #[.int .i64 t.1, .int .i64 t.2.1] 33)).alloc (.cells #[.int .i64 t.1, .int .i64 t.2.1, .string s] 38)) ⟨no, ⟨t.1, t.2.1, s⟩⟩
       simp only [World.size_alloc] at HFS
       have S05 := Lib.hid (S04.out.below BF S04.out.lt)
       have I15 := Lib.hid (I14.out.below BF I14.out.lt)
       have S25 := Lib.hid (S24.out.below BF S24.out.lt)
       have B5 := Lib.hid (B4.out.trans (BF.mono B4.out.size))
       clear BF
       have HXV : RvAt (((w4.alloc (.cells #[.int .i64 t.1, .int .i64 t.2.1] 33)).alloc (.cells #[.int .i64 t.1, .int .i64 t.2.1, .string s] 38)).alloc (.cells #[.int .i64 no, .int .i64 t.1, .int .i64 t.2.1, .string s] 59)) ⟨wrec z no t s, some ⟨w4.heap.size + 1 + 1, 0, none⟩, 1⟩ := ⟨⟨HZ.out.1, HZ.out.2⟩, HFS⟩
       have HW := with_any b ⟨wrec z no t s, some ⟨w4.heap.size + 1 + 1, 0, none⟩, 1⟩ _ (HLA.out _ B5.out) (H1.out.below B5.out (Nat.le_refl _)) HXV
       unfold BJoinPost at HW
       rw [HRR.out] at HW
       have HW2 := Lib.hid (show Calls Tryz.prog 66 #[.agg #[.slice b.A b.xs.length b.c], .agg (rcells z 0 0 (.slice (some ⟨w4.heap.size + 1 + 1, 0, none⟩) 1 1))] _ _ from HW)
       clear HFS BC HXV HW BS
       go_wp2_with (first | ((with_reducible refine wpList_load_by (o := ⟨some 51, .load 24 (.tmp 5), _, _, _, _⟩) ?e1 24 (.tmp 5) ?e2 ⟨w.heap.size, 0, none⟩ ?e3 _ L51.out ?_); (case e1 => rfl); (case e2 => rfl); (case e3 => rfl)) | ((with_reducible refine wpList_load_by (o := ⟨some 52, .load 31 (.tmp 6), _, _, _, _⟩) ?e1 31 (.tmp 6) ?e2 ⟨(w.heap.size + 1), 0, none⟩ ?e3 _ L52.out ?_); (case e1 => rfl); (case e2 => rfl); (case e3 => rfl)) | ((with_reducible refine wpList_build_by (o := ⟨some 57, .build 36 #[(0, .tmp 52), (2, .tmp 56)], _, _, _, _⟩) ?e1 36 #[(0, .tmp 52), (2, .tmp 56)] ?e2 #[(0, .agg (bvals z)), (2, .slice (some ⟨w4.heap.size + 1 + 1, 0, none⟩) 1 1)] ?e3 _ (hbz _ _ _ _) ?_); (case e1 => rfl); (case e2 => rfl); (case e3 => (simp only [List.map_toArray, List.map_cons, List.map_nil]; rfl))))
       refine HW2.out.mono ?_
       rintro e w6 ⟨d, rfl, hd, hk, hb⟩
       have HD := Lib.hid hd
       have HK := Lib.hid hk
       clear hd hk
       have S06 := Lib.hid (S05.out.below hb S05.out.lt)
       have I16 := Lib.hid (I15.out.below hb I15.out.lt)
       have S26 := Lib.hid (S25.out.below hb S25.out.lt)
       have B6 := Lib.hid (B5.out.trans (hb.mono B5.out.size))
       clear hb
       go_wp2_with (first | ((with_reducible refine wpList_store_oldb (o := ⟨none, .store 24 (.tmp 10) (.tmp 59), _, _, _, _⟩) ?e1 (.tmp 10) (.tmp 59) ?e2 (w.heap.size + 1 + 1) _ S26.out ?e3 (.slice d.A d.xs.length d.c) ?e4 ?e5 ?_); (case e1 => rfl); (case e2 => rfl); (case e3 => rfl); (case e4 => rfl); (case e5 => rfl); intro w2 hg2 hx2; have G9 := Lib.hid hg2; have X9 := Lib.hid hx2; clear hg2 hx2))
       refine bodyPost_ret (v := .tuple #[.agg #[.slice d.A d.xs.length d.c], .int .i64 r.1]) ?_ rfl ?_
       ·exact res_bk2 Tryz.results32 rfl X9.out
       ·rw [HE.out]
        exact ⟨d, rfl, HD.out, HK.out.kept_bo G9.out S26.out, B6.out.grown G9.out B6.out.size (fun k e => by have := Option.some.inj e; omega)⟩
      ·rw [if_neg t4] at HEE
       have HE := Lib.hid HEE
       clear HEE
       go_enter Tryz.func32, Tryz.ntmps32
       go_wp2_with (first | ((with_reducible refine wpList_load_by (o := ⟨some 15, .load 24 (.tmp 5), _, _, _, _⟩) ?e1 24 (.tmp 5) ?e2 ⟨w.heap.size, 0, none⟩ ?e3 _ LA.out ?_); (case e1 => rfl); (case e2 => rfl); (case e3 => rfl)))
       refine HM.out.mono ?_
       rintro e w1 ⟨rfl, hb⟩
       have S01 := Lib.hid (S0.out.below hb S0.out.lt)
       have I11 := Lib.hid (I1.out.below hb I1.out.lt)
       have S21 := Lib.hid (S2.out.below hb S2.out.lt)
       have B1 := Lib.hid (HB.out.trans (hb.mono HB.out.size))
       clear hb
       go_wp2_with fail
       refine (HR.out _).mono ?_
       rintro e w2 ⟨rfl, hb⟩
       have S02 := Lib.hid (S01.out.below hb S01.out.lt)
       have I12 := Lib.hid (I11.out.below hb I11.out.lt)
       have S22 := Lib.hid (S21.out.below hb S21.out.lt)
       have B2 := Lib.hid (B1.out.trans (hb.mono B1.out.size))
       clear hb
       have LB := Lib.hid S02.out.load
       have HL := Lib.hid (blast_any b w2 (H1.out.below B2.out (Nat.le_refl _)))
       unfold st at HL
       go_wp2_with (first | ((with_reducible refine wpList_load_by (o := ⟨some 38, .load 24 (.tmp 5), _, _, _, _⟩) ?e1 24 (.tmp 5) ?e2 ⟨w.heap.size, 0, none⟩ ?e3 _ LB.out ?_); (case e1 => rfl); (case e2 => rfl); (case e3 => rfl)))
       refine HL.out.mono ?_
       rintro e w3 ⟨rfl, hb⟩
       have S03 := Lib.hid (S02.out.below hb S02.out.lt)
       have I13 := Lib.hid (I12.out.below hb I12.out.lt)
       have S23 := Lib.hid (S22.out.below hb S22.out.lt)
       have B3 := Lib.hid (B2.out.trans (hb.mono B2.out.size))
       clear hb
       go_wp2_with fail
       refine (HN.out _).mono ?_
       rintro e w4 ⟨rfl, hb⟩
       have S04 := Lib.hid (S03.out.below hb S03.out.lt)
       have I14 := Lib.hid (I13.out.below hb I13.out.lt)
       have S24 := Lib.hid (S23.out.below hb S23.out.lt)
       have B4 := Lib.hid (B3.out.trans (hb.mono B3.out.size))
       clear hb
       have BS := (Below.refl w4.heap.size w4).alloc (Nat.le_refl _) (.cells #[.int .i64 t.1, .int .i64 t.2.1] 33)
       have S05 := Lib.hid (S04.out.below BS S04.out.lt)
       have I15 := Lib.hid (I14.out.below BS I14.out.lt)
       have S25 := Lib.hid (S24.out.below BS S24.out.lt)
       have B5 := Lib.hid (B4.out.trans (BS.mono B4.out.size))
       clear BS
       go_wp2_with (first | ((with_reducible refine wpList_store_oldb (o := ⟨none, .store 24 (.tmp 10) (.tmp 46), _, _, _, _⟩) ?e1 (.tmp 10) (.tmp 46) ?e2 (w.heap.size + 1 + 1) _ S25.out ?e3 (.slice none 0 0) ?e4 ?e5 ?_); (case e1 => rfl); (case e2 => rfl); (case e3 => rfl); (case e4 => rfl); (case e5 => rfl); intro w2 hg2 hx2; have G9 := Lib.hid hg2; have X9 := Lib.hid hx2; clear hg2 hx2))
       refine bodyPost_ret (v := .tuple #[.agg #[.slice none 0 0], .int .i64 t.2.2]) ?_ rfl ?_
       ·exact res_bk2 Tryz.results32 rfl X9.out
       ·rw [HE.out]
        exact ⟨bk0, rfl, rfl, BkAt.zero _, B5.out.grown G9.out B5.out.size (fun k e => by have := Option.some.inj e; omega)⟩
end
section
open Go.RowKit WM
set_option maxRecDepth 100000
end
end
end Go.Proofs.YtnlhkpmgbpfjmaaGreatDoor
