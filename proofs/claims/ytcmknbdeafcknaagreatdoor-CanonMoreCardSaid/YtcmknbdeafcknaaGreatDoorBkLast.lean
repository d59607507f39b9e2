import Derived.Test.YtcmknbdeafcknaaGreatDoorBkRec
import Derived.Test.YtcmknbdeafcknaaGreatDoorGCl
/-
  What book.last answers: the greatest stamp of a book. Nothing that was there is written.
-/
namespace Go.Proofs.YtcmknbdeafcknaaGreatDoor
open Go.RowKit WM
set_option linter.unusedVariables false
set_option maxRecDepth 100000
def lastF (s : Int × Int) (fs : List Fld) : Int × Int := fs.foldl (fun s f => mx s (f.c.n, f.c.r)) s
def lastR (s : Int × Int) (r : Rc) : Int × Int := lastF (mx s (r.n, r.r)) r.fs
def blast (rs : List Rc) : Int × Int := rs.foldl lastR (0, 0)
theorem lastF_snoc {s : Int × Int} {fs : List Fld} {k : Nat} (hk : k < fs.length) : lastF s (fs.take (k + 1)) = mx (lastF s (fs.take k)) ((fs.getD k fld0).c.n, (fs.getD k fld0).c.r) := by
  unfold lastF
  rw [List.take_succ_eq_append_getElem hk, List.foldl_append]
  simp only [List.foldl_cons, List.foldl_nil, List.getD, List.getElem?_eq_getElem hk, Option.getD_some]
theorem last_snoc {xs : List RcA} {k : Nat} (hk : k < xs.length) : ((xs.take (k + 1)).map (·.R)).foldl lastR (0, 0) = lastR (((xs.take k).map (·.R)).foldl lastR (0, 0)) (xs.getD k rcA0).R := by
  rw [List.take_succ_eq_append_getElem hk, List.map_append, List.foldl_append]
  simp only [List.map_cons, List.map_nil, List.foldl_cons, List.foldl_nil, List.getD, List.getElem?_eq_getElem hk, Option.getD_some]
set_option maxHeartbeats 8000000 in
theorem blast_any (b : Bk) (w : World) (h : BkAt w b) :
    Calls Tryz.prog 53 #[.agg #[.slice b.A b.xs.length b.c]] w fun e w' => e = .returned (st (blast b.rs).1 (blast b.rs).2) ∧ Below w.heap.size w w' := by
  obtain ⟨xs, A, c⟩ := b
  dsimp only at h ⊢
  have s0 := (((BoAt.new w (.slice A xs.length c)).old (.cells #[.int .i64 0, .int .i64 0] 30)).old (.cells #[.int .i64 0, .int .i64 0] 30))
  have c00 := s0.c0
  have r1 := (StAt.new (w.alloc (.cells #[.slice A xs.length c] 24)) 0 0).old (.cells #[.int .i64 0, .int .i64 0] 30)
  rw [World.size_alloc] at r1
  have r2 := StAt.new ((w.alloc (.cells #[.slice A xs.length c] 24)).alloc (.cells #[.int .i64 0, .int .i64 0] 30)) 0 0
  rw [World.size_alloc, World.size_alloc] at r2
  have HB := Lib.hid ((((Below.refl w.heap.size w).alloc (Nat.le_refl _) (.cells #[.slice A xs.length c] 24)).alloc (by simp) (.cells #[.int .i64 0, .int .i64 0] 30)).alloc (by simp; omega) (.cells #[.int .i64 0, .int .i64 0] 30))
  have H0 := Lib.hid (And.intro r1 r2)
  have HRV := Lib.hid (fun i (hi : i < xs.length) => RsAt.rv h hi)
  obtain ⟨hc1, hc2, hc3, hcell, _⟩ := h
  dsimp only at hc1 hc2 hc3 hcell HRV
  simp only [maxLen] at hc2
  have HC := Lib.hid hcell
  have hz := zeroX
  have HMX := Lib.hid max_any
  unfold st at HMX
  generalize hlen : xs.length = len at *
  have HLN := Lib.hid hlen
  clear hcell s0 r1 r2 hlen
  unfold blast Bk.rs st
  dsimp only
  generalize hV : (xs.map (·.R)).foldl lastR (0, 0) = V
  have HV := Lib.hid hV
  clear hV
  go_enter Tryz.func53, Tryz.ntmps53
  go_wp2
  clear c00
  go_loopw [11] (fun i wr => ∃ (k : Nat) (s : Int × Int), k ≤ len ∧ i = .int .i64 k ∧ StAt wr (w.heap.size + 1) 0 0 ∧ StAt wr (w.heap.size + 1 + 1) s.1 s.2 ∧ Below w.heap.size w wr ∧ s = ((xs.take k).map (·.R)).foldl lastR (0, 0)) (fun i _ => len - (intOf i).toNat)
  case atStart => exact ⟨0, (0, 0), Nat.zero_le _, rfl, H0.out.1, H0.out.2, HB.out, rfl⟩
  case round =>
    obtain ⟨k, s, hk, rfl, hr, hs, hb, hf⟩ := hrel
    by_cases hlt : k < len
    · obtain ⟨b0, off, rfl, hbB, hcc⟩ := HC.out (by omega)
      have hx := (hcc k hlt).same (hb.block b0 hbB)
      have IX := ix_rec b0 off len c k hlt k rfl
      have hvx := HRV.out k hlt
      have hsn := last_snoc (xs := xs) (k := k) (by rw [HLN.out]; exact hlt)
      rw [← hf] at hsn
      generalize xs.getD k rcA0 = x at *
      generalize off + k * 19 = ox at *
      have LX := Lib.hid hx.load
      have HVX := Lib.hid hvx
      have ZX := Lib.hid hvx.len
      have HSN := Lib.hid hsn
      have HBB := Lib.hid (And.intro hr (And.intro hs hb))
      clear hcc hx hvx hsn hr hs hb hf
      go_wp2_with (first | ((with_reducible refine wpList_load_by (o := ⟨some 14, .load 33 (.tmp 13), _, _, _, _⟩) ?e1 33 (.tmp 13) ?e2 ⟨b0, ox, none⟩ ?e3 _ LX.out ?_); (case e1 => rfl); (case e2 => rfl); (case e3 => rfl)) | ((with_reducible refine wpList_store_newx (o := ⟨none, .store 33 (.tmp 5) (.tmp 14), _, _, _, _⟩) (w := wr) ?e1 (.tmp 5) (.tmp 14) ?e2 wr.heap.size ?e0 ?e3 x ?e4 ZX.out ?_); (case e1 => rfl); (case e2 => rfl); (case e0 => rfl); (case e3 => rfl); (case e4 => rfl); intro w2 hb2 hx2 hs2; have X2 := Lib.hid hx2; have R2 := Lib.hid (HBB.out.1.below hb2 HBB.out.1.lt); have S2 := Lib.hid (HBB.out.2.1.below hb2 HBB.out.2.1.lt); have B2 := Lib.hid (HBB.out.2.2.trans (hb2.mono HBB.out.2.2.size)); have d16 := X2.out.c16; have d17 := X2.out.c17; have e0 := S2.out.c0; have e1 := S2.out.c1; clear hx2 hb2 hs2))
      refine (HMX.out s (x.R.n, x.R.r) _).mono ?_
      rintro e w3 ⟨rfl, hb3⟩
      have X3 := X2.out.below hb3 X2.out.lt
      have S3 := S2.out.below hb3 S2.out.lt
      have R3 := Lib.hid (R2.out.below hb3 R2.out.lt)
      have f0 := S3.fz 0
      have f1 := S3.fz 1
      have e0 := S3.c0
      have e1 := S3.c1
      have B3 := B2.out.trans (hb3.mono B2.out.size)
      have S4 := Lib.hid (S3.put (mx s (x.R.n, x.R.r)).1 (mx s (x.R.n, x.R.r)).2)
      have B4 := Lib.hid (below_put B3 (show w.heap.size ≤ w.heap.size + 1 + 1 by omega) (.int .i64 (mx s (x.R.n, x.R.r)).1) (.int .i64 (mx s (x.R.n, x.R.r)).2))
      have R4 : Hid (StAt (((w3.setCell ⟨w.heap.size + 1 + 1, 0, none⟩ (.int .i64 (mx s (x.R.n, x.R.r)).1))).setCell ⟨w.heap.size + 1 + 1, 1, none⟩ (.int .i64 (mx s (x.R.n, x.R.r)).2)) (w.heap.size + 1) 0 0) := Lib.hid (by
        unfold StAt
        rw [Below.heap_setCell _ _ _ _ (show w.heap.size + 1 ≠ w.heap.size + 1 + 1 by omega), Below.heap_setCell _ _ _ _ (show w.heap.size + 1 ≠ w.heap.size + 1 + 1 by omega)]
        exact R3.out)
      have X4 : XAt (((w3.setCell ⟨w.heap.size + 1 + 1, 0, none⟩ (.int .i64 (mx s (x.R.n, x.R.r)).1))).setCell ⟨w.heap.size + 1 + 1, 1, none⟩ (.int .i64 (mx s (x.R.n, x.R.r)).2)) wr.heap.size x := X3.same (by
        have := HBB.out.2.1.lt
        rw [Below.heap_setCell _ _ _ _ (show wr.heap.size ≠ w.heap.size + 1 + 1 by omega), Below.heap_setCell _ _ _ _ (show wr.heap.size ≠ w.heap.size + 1 + 1 by omega)])
      have x18 := X4.c18
      have HS0 : Hid (lastR s x.R = lastF (mx s (x.R.n, x.R.r)) x.R.fs) := Lib.hid rfl
      have HFS := Lib.hid HVX.out.2
      generalize mx s (x.R.n, x.R.r) = s0 at *
      generalize hfl : x.R.fs.length = fl at *
      have HFL := Lib.hid hfl
      clear hb3 X3 S3 B3 X4 hfl d16 d17
      go_wp2
      clear x18 e0 e1 f0 f1
      generalize hw4 : ((w3.setCell ⟨w.heap.size + 1 + 1, 0, none⟩ (.int .i64 s0.1))).setCell ⟨w.heap.size + 1 + 1, 1, none⟩ (.int .i64 s0.2) = w4 at *
      go_loopw [22] (fun i wi => ∃ (j : Nat) (t : Int × Int), j ≤ fl ∧ i = .int .i64 j ∧ StAt wi (w.heap.size + 1) 0 0 ∧ StAt wi (w.heap.size + 1 + 1) t.1 t.2 ∧ Below w.heap.size w wi ∧ t = lastF s0 (x.R.fs.take j)) (fun i _ => fl - (intOf i).toNat)
      case atStart => exact ⟨0, s0, Nat.zero_le _, rfl, R4.out, S4.out, B4.out, rfl⟩
      case round =>
        obtain ⟨j, t, hj, rfl, hr, hs, hb, hf⟩ := hrel
        by_cases hlt2 : j < fl
        · obtain ⟨hq1, hq2, hq3, hq4⟩ := HFS.out
          obtain ⟨b1, off1, hA1, hb1, hcc⟩ := hq4 (by rw [HFL.out]; omega)
          simp only [maxLen] at hq2
          have hflc : fl ≤ x.c := by have := HFL.out; omega
          rw [hA1]
          obtain ⟨c0, c1, c2, c3⟩ := hcc j (by rw [HFL.out]; exact hlt2)
          have c0 := (hb.cell (p := ⟨b1, off1 + j * 4, none⟩) hb1).trans c0
          have c1 := (hb.cell (p := ⟨b1, off1 + j * 4 + 1, none⟩) hb1).trans c1
          have c2 := (hb.cell (p := ⟨b1, off1 + j * 4 + 2, none⟩) hb1).trans c2
          have c3 := (hb.cell (p := ⟨b1, off1 + j * 4 + 3, none⟩) hb1).trans c3
          have IXF := ix_fld b1 off1 fl x.c j hlt2 j rfl
          have hsn := lastF_snoc (s := s0) (fs := x.R.fs) (k := j) (by rw [HFL.out]; exact hlt2)
          rw [← hf] at hsn
          generalize x.R.fs.getD j fld0 = f at *
          generalize off1 + j * 4 = o1 at *
          have HSN2 := Lib.hid hsn
          have SA := hs.old (.cells #[.int .i64 f.no, .int .i64 f.c.n, .int .i64 f.c.r, .string f.c.s] 59)
          have RA := hr.old (.cells #[.int .i64 f.no, .int .i64 f.c.n, .int .i64 f.c.r, .string f.c.s] 59)
          have BA := hb.alloc hb.size (.cells #[.int .i64 f.no, .int .i64 f.c.n, .int .i64 f.c.r, .string f.c.s] 59)
          have e0 := SA.c0
          have e1 := SA.c1
          have HSA := Lib.hid (And.intro SA (And.intro RA BA))
          have HA1 := Lib.hid hA1
          clear hcc hq4 hsn hr hs hb hf SA RA BA hA1
          go_wp2_with fail
          refine (HMX.out t (f.c.n, f.c.r) _).mono ?_
          rintro e w5 ⟨rfl, hb5⟩
          have S5 := HSA.out.1.below hb5 HSA.out.1.lt
          have f0 := S5.fz 0
          have f1 := S5.fz 1
          have e0 := S5.c0
          have e1 := S5.c1
          have R5 := HSA.out.2.1.below hb5 HSA.out.2.1.lt
          have B5 := HSA.out.2.2.trans (hb5.mono HSA.out.2.2.size)
          have S6 := Lib.hid (S5.put (mx t (f.c.n, f.c.r)).1 (mx t (f.c.n, f.c.r)).2)
          have B6 := Lib.hid (below_put B5 (show w.heap.size ≤ w.heap.size + 1 + 1 by omega) (.int .i64 (mx t (f.c.n, f.c.r)).1) (.int .i64 (mx t (f.c.n, f.c.r)).2))
          have R6 : Hid (StAt (((w5.setCell ⟨w.heap.size + 1 + 1, 0, none⟩ (.int .i64 (mx t (f.c.n, f.c.r)).1))).setCell ⟨w.heap.size + 1 + 1, 1, none⟩ (.int .i64 (mx t (f.c.n, f.c.r)).2)) (w.heap.size + 1) 0 0) := Lib.hid (by
            unfold StAt
            rw [Below.heap_setCell _ _ _ _ (show w.heap.size + 1 ≠ w.heap.size + 1 + 1 by omega), Below.heap_setCell _ _ _ _ (show w.heap.size + 1 ≠ w.heap.size + 1 + 1 by omega)]
            exact R5)
          generalize mx t (f.c.n, f.c.r) = t2 at *
          clear hb5 S5 R5 B5 c0 c1 c2 c3
          go_wp2
          go_roundw
          case rel => exact ⟨j + 1, t2, by omega, by go_num, R6.out, S6.out, B6.out, HSN2.out.symm⟩
          case measure => simp [intOf]; omega
        · obtain rfl : j = fl := by omega
          rw [List.take_of_length_le (by rw [HFL.out]; exact Nat.le_refl _), ← HS0.out, ← HSN.out] at hf
          have HF2 := Lib.hid hf
          have HRR := Lib.hid (And.intro hr (And.intro hs hb))
          clear hr hs hb hf
          go_wp2
          go_roundw
          case rel => exact ⟨k + 1, t, by omega, by go_num, HRR.out.1, HRR.out.2.1, HRR.out.2.2, HF2.out⟩
          case measure => simp [intOf]; omega
    · obtain rfl : k = len := by omega
      rw [List.take_of_length_le (by rw [HLN.out]; exact Nat.le_refl _), HV.out] at hf
      subst hf
      have e0 := hs.c0
      have e1 := hs.c1
      have f0 := hr.fz 0
      have f1 := hr.fz 1
      have g0 := hr.c0
      have g1 := hr.c1
      have HP := Lib.hid (hr.put s.1 s.2)
      have HQ := Lib.hid (below_put hb (show w.heap.size ≤ w.heap.size + 1 by omega) (.int .i64 s.1) (.int .i64 s.2))
      clear hs hr hb
      go_wp2
      refine bodyPost_ret (v := st s.1 s.2) ?_ rfl ⟨rfl, HQ.out⟩
      exact res_st Tryz.results53 rfl HP.out
end Go.Proofs.YtcmknbdeafcknaaGreatDoor

