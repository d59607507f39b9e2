/-
  The law CellLists: for every list of cells it answers true, and nothing that was there is written.
-/
import Derived.Test.YtonbhcbkelmhgaaDoorClAwake
import Derived.Test.YtonbhcbkelmhgaaDoorClRows
import Derived.Test.YtonbhcbkelmhgaaDoorClBytes
import Derived.Test.YtonbhcbkelmhgaaDoorUniG
namespace Go.Proofs.YtonbhcbkelmhgaaDoor
open Go.RowKit WM
set_option linter.unusedVariables false
set_option maxRecDepth 20000
def catC (l : List Cel) : List Int := l.flatMap cenc
theorem catC_snoc {l : List Cel} {k : Nat} (hk : k < l.length) : catC (l.take (k + 1)) = catC (l.take k) ++ cenc (l.getD k cel0) := by
  unfold catC
  rw [List.take_succ_eq_append_getElem hk, List.flatMap_append, List.flatMap_singleton, List.getD, List.getElem?_eq_getElem hk, Option.getD_some]
theorem catC_drop {l : List Cel} {k : Nat} (hk : k < l.length) : catC (l.drop k) = cenc (l.getD k cel0) ++ catC (l.drop (k + 1)) := by
  unfold catC
  rw [List.drop_eq_getElem_cons hk, List.flatMap_cons, List.getD, List.getElem?_eq_getElem hk, Option.getD_some]
theorem catC_len (l : List Cel) (h : ∀ c ∈ l, cmay c = true) : (catC l).length ≤ 220 * l.length := by
  induction l with
  | nil => simp [catC]
  | cons x l ih =>
    have h1 := cenc_len x (cmay_iff.1 (h x (by simp))).2.2
    have h3 := ih fun s hs => h s (by simp [hs])
    unfold catC at h3 ⊢
    rw [List.flatMap_cons, List.length_append, List.length_cons]
    omega
theorem catC_bytes (l : List Cel) : AllBytes (catC l) := by
  intro z hz
  obtain ⟨x, _, hx⟩ := List.mem_flatMap.1 hz
  exact cenc_bytes x z hx
/-- What stands in 'all' behind k rounds of the first loop. -/
def CListsInv (w : World) (l : List Cel) (k : Nat) (v : Value) (wr : World) : Prop :=
  wr.ownsRow w.heap.size 5 1 v (catC (l.take k)).length ((catC (l.take k)).map (Value.int .u8)) ∧ Below w.heap.size w wr ∧ ∀ c ∈ l.take k, cmay c = true
/-- .. and of the second one. -/
def CListsRest (w : World) (l : List Cel) (k : Nat) (v : Value) : Prop :=
  ∃ A m c, v = .slice A m c ∧ Byt w w.heap.size A (catC (l.drop k)) ∧ (catC (l.drop k)).length = m ∧ m ≤ c ∧ c ≤ maxLen
theorem take_may {l : List Cel} {k : Nat} (hk : k < l.length) (h : ∀ c ∈ l.take k, cmay c = true) (hs : cmay (l.getD k cel0) = true) : ∀ c ∈ l.take (k + 1), cmay c = true := fun s hs' => by
  rw [List.take_succ_eq_append_getElem hk] at hs'
  rcases List.mem_append.1 hs' with h1 | h1
  · exact h s h1
  · simp at h1
    subst h1
    simpa [List.getD, List.getElem?_eq_getElem hk] using hs
theorem sizeCel (w : World) : (sizeOf 25).run Tryd.prog w = .ok 3 w := by
  simp [sizeOf, go_sem]
  rfl
theorem elemCel : Tryd.prog.elem 37 = 25 := by kernel_rfl
theorem ix_cel (b off len cap i : Nat) (h : i < len) (I : Int) (e : I = i) (w : World) : (Instr.indexAt 37 (.slice (some ⟨b, off, none⟩) len cap) (.int .i64 I)).run Tryd.prog w = .ok (.pointer (some ⟨b, off + i * 3, none⟩)) w := by
  subst e
  rw [run_indexAt_slice w 37 _ len cap .i64 i (by rw [elemCel]; exact Tryd.underlying37), if_pos (by omega), elemCel, sizeCel]
  simp [Result.andThen, Addr.add_lit]
/-- The cells of a list that came in. -/
theorem IsCels.cells {w : World} {a : Option Addr} {len cap : Nat} {R : Nat → Cel} (h : IsCels w a len cap R) : len ≤ cap ∧ cap ≤ maxLen ∧
    (0 < len → ∃ b off, a = some ⟨b, off, none⟩ ∧ b < w.heap.size ∧ ∀ i, i < len → w.cell? ⟨b, off + i * 3, none⟩ = some (.int .i64 (R i).n) ∧ w.cell? ⟨b, off + i * 3 + 1, none⟩ = some (.int .i64 (R i).r) ∧ w.cell? ⟨b, off + i * 3 + 2, none⟩ = some (.string (R i).s)) := by
  rcases h with ⟨rfl, rfl, rfl⟩ | ⟨x, rfl, hl, hm, hcell⟩
  · exact ⟨by omega, by decide, fun h => by omega⟩
  · refine ⟨hl, hm, fun h0 => ?_⟩
    obtain ⟨b, off, spot⟩ := x
    have h00 := (hcell 0 h0).2.1
    have hspot : spot = none := by simpa [Addr.add] using World.cell?_spot h00
    subst hspot
    have hlt : b < w.heap.size := by
      rcases Nat.lt_or_ge b w.heap.size with h2 | h2
      · exact h2
      · rw [Addr.add_lit, World.cell?] at h00
        rw [Array.getElem?_eq_none h2] at h00
        cases h00
    refine ⟨b, off, rfl, hlt, fun i hi => ?_⟩
    obtain ⟨_, h1, h2, h3⟩ := hcell i hi
    rw [Addr.add_lit] at h1 h2 h3
    exact ⟨h1, h2, h3⟩
set_option maxHeartbeats 4000000 in
theorem walk_cellLists (a0 : Option Addr) (len0 cap0 : Nat) (R : Nat → Cel) (w : World) (hlaid : Laid w) (w0 : IsCels w a0 len0 cap0 R) :
    Calls Tryd.prog 5 #[.slice a0 len0 cap0] w fun e w' => e = .returned (.bool true) ∧ Below w.heap.size w w' := by
  obtain ⟨hlc, hcm, hcell⟩ := w0.cells
  simp only [maxLen] at hcm
  obtain ⟨l, hlen, hget⟩ : ∃ l : List Cel, l.length = len0 ∧ ∀ i, i < len0 → l.getD i cel0 = R i := ⟨(List.range len0).map R, by simp, fun i hi => by simp [List.getD, hi]⟩
  have HL := Lib.hid hlen
  have HC : Hid (0 < len0 → ∃ b off, a0 = some ⟨b, off, none⟩ ∧ b < w.heap.size ∧ ∀ i, i < len0 → w.cell? ⟨b, off + i * 3, none⟩ = some (.int .i64 (l.getD i cel0).n) ∧ w.cell? ⟨b, off + i * 3 + 1, none⟩ = some (.int .i64 (l.getD i cel0).r) ∧ w.cell? ⟨b, off + i * 3 + 2, none⟩ = some (.string (l.getD i cel0).s)) := Lib.hid (fun h => by
    obtain ⟨b, off, h1, h2, h3⟩ := hcell h
    exact ⟨b, off, h1, h2, fun i hi => by rw [hget i hi]; exact h3 i hi⟩)
  clear w0 hlen hget hcell
  by_cases h20 : len0 ≤ 10
  · obtain ⟨i0, hi, hz0, hz1, hz2⟩ := info_parts infoByte
    go_enter Tryd.func5, Tryd.ntmps5
    go_wp2_with fail
    refine (clAwake _ hlaid).mono ?_
    rintro e w1 ⟨rfl, hb1⟩
    clear hlaid
    go_wp2
    go_loopw [4, 5] (fun v i wr => ∃ k : Nat, k ≤ len0 ∧ i = .int .i64 k ∧ CListsInv w l k v wr) (fun _ i _ => len0 - (intOf i).toNat)
    case atStart => exact ⟨0, Nat.zero_le _, rfl, World.ownsRow_nil _ _ _ _, hb1, fun s hs => by simp at hs⟩
    case round =>
      obtain ⟨k, hk, rfl, hinv⟩ := hrel
      by_cases hlt : k < len0
      · obtain ⟨ho, hb, hsm⟩ := hinv
        obtain ⟨b, off, rfl, hbB, hc⟩ := HC.out (by omega)
        obtain ⟨c0, c1, c2⟩ := hc k hlt
        have c0 := (hb.cell (p := ⟨b, off + k * 3, none⟩) hbB).trans c0
        have c1 := (hb.cell (p := ⟨b, off + k * 3 + 1, none⟩) hbB).trans c1
        have c2 := (hb.cell (p := ⟨b, off + k * 3 + 2, none⟩) hbB).trans c2
        have IX := ix_cel b off len0 cap0 k hlt k rfl
        have hkl : k < l.length := by rw [HL.out]; exact hlt
        have hs := Lib.hid (catC_snoc hkl)
        have hts := Lib.hid (take_may hkl hsm)
        have hcl := catC_len (l.take k) hsm
        have hcl' : (l.take k).length ≤ k := List.length_take_le _ _
        have hsz := hb.size
        generalize l.getD k cel0 = z at c0 c1 c2 hs hts
        generalize off + k * 3 = o at c0 c1 c2 IX
        have PZ := Lib.hid (cput_any z)
        unfold CPutPost at PZ
        clear hc hkl hsm
        cases hm : cmay z
        · rw [hm] at PZ
          simp only [Bool.false_eq_true, if_false] at PZ
          dsimp only [Cel.v] at PZ
          clear hm
          go_wp2_with fail
          refine (PZ.out _).mono ?_
          rintro e w2 ⟨rfl, hb2⟩
          have hbb := Lib.hid (hb.trans (hb2.mono hsz))
          clear hb2 hb ho c0 c1 c2
          go_wp2
          go_ret
          exact ⟨rfl, hbb.out⟩
        · rw [hm] at PZ
          simp only [if_true] at PZ
          dsimp only [Cel.v] at PZ
          go_wp2_with fail
          refine (PZ.out _).mono ?_
          rintro e w2 ⟨A, L, c, rfl, hn, hnc, hcm', hown, hb2⟩
          have HN := Lib.hid hn
          have hLL := (cenc_len z (cmay_iff.1 hm).2.2).1
          rw [hn] at hLL
          have ho2 := own_below ho hb2
          have hby := Byt.own (zs := cenc z) hown
          have hnil := own_nil hown
          have hbb := hb.trans (hb2.mono hsz)
          have hnl : (catC (l.take k)).length + L ≤ 100000 := by omega
          have HM := Lib.hid hm
          clear hn ho hb hown hcm' hm c0 c1 c2 IX
          go_wp2_with (at_builtin; refine wpList_append_byt _ rfl _ _ 26 rfl w.heap.size 5 i0 Tryd.underlying26 hi hz0 hz1 hz2 _ _ _ rfl ho2 w2.heap.size A L c (cenc z) rfl hby HN.out hnil (by omega) hbb.size ?_; intro v5 w5 ho5 hg5)
          go_roundw
          case rel =>
            refine ⟨k + 1, by omega, by go_num, ?_, hbb.grown hg5 hbb.size (fun g hg => own_base ho2 hg), hts.out HM.out⟩
            rw [hs.out, List.length_append, HN.out]
            exact ho5
          case measure => simp [intOf]; omega
      · obtain rfl : k = len0 := by omega
        obtain ⟨ho, hb, hsm⟩ := hinv
        rw [List.take_of_length_le (by rw [HL.out]; omega)] at ho hsm
        have HO := Lib.hid ho
        have HM := Lib.hid hsm
        have HB := Lib.hid hb
        clear ho hsm hb
        generalize wr = wo at *
        go_wp2
        go_loopw [4, 8] (fun v i wr => ∃ j : Nat, j ≤ k ∧ i = .int .i64 j ∧ CListsRest wo l j v ∧ Below wo.heap.size wo wr) (fun _ i _ => k - (intOf i).toNat)
        case atStart =>
          refine ⟨0, Nat.zero_le _, rfl, ?_, Below.refl _ _⟩
          obtain ⟨A, n, c, hv, h1, h2, h3, h4, _⟩ := gives_own (w := w) HO.out HB.out
          injection hv with hv
          exact ⟨A, n, c, hv, Byt.own (by simpa using h4), by simpa using h1, h2, h3⟩
        case round =>
          obtain ⟨j, hj, rfl, ⟨A, m, c, rfl, hby, hm, hmc, hcM⟩, hbw⟩ := hrel
          by_cases hlt : j < k
          · obtain ⟨b, off, rfl, hbB, hc⟩ := HC.out (by omega)
            obtain ⟨c0, c1, c2⟩ := hc j hlt
            have hBB := HB.out.trans (hbw.mono HB.out.size)
            have hbB' := Nat.lt_of_lt_of_le hbB hBB.size
            have IX := Lib.hid (ix_cel b off k cap0 j hlt j rfl)
            have c0 := (hBB.cell (p := ⟨b, off + j * 3, none⟩) hbB).trans c0
            have c1 := (hBB.cell (p := ⟨b, off + j * 3 + 1, none⟩) hbB).trans c1
            have c2 := (hBB.cell (p := ⟨b, off + j * 3 + 2, none⟩) hbB).trans c2
            have hkl : j < l.length := by rw [HL.out]; exact hlt
            have hzb : cmay (l.getD j cel0) = true := by
              have := HM.out _ (List.getElem_mem hkl)
              simpa [List.getD, List.getElem?_eq_getElem hkl] using this
            have hs := catC_drop hkl
            have hg := cget_any A m c (catC (l.drop j)) wr (hby.below hbw) hbw.size hm (catC_bytes _) hmc hcM
            have hd := hby.drop (k := (cenc (l.getD j cel0)).length) (cap := c) (by omega)
            rw [hs] at hg hd hm
            rw [cget_put _ _ hzb] at hg
            rw [List.drop_left] at hd
            rw [List.length_append] at hm
            dsimp only [cgetV, Cel.v] at hg
            have hu := (cenc_len (l.getD j cel0) (cmay_iff.1 hzb).2.2)
            have HG := Lib.hid hg
            have hsl := sl_l A m c (cenc (l.getD j cel0)).length (by omega) ((cenc (l.getD j cel0)).length : Int) rfl
            generalize (cenc (l.getD j cel0)).length = u at hd hm hu HG hsl
            generalize l.getD j cel0 = z at c0 c1 c2 HG
            have hum : u ≤ m := by omega
            have HM2 := Lib.hid (show (catC (l.drop (j + 1))).length = m - u by omega)
            simp only [maxLen] at hcM
            generalize (if c = u then A else A.map (·.add u)) = A2 at hd hsl
            have HD := Lib.hid hd
            have HSL := Lib.hid hsl
            have HBW := Lib.hid hbw
            generalize off + j * 3 = o at c0 c1 c2 IX
            have HEQ := Lib.hid (cl_same z)
            have HGT := Lib.hid (show decide ((m : Int) < (u : Int)) = false by simp; omega)
            clear hc hkl hs hg hby hm hzb hd hsl hBB HB HC HO HM
            have K0 := Lib.hid c0
            have K1 := Lib.hid c1
            have K2 := Lib.hid c2
            clear c0 c1 c2 hbw
            go_wp2_with fail
            refine HG.out.mono ?_
            rintro e w4 ⟨rfl, hb4⟩
            have B5 := Lib.hid ((HBW.out.trans (hb4.mono HBW.out.size)).alloc (Nat.le_trans HBW.out.size hb4.size) (.cells #[.int .i64 z.n, .int .i64 z.r, .string z.s] 25))
            have D5 := Lib.hid (hb4.alloc hb4.size (.cells #[.int .i64 z.n, .int .i64 z.r, .string z.s] 25))
            have TC := Lib.hid (ClAt.new w4 z)
            have S5 := Lib.hid (Nat.le_trans (Nat.le_of_lt TC.out.lt) (Nat.le_refl _))
            have HC0 := Lib.hid (fun w9 (hS : Below (w4.alloc (.cells #[.int .i64 z.n, .int .i64 z.r, .string z.s] 25)).heap.size (w4.alloc (.cells #[.int .i64 z.n, .int .i64 z.r, .string z.s] 25)) w9) => ((hS.cell (p := ⟨b, o, none⟩) (Nat.lt_of_lt_of_le hbB' D5.out.size)).trans (D5.out.cell (p := ⟨b, o, none⟩) hbB')).trans K0.out)
            have HC1 := Lib.hid (fun w9 (hS : Below (w4.alloc (.cells #[.int .i64 z.n, .int .i64 z.r, .string z.s] 25)).heap.size (w4.alloc (.cells #[.int .i64 z.n, .int .i64 z.r, .string z.s] 25)) w9) => ((hS.cell (p := ⟨b, o + 1, none⟩) (Nat.lt_of_lt_of_le hbB' D5.out.size)).trans (D5.out.cell (p := ⟨b, o + 1, none⟩) hbB')).trans K1.out)
            have HC2 := Lib.hid (fun w9 (hS : Below (w4.alloc (.cells #[.int .i64 z.n, .int .i64 z.r, .string z.s] 25)).heap.size (w4.alloc (.cells #[.int .i64 z.n, .int .i64 z.r, .string z.s] 25)) w9) => ((hS.cell (p := ⟨b, o + 2, none⟩) (Nat.lt_of_lt_of_le hbB' D5.out.size)).trans (D5.out.cell (p := ⟨b, o + 2, none⟩) hbB')).trans K2.out)
            clear hb4
            go_wp2_with fail
            refine wp_region_G _ (by kernel_rfl) ?_
            refine wpG_take (i := 0) (oi := ⟨some 52, _, _, _, _, _⟩) (v := ?_) rfl (by kernel_rfl) (by kernel_rfl) (by kernel_rfl) (Or.inl ⟨by rfl, unib_val ?_⟩) ?_; rotate_left; (focus (intro w9 hSw; go_simp; try with_reducible rfl)); simp only [Act.put, List.setIfInBounds_toArray, List.set_cons_zero, List.set_cons_succ]
            refine wpG_take (i := 1) (oi := ⟨some 53, _, _, _, _, _⟩) (v := ?_) rfl (by kernel_rfl) (by kernel_rfl) (by kernel_rfl) (Or.inl ⟨by rfl, unib_val ?_⟩) ?_; rotate_left; (focus (intro w9 hSw; go_simp; try with_reducible rfl)); simp only [Act.put, List.setIfInBounds_toArray, List.set_cons_zero, List.set_cons_succ]
            refine wpG_take (i := 2) (oi := ⟨some 54, _, _, _, _, _⟩) (v := ?_) rfl (by kernel_rfl) (by kernel_rfl) (by kernel_rfl) (Or.inl ⟨by rfl, unib_val ?_⟩) ?_; rotate_left; (focus (intro w9 hSw; go_simp; try with_reducible rfl)); simp only [Act.put, List.setIfInBounds_toArray, List.set_cons_zero, List.set_cons_succ]
            refine wpG_take (i := 3) (oi := ⟨some 55, _, _, _, _, _⟩) (v := ?_) rfl (by kernel_rfl) (by kernel_rfl) (by kernel_rfl) (Or.inl ⟨by rfl, unib_val ?_⟩) ?_; rotate_left; (focus (intro w9 hSw; have q9 := TC.out.below hSw TC.out.lt; have q0 := q9.c0; have q1 := q9.c1; have q2 := q9.c2; go_simp; try with_reducible rfl)); simp only [Act.put, List.setIfInBounds_toArray, List.set_cons_zero, List.set_cons_succ]
            refine wpG_take (i := 4) (oi := ⟨some 56, _, _, _, _, _⟩) (v := ?_) rfl (by kernel_rfl) (by kernel_rfl) (by kernel_rfl) (Or.inl ⟨by rfl, unib_val ?_⟩) ?_; rotate_left; (focus (intro w9 hSw; go_simp; try with_reducible rfl)); simp only [Act.put, List.setIfInBounds_toArray, List.set_cons_zero, List.set_cons_succ]
            refine wpG_take (i := 5) (oi := ⟨some 57, _, _, _, _, _⟩) (v := ?_) rfl (by kernel_rfl) (by kernel_rfl) (by kernel_rfl) (Or.inl ⟨by rfl, unib_val ?_⟩) ?_; rotate_left; (focus (intro w9 hSw; go_simp; try with_reducible rfl)); simp only [Act.put, List.setIfInBounds_toArray, List.set_cons_zero, List.set_cons_succ]
            refine wpG_take (i := 6) (oi := ⟨some 58, _, _, _, _, _⟩) (v := ?_) rfl (by kernel_rfl) (by kernel_rfl) (by kernel_rfl) (Or.inl ⟨by rfl, unib_val ?_⟩) ?_; rotate_left; (focus (intro w9 hSw; have q0 := IX.out w9; go_simp; try with_reducible rfl)); simp only [Act.put, List.setIfInBounds_toArray, List.set_cons_zero, List.set_cons_succ]
            refine wpG_take (i := 7) (oi := ⟨some 59, _, _, _, _, _⟩) (v := ?_) rfl (by kernel_rfl) (by kernel_rfl) (by kernel_rfl) (Or.inl ⟨by rfl, unib_val ?_⟩) ?_; rotate_left; (focus (intro w9 hSw; have q0 := HC0.out w9 hSw; have q1 := HC1.out w9 hSw; have q2 := HC2.out w9 hSw; go_simp; try with_reducible rfl)); simp only [Act.put, List.setIfInBounds_toArray, List.set_cons_zero, List.set_cons_succ]
            refine wpG_take (i := 8) (oi := ⟨some 60, _, _, _, _, _⟩) (v := ?_) rfl (by kernel_rfl) (by kernel_rfl) (by kernel_rfl) (Or.inl ⟨by rfl, unib_val ?_⟩) ?_; rotate_left; (focus (intro w9 hSw; have q0 := HEQ.out w9; go_simp; try with_reducible rfl)); simp only [Act.put, List.setIfInBounds_toArray, List.set_cons_zero, List.set_cons_succ]
            refine wpG_take (i := 9) (oi := ⟨some 61, _, _, _, _, _⟩) (v := ?_) rfl (by kernel_rfl) (by kernel_rfl) (by kernel_rfl) (Or.inl ⟨by rfl, unib_val ?_⟩) ?_; rotate_left; (focus (intro w9 hSw; go_simp; try with_reducible rfl)); simp only [Act.put, List.setIfInBounds_toArray, List.set_cons_zero, List.set_cons_succ]
            refine wpG_take (i := 10) (oi := ⟨some 62, _, _, _, _, _⟩) (v := ?_) rfl (by kernel_rfl) (by kernel_rfl) (by kernel_rfl) (Or.inl ⟨by rfl, unib_val ?_⟩) ?_; rotate_left; (focus (intro w9 hSw; go_simp; try with_reducible rfl)); simp only [Act.put, List.setIfInBounds_toArray, List.set_cons_zero, List.set_cons_succ]
            refine wpG_take (i := 11) (oi := ⟨some 63, _, _, _, _, _⟩) (v := ?_) rfl (by kernel_rfl) (by kernel_rfl) (by kernel_rfl) (Or.inl ⟨by rfl, unib_val ?_⟩) ?_; rotate_left; (focus (intro w9 hSw; go_simp; try with_reducible rfl)); simp only [Act.put, List.setIfInBounds_toArray, List.set_cons_zero, List.set_cons_succ]
            refine wpG_take (i := 12) (oi := ⟨some 64, _, _, _, _, _⟩) (v := ?_) rfl (by kernel_rfl) (by kernel_rfl) (by kernel_rfl) (Or.inl ⟨by rfl, unib_val ?_⟩) ?_; rotate_left; (focus (intro w9 hSw; go_simp; try with_reducible rfl)); simp only [Act.put, List.setIfInBounds_toArray, List.set_cons_zero, List.set_cons_succ]
            refine wpG_take (i := 13) (oi := ⟨some 65, _, _, _, _, _⟩) (v := ?_) rfl (by kernel_rfl) (by kernel_rfl) (by kernel_rfl) (Or.inl ⟨by rfl, unib_val ?_⟩) ?_; rotate_left; (focus (intro w9 hSw; go_simp; try with_reducible rfl)); simp only [Act.put, List.setIfInBounds_toArray, List.set_cons_zero, List.set_cons_succ]
            refine wpG_take (i := 14) (oi := ⟨some 66, _, _, _, _, _⟩) (v := ?_) rfl (by kernel_rfl) (by kernel_rfl) (by kernel_rfl) (Or.inl ⟨by rfl, unib_val ?_⟩) ?_; rotate_left; (focus (intro w9 hSw; have q0 := HGT.out; go_simp; try with_reducible rfl)); simp only [Act.put, List.setIfInBounds_toArray, List.set_cons_zero, List.set_cons_succ]
            refine wpG_take (i := 15) (oi := ⟨some 67, _, _, _, _, _⟩) (v := ?_) rfl (by kernel_rfl) (by kernel_rfl) (by kernel_rfl) (Or.inl ⟨by rfl, unib_val ?_⟩) ?_; rotate_left; (focus (intro w9 hSw; go_simp; try with_reducible rfl)); simp only [Act.put, List.setIfInBounds_toArray, List.set_cons_zero, List.set_cons_succ]
            refine wpG_done (by kernel_rfl) ?_ _
            intro w9 hSw hO
            have B9 := Lib.hid (B5.out.trans (hSw.mono B5.out.size))
            have hsl := HSL.out
            clear hSw
            go_wp2
            go_roundw
            case rel => exact ⟨j + 1, by omega, by go_num, ⟨A2, _, _, rfl, HD.out, HM2.out, by omega, by simp only [maxLen]; omega⟩, B9.out⟩
            case measure => simp [intOf]; omega
          · obtain rfl : j = k := by omega
            have hm0 : m = 0 := by rw [← hm, List.drop_eq_nil_of_le (by rw [HL.out]; omega)]; rfl
            subst hm0
            have HBW := Lib.hid (HB.out.trans (hbw.mono HB.out.size))
            clear hm hby hbw
            go_wp2
            go_ret
            exact ⟨rfl, HBW.out⟩
  · have h20' : 10 < len0 := by omega
    go_enter Tryd.func5, Tryd.ntmps5
    go_wp2_with fail
    refine (clAwake _ hlaid).mono ?_
    rintro e w1 ⟨rfl, hb1⟩
    clear hlaid
    go_wp2
    go_ret
    exact ⟨rfl, hb1⟩
end Go.Proofs.YtonbhcbkelmhgaaDoor
