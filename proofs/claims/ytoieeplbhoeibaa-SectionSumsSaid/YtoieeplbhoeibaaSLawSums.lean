/-
  The law SectionSums: for all bytes, every place and every byte it answers true, and nothing that was there is written.
-/
import Derived.Test.YtoieeplbhoeibaaSecAwake
import Derived.Laws.OwnMore
import Derived.Deep.RegionHeld3
import Derived.StillTailTactics
import Derived.WalkSmall
namespace Go.Proofs.Ytoieeplbhoeibaa
open Go.RowKit WM
set_option linter.unusedVariables false
theorem xor3_len : ∀ {xs ys zs : List Int}, ys.length = xs.length → zs.length = xs.length → (SM.xor3 xs ys zs).length = xs.length
  | [], _, _, _, _ => by simp [SM.xor3]
  | x :: xs, y :: ys, z :: zs, h1, h2 => by
    rw [SM.xor3, List.length_cons, List.length_cons, xor3_len (by simpa using h1) (by simpa using h2)]
  | _ :: _, [], _, h, _ => by simp at h
  | _ :: _, _ :: _, [], _, h => by simp at h
theorem xor3_get : ∀ {xs ys zs : List Int} (k : Nat), ys.length = xs.length → zs.length = xs.length → k < xs.length → (SM.xor3 xs ys zs).getD k 0 = (((xs.getD k 0).toNat ^^^ (ys.getD k 0).toNat ^^^ (zs.getD k 0).toNat : Nat) : Int)
  | x :: xs, y :: ys, z :: zs, 0, _, _, _ => by simp [SM.xor3]
  | x :: xs, y :: ys, z :: zs, k + 1, h1, h2, h3 => by
    have := xor3_get (xs := xs) (ys := ys) (zs := zs) k (by simpa using h1) (by simpa using h2) (by simpa using h3)
    simpa [SM.xor3] using this
  | [], _, _, _, _, _, h => by simp at h
  | _ :: _, [], _, _, h, _, _ => by simp at h
  | _ :: _, _ :: _, [], _, _, h, _ => by simp at h
/-- x, of which the first k bytes were made. -/
def xk (F A : List Int) (k : Nat) : List Int := F.take k ++ A.drop k
theorem xk_len {F A : List Int} (h : F.length = A.length) (k : Nat) : (xk F A k).length = A.length := by simp [xk, h]; omega
theorem xk_next {F A : List Int} (h : F.length = A.length) {k : Nat} (hk : k < A.length) : (xk F A k).set k (F.getD k 0) = xk F A (k + 1) := by
  unfold xk
  rw [List.set_append, if_neg (by rw [List.length_take]; omega), List.length_take, Nat.min_eq_left (by omega), Nat.sub_self, drop_at hk, List.set_cons_zero, List.take_succ_eq_append_getElem (by omega), List.getD, List.getElem?_eq_getElem (by omega), List.append_assoc]
  rfl
theorem xk_all {F A : List Int} (h : F.length = A.length) : xk F A A.length = F := by simp [xk, ← h]
def OwnB (b : Nat) (wr : World) (g n c : Nat) (L : List Int) : Prop := wr.ownsRow b 5 1 (.slice (some ⟨g, 0, none⟩) n c) n (L.map (Value.int .u8))
theorem OwnB.cell {b : Nat} {wr : World} {g n c : Nat} {L : List Int} (h : OwnB b wr g n c L) {j : Nat} (hj : j < L.length) : wr.cell? ⟨g, j, none⟩ = some (.int .u8 (L.getD j 0)) := by
  obtain ⟨b', off', hA, _, hc⟩ := Byt.own (zs := L) h (fun e => by rw [e] at hj; simp at hj)
  injection hA with hA
  injection hA with h1 h2
  subst h1 h2
  have := hc j hj
  rwa [Nat.zero_add] at this
theorem OwnB.frozen {b : Nat} {wr : World} {g n c : Nat} {L : List Int} (h : OwnB b wr g n c L) (j : Nat) : wr.frozen? ⟨g, j, none⟩ = false := by
  rcases h.2 with ⟨h1, _⟩ | ⟨g', cap, cur, hv, _, hh, _⟩
  · cases h1
  · injection hv with h1
    injection h1 with h1
    injection h1 with h1
    subst h1
    exact frozen_of_row _ _ j _ _ hh

theorem set_bytes {zs : List Int} {q : Int} {i : Nat} (h : AllBytes zs) (hq : 0 ≤ q ∧ q ≤ 255) : AllBytes (zs.set i q) := fun z hz => by
  rcases List.mem_or_eq_of_mem_set hz with h1 | rfl
  · exact h z h1
  · exact hq
theorem sums_iff {zs : List Int} {q : Int} {i : Nat} (h : AllBytes zs) (hq : 0 ≤ q ∧ q ≤ 255) (hi : i < zs.length) : (SM.sum (zs.set i q) == SM.sum zs) = (q == zs.getD i 0) := by
  have e1 : zs = zs.take i ++ zs.getD i 0 :: zs.drop (i + 1) := by rw [← drop_at hi, List.take_append_drop]
  have e2 : zs.set i q = zs.take i ++ q :: zs.drop (i + 1) := by rw [List.set_eq_take_append_cons_drop, if_pos hi]
  rw [Bool.eq_iff_iff, beq_iff_eq, beq_iff_eq]
  constructor
  · intro hs
    rw [e2] at hs
    have h3 : SM.sum zs = SM.sum (zs.take i ++ zs.getD i 0 :: zs.drop (i + 1)) := by rw [← e1]
    rw [h3] at hs
    exact SM.sum_one (all_take h i) (all_drop h (i + 1)) hq (all_get h i) hs
  · intro hs
    rw [e2, hs, ← e1]
theorem own_formB {w : World} {base n : Nat} {v : Value} {zs : List Int} (h : w.ownsRow base 5 1 v n (zs.map (Value.int .u8))) (hn : 0 < n) : ∃ g c, v = .slice (some ⟨g, 0, none⟩) n c ∧ base ≤ g ∧ n ≤ c ∧ c ≤ maxLen := by
  rcases h.2 with ⟨_, h1⟩ | ⟨g, cap, cur, h1, h2, h3, h4, h5, _⟩
  · omega
  · exact ⟨g, cap, h1, h2, h4, h5⟩
theorem own_setB {w : World} {b g n c : Nat} {zs : List Int} (h : OwnB b w g n c zs) (i : Nat) (x : Int) : OwnB b (w.setCell ⟨g, i, none⟩ (.int .u8 x)) g n c (zs.set i x) := by
  unfold OwnB
  rw [List.map_set]
  exact (h.stored i _).1
theorem own_lt {w : World} {b g n c : Nat} {xs : List Value} (h : w.ownsRow b 5 1 (.slice (some ⟨g, 0, none⟩) n c) n xs) : g < w.heap.size := by
  rcases h.2 with ⟨h1, _⟩ | ⟨g', cap, cur, hv, _, hh, _⟩
  · cases h1
  · injection hv with h1
    injection h1 with h1
    injection h1 with h1
    subst h1
    rcases Nat.lt_or_ge g w.heap.size with h3 | h3
    · exact h3
    · rw [Array.getElem?_eq_none h3] at hh; cases hh
theorem own_farB {w : World} {b g n c g' : Nat} {zs : List Int} (h : OwnB b w g n c zs) (hne : g' ≠ g) (i : Nat) (v : Value) : OwnB b (w.setCell ⟨g', i, none⟩ v) g n c zs := by
  refine ⟨h.1, ?_⟩
  rcases h.2 with h1 | ⟨g1, cap, cur, h1, h2, hh, h4⟩
  · exact .inl h1
  · refine .inr ⟨g1, cap, cur, h1, h2, ?_, h4⟩
    injection h1 with e1
    injection e1 with e1
    injection e1 with e1
    subst e1
    rw [heap_setCell_other _ _ _ _ (fun e => hne e.symm)]
    exact hh
theorem xor3_bytes : ∀ {xs ys zs : List Int}, AllBytes xs → AllBytes ys → AllBytes zs → AllBytes (SM.xor3 xs ys zs)
  | x :: xs, y :: ys, z :: zs, h1, h2, h3 => by
    intro v hv
    rw [SM.xor3] at hv
    have a := h1 x (by simp)
    have b := h2 y (by simp)
    have c := h3 z (by simp)
    rcases List.mem_cons.1 hv with rfl | hv
    · have : (x.toNat ^^^ y.toNat ^^^ z.toNat) < 256 := Nat.xor_lt_two_pow (n := 8) (Nat.xor_lt_two_pow (n := 8) (by omega) (by omega)) (by omega)
      omega
    · exact xor3_bytes (fun u hu => h1 u (by simp [hu])) (fun u hu => h2 u (by simp [hu])) (fun u hu => h3 u (by simp [hu])) v hv
  | [], _, _, _, _, _ => fun v hv => by simp [SM.xor3] at hv
  | _ :: _, [], _, _, _, _ => fun v hv => by simp [SM.xor3] at hv
  | _ :: _, _ :: _, [], _, _, _ => fun v hv => by simp [SM.xor3] at hv
theorem wp_still_sec {P : Program} {id : Nat} {Q : Exit → Act → World → Prop} {a : Act} {w : World} {l : List Oper} (n : Nat) (hm : P.follows .mixedOrders = true) (hB : Region.lexTailB .any l.toArray n = true)
    (h : ∀ w2, w2 = w.drew → wpStill P l.toArray w2 (fun a' => wpList P l.toArray Q (l.drop n) a' w2) (l.take n) a) : (Code.region id l.toArray true).wp P Q a w :=
  wp_region_still_tail n hm hB (h _ rfl)
set_option maxHeartbeats 4000000 in
set_option maxRecDepth 100000 in
theorem sums_some (a0 : Option Addr) (la c0 : Nat) (za : List Int) (a1 : Option Addr) (c1 : Nat) (zb : List Int) (a2 : Option Addr) (c2 : Nat) (zd : List Int) (t q : Int) (w : World)
    (y0 : Byt w w.heap.size a0 za) (l0 : za.length = la) (bb0 : AllBytes za) (m0 : la ≤ maxLen) (n0 : a0 = none → c0 = 0)
    (y1 : Byt w w.heap.size a1 zb) (l1 : zb.length = la) (bb1 : AllBytes zb) (y2 : Byt w w.heap.size a2 zd) (l2 : zd.length = la) (bb2 : AllBytes zd)
    (hla : la ≤ 100) (hpos : 0 < la) (hq : 0 ≤ q ∧ q ≤ 255) :
    Calls Try.prog 3 #[.slice a0 la c0, .slice a1 la c1, .slice a2 la c2, .int .i64 t, .int .u8 q] w fun e w' => e = .returned (.bool true) ∧ Below w.heap.size w w' := by
  obtain ⟨i0, hi, hz0, hz1, hz2⟩ := info_parts infoByte
  obtain ⟨la0, lb0⟩ : za.length = la ∧ za.length ≤ 100 := ⟨l0, by omega⟩
  have L0 := Lib.hid l0
  have N0 := Lib.hid n0
  have FL := Lib.hid (xor3_len (xs := za) (ys := zb) (zs := zd) (by omega) (by omega))
  have SA := fun (X : World) (hX : Below w.heap.size w X) => sum_any a0 la c0 za X (y0.below hX) l0 bb0 (by omega) hX.size
  have SB := fun (X : World) (hX : Below w.heap.size w X) => sum_any a1 la c1 zb X (y1.below hX) l1 bb1 (by omega) hX.size
  have SD := fun (X : World) (hX : Below w.heap.size w X) => sum_any a2 la c2 zd X (y2.below hX) l2 bb2 (by omega) hX.size
  have hFb : AllBytes (SM.xor3 za zb zd) := xor3_bytes bb0 bb1 bb2
  have rA := SM.sum_range bb0
  have rB := SM.sum_range bb1
  have rD := SM.sum_range bb2
  have x1 := u32_xor (SM.sum za) (SM.sum zb) (by omega) (by omega) (by omega) (by omega)
  have hP : ((SM.sum za).toNat ^^^ (SM.sum zb).toNat) < 4294967296 := Nat.xor_lt_two_pow (n := 32) (by omega) (by omega)
  have x2 := u32_xor ((((SM.sum za).toNat ^^^ (SM.sum zb).toNat : Nat) : Int)) (SM.sum zd) (by omega) (by omega) (by omega) (by omega)
  rw [Int.toNat_natCast, ← SM.sum_xor3 bb0 bb1 bb2 (by omega) (by omega)] at x2
  have X1 := Lib.hid x1
  have X2 := Lib.hid x2
  unfold SumPost at SA SB SD
  clear x1 x2 rA rB rD hP
  obtain ⟨ba, offa, rfl, hba, hca⟩ := y0 (fun e => by rw [e] at l0; simp at l0; omega)
  obtain ⟨bb, offb, rfl, hbb, hcb⟩ := y1 (fun e => by rw [e] at l1; simp at l1; omega)
  obtain ⟨bd, offd, rfl, hbd, hcd⟩ := y2 (fun e => by rw [e] at l2; simp at l2; omega)
  have HCA := Lib.hid hca
  have HCB := Lib.hid hcb
  have HCD := Lib.hid hcd
  have HY := Lib.hid y0
  have HXG := Lib.hid (fun (k : Nat) (hk : k < la) => xor3_get (xs := za) (ys := zb) (zs := zd) k (by omega) (by omega) (by omega))
  have HB0 := Lib.hid bb0
  have HB1 := Lib.hid bb1
  have HB2 := Lib.hid bb2
  have HL1 := Lib.hid l1
  have HL2 := Lib.hid l2
  have HSA := Lib.hid SA
  have HSB := Lib.hid SB
  have HSD := Lib.hid SD
  have HFb := Lib.hid hFb
  clear hca hcb hcd y0 y1 y2 l0 l1 l2 bb0 bb1 bb2 SA SB SD hFb n0 m0 la0 lb0
  generalize SM.xor3 za zb zd = F at *
  go_enter Try.func3, Try.ntmps3
  go_wp2_with fail
  refine (awake_any _).mono ?_
  rintro e w1 ⟨rfl, hb1⟩
  have Y1 := Lib.hid (HY.out.below hb1)
  go_wp2_with (first | (at_builtin; refine wpList_append_byt (o := ⟨some 39, _, _, _, _, _⟩) _ rfl _ _ 22 rfl w1.heap.size 5 i0 Try.underlying22 hi hz0 hz1 hz2 _ 0 [] rfl (World.ownsRow_nil w1 w1.heap.size 5 1) w.heap.size (some ⟨ba, offa, none⟩) la c0 za rfl Y1.out L0.out N0.out (by omega) (Nat.le_refl _) ?_; intro v12 w2 ho39 hg39; rw [Nat.zero_add, List.nil_append] at ho39; have hb39 := (Below.refl w1.heap.size w1).grown hg39 (Nat.le_refl _) (fun g hg => by cases hg); have Y2 := Lib.hid (HY.out.below (hb1.trans (hb39.mono hb1.size))); clear hg39) | (at_builtin; refine wpList_append_byt (o := ⟨some 41, _, _, _, _, _⟩) _ rfl _ _ 22 rfl w2.heap.size 5 i0 Try.underlying22 hi hz0 hz1 hz2 _ 0 [] rfl (World.ownsRow_nil w2 w2.heap.size 5 1) w.heap.size (some ⟨ba, offa, none⟩) la c0 za rfl Y2.out L0.out N0.out (by omega) (Nat.le_refl _) ?_; intro v13 w3 ho41 hg41; rw [Nat.zero_add, List.nil_append] at ho41; have hb41 := (Below.refl w2.heap.size w2).grown hg41 (Nat.le_refl _) (fun g hg => by cases hg); clear hg41))
  obtain ⟨gx, cx, hvx, hgx, hcx, hcxm⟩ := own_formB ho39 hpos
  obtain ⟨gy, cy, hvy, hgy, hcy, hcym⟩ := own_formB ho41 hpos
  subst hvx hvy
  have ox : OwnB w1.heap.size w3 gx la cx za := own_below ho39 hb41
  have oy : OwnB w2.heap.size w3 gy la cy za := ho41
  have hgx2 : gx < w2.heap.size := own_lt ho39
  have b3 : Below w.heap.size w w3 := (hb1.trans (hb39.mono hb1.size)).trans (hb41.mono (by have := hb39.size; have := hb1.size; omega))
  have hgxw : w.heap.size ≤ gx := by have := hb1.size; omega
  have hxy : gx ≠ gy := by omega
  have hgyw : w.heap.size ≤ gy := by omega
  have OX := Lib.hid (show OwnB w1.heap.size w3 gx la cx (xk F za 0) from by simpa [xk] using ox)
  have OY := Lib.hid oy
  have B3 := Lib.hid b3
  unfold maxLen at hcxm hcym
  clear ox oy b3 ho39 ho41 hb39 hb41 hb1 Y1 Y2
  go_wp2_with fail
  go_loopw [14] (fun i wr => ∃ k : Nat, k ≤ la ∧ i = .int .i64 (k : Int) ∧ OwnB w1.heap.size wr gx la cx (xk F za k) ∧ OwnB w2.heap.size wr gy la cy za ∧ Below w.heap.size w wr) (fun i _ => la - (intOf i).toNat)
  case atStart => exact ⟨0, by omega, rfl, OX.out, OY.out, B3.out⟩
  case round =>
    clear OX OY B3
    obtain ⟨k, hk, rfl, ox, oy, hbel⟩ := hrel
    by_cases hkl : k < la
    · have cA := (hbel.cell (p := ⟨ba, offa + k, none⟩) hba).trans (HCA.out k (by rw [L0.out]; exact hkl))
      have cB := (hbel.cell (p := ⟨bb, offb + k, none⟩) hbb).trans (HCB.out k (by rw [HL1.out]; exact hkl))
      have cD := (hbel.cell (p := ⟨bd, offd + k, none⟩) hbd).trans (HCD.out k (by rw [HL2.out]; exact hkl))
      have rA := all_get HB0.out k
      have rB := all_get HB1.out k
      have rD := all_get HB2.out k
      have hv := HXG.out k hkl
      have f1 := u8_xor (za.getD k 0) (zb.getD k 0) (by omega) (by omega) (by omega) (by omega)
      have hp : ((za.getD k 0).toNat ^^^ (zb.getD k 0).toNat) < 256 := Nat.xor_lt_two_pow (n := 8) (by omega) (by omega)
      have f2 := u8_xor ((((za.getD k 0).toNat ^^^ (zb.getD k 0).toNat : Nat) : Int)) (zd.getD k 0) (by omega) (by omega) (by omega) (by omega)
      rw [Int.toNat_natCast, ← hv] at f2
      have HSX := Lib.hid (fun (W2 : World) (h2 : OwnB w1.heap.size W2 gx la cx (xk F za k)) => own_setB h2 k (F.getD k 0))
      rw [xk_next (by rw [FL.out]) (by rw [L0.out]; exact hkl)] at HSX
      have HOX := Lib.hid ox
      have HOY := Lib.hid oy
      have Hbel := Lib.hid hbel
      have xl := xk_len (F := F) (A := za) (by rw [FL.out]) k
      have hx9 : ∃ old, wr.cell? ⟨gx, k, none⟩ = some old := ⟨_, ox.cell (by rw [xl, L0.out]; exact hkl)⟩
      have hfz := ox.frozen k
      have i1 := fun w9 => ix_at ba offa la c0 k hkl (k : Int) rfl w9
      have i2 := fun w9 => ix_at bb offb la c1 k hkl (k : Int) rfl w9
      have i3 := fun w9 => ix_at bd offd la c2 k hkl (k : Int) rfl w9
      have i4 := fun w9 => ix_at gx 0 la cx k hkl (k : Int) rfl w9
      rw [Nat.zero_add] at i4
      obtain ⟨old, hold⟩ := hx9
      clear ox oy hbel hv rA rB rD hp xl
      generalize (((za.getD k 0).toNat ^^^ (zb.getD k 0).toNat : Nat) : Int) = P at *
      generalize za.getD k 0 = xa at *
      generalize zb.getD k 0 = xb at *
      generalize zd.getD k 0 = xd at *
      generalize F.getD k 0 = xf at *
      go_wp2_with fail
      refine wp_still_sec 17 (by kernel_rfl) (by kernel_rfl) fun W2 hW2 => ?_
      have k1 : W2.cell? ⟨ba, offa + k, none⟩ = some (.int .u8 xa) := by rw [hW2]; exact cA
      have k2 : W2.cell? ⟨bb, offb + k, none⟩ = some (.int .u8 xb) := by rw [hW2]; exact cB
      have k3 : W2.cell? ⟨bd, offd + k, none⟩ = some (.int .u8 xd) := by rw [hW2]; exact cD
      have k4 : W2.cell? ⟨gx, k, none⟩ = some old := by rw [hW2]; exact hold
      have k5 : W2.frozen? ⟨gx, k, none⟩ = false := by rw [hW2]; exact hfz
      have qb : Below w.heap.size w W2 := by rw [hW2]; exact Hbel.out.drew
      have qx : OwnB w1.heap.size W2 gx la cx (xk F za k) := by rw [hW2]; exact own_below HOX.out (Below.refl _ _).drew
      have qy : OwnB w2.heap.size W2 gy la cy za := by rw [hW2]; exact own_below HOY.out (Below.refl _ _).drew
      have Q1 := Lib.hid (HSX.out W2 qx)
      have Q2 := Lib.hid (own_farB qy (g' := gx) (fun e => hxy e) k (.int .u8 xf))
      have Q3 := Lib.hid (qb.setCell (p := ⟨gx, k, none⟩) hgxw (.int .u8 xf))
      clear hW2 cA cB cD hold hfz qb qx qy HOX HOY Hbel HSX
      simp only [List.take_succ_cons, List.take_zero, List.drop_succ_cons, List.drop_zero]
      repeat still_step
      refine wpStill_nil ?_
      clear i1 i2 i3 i4
      go_wp2
      go_roundw
      case rel => first | exact ⟨k + 1, by omega, by go_num, Q1.out, Q2.out, Q3.out⟩ | ((repeat apply Exists.intro); exact ⟨⟨k + 1, by omega, by go_num, Q1.out, Q2.out, Q3.out⟩, rfl⟩)
      case measure => simp [intOf]; omega
    · obtain rfl : k = la := by omega
      have hFl : F.length = k := by rw [FL.out, L0.out]
      have hxa : xk F za k = F := by rw [← L0.out]; exact xk_all (by rw [FL.out])
      rw [hxa] at ox
      have FX := Lib.hid (fun (W : World) (o : OwnB w1.heap.size W gx k cx F) (X : World) (hX : Below W.heap.size W X) => sum_any (some ⟨gx, 0, none⟩) k cx F X ((Byt.own o).below hX) hFl HFb.out (by unfold maxLen; omega) hX.size)
      unfold SumPost at FX
      by_cases hin : 0 ≤ t ∧ t < (k : Int)
      · obtain ⟨τ, rfl⟩ : ∃ τ : Nat, t = τ := ⟨t.toNat, by omega⟩
        have hτ : τ < k := by omega
        clear hin
        have hset := sums_iff HB0.out hq (show τ < za.length by rw [L0.out]; exact hτ)
        have hsb : AllBytes (za.set τ q) := set_bytes HB0.out hq
        have CYx := Lib.hid (fun (W : World) (o : OwnB w2.heap.size W gy k cy (za.set τ q)) (X : World) (hX : Below W.heap.size W X) => sum_any (some ⟨gy, 0, none⟩) k cy (za.set τ q) X ((Byt.own o).below hX) (by rw [List.length_set, L0.out]) hsb (by unfold maxLen; omega) hX.size)
        unfold SumPost at CYx
        have hold : ∃ old, wr.cell? ⟨gy, τ, none⟩ = some old := ⟨_, oy.cell (by rw [L0.out]; exact hτ)⟩
        obtain ⟨old, hold⟩ := hold
        have hfz := oy.frozen τ
        have o1 := own_setB oy τ q
        have o2 := own_farB ox (g' := gy) (fun e => hxy e.symm) τ (.int .u8 q)
        have o3 := hbel.setCell (p := ⟨gy, τ, none⟩) hgyw (.int .u8 q)
        have O1 := Lib.hid o1
        have O2 := Lib.hid o2
        have O3 := Lib.hid o3
        have hdA := (o3.cell (p := ⟨ba, offa + τ, none⟩) hba).trans (HCA.out τ (by rw [L0.out]; exact hτ))
        have DA := Lib.hid hdA
        have iA := fun w9 => ix_at ba offa k c0 τ hτ (τ : Int) rfl w9
        have IA := Lib.hid iA
        have HSET := Lib.hid hset
        have hlτ : (τ : Int) < k := by omega
        clear o1 o2 o3 hdA iA hset hsb ox oy hbel hFl hxa HB0 HB1 HB2 HXG HCA HCB HCD
        go_wp2_with fail
        generalize wr.setCell ⟨gy, τ, none⟩ (.int .u8 q) = W at *
        have hX0 : Below W.drew.heap.size W.drew W.drew := Below.refl _ _
        refine wp_region_held_drew (S := fun w' => Below W.drew.heap.size W.drew w') (by kernel_rfl) (Below.refl _ _) (fun hS => ?_)
        have dA : W.drew.cell? ⟨ba, offa + τ, none⟩ = some (.int .u8 (za.getD τ 0)) := DA.out
        have OX := Lib.hid (show OwnB w1.heap.size W.drew gx k cx F from own_below O2.out (Below.refl _ _).drew)
        have OY := Lib.hid (show OwnB w2.heap.size W.drew gy k cy (za.set τ q) from own_below O1.out (Below.refl _ _).drew)
        have BW := Lib.hid (show Below w.heap.size w W.drew from O3.out.drew)
        have hltA : ba < W.drew.heap.size := Nat.lt_of_lt_of_le hba BW.out.size
        generalize W.drew = X at *
        have CY := Lib.hid (CYx.out X OY.out)
        have CA := Lib.hid (fun (w9 : World) (h9 : Below X.heap.size X w9) => HSA.out w9 (BW.out.trans (h9.mono BW.out.size)))
        have FXX := Lib.hid (FX.out X OX.out)
        have FA := CA
        have FB := Lib.hid (fun (w9 : World) (h9 : Below X.heap.size X w9) => HSB.out w9 (BW.out.trans (h9.mono BW.out.size)))
        have FD := Lib.hid (fun (w9 : World) (h9 : Below X.heap.size X w9) => HSD.out w9 (BW.out.trans (h9.mono BW.out.size)))
        have hE := HSET.out
        have iA := IA.out
        obtain ⟨bq, hbq⟩ : ∃ bq, (q == za.getD τ 0) = bq := ⟨_, rfl⟩
        rw [hbq] at hE
        clear HSET IA DA O1 O2 O3 CYx FX OX OY HSA HSB HSD hX0 hold hfz
        have FX := FXX
        clear FXX
        generalize SM.sum (za.set τ q) = sY at *
        generalize SM.sum za = sA at *
        generalize SM.sum zb = sB at *
        generalize SM.sum zd = sD at *
        generalize SM.sum F = sF at *
        generalize (((sA).toNat ^^^ (sB).toNat : Nat) : Int) = P at *
        generalize za.getD τ 0 = xa at *
        refine wpAnyH_take (i := 0) (oi := ⟨some 77, _, _, _, _, _⟩) (v := ?_) rfl (by kernel_rfl) (by kernel_rfl) (by kernel_rfl) (fun _ _ _ h => h) (Or.inl ⟨by rfl, ?_⟩) hS ?_; rotate_left; (focus (intro w9 hSw; (try dsimp only at hSw); go_simp; try with_reducible rfl)); simp only [Act.put, List.setIfInBounds_toArray, List.set_cons_zero, List.set_cons_succ]
        refine wpAnyH_take (i := 2) (oi := ⟨some 79, _, _, _, _, _⟩) (v := ?_) rfl (by kernel_rfl) (by kernel_rfl) (by kernel_rfl) (fun _ _ _ h => h) (Or.inl ⟨by rfl, ?_⟩) hS ?_; rotate_left; (focus (intro w9 hSw; (try dsimp only at hSw); go_simp; try with_reducible rfl)); simp only [Act.put, List.setIfInBounds_toArray, List.set_cons_zero, List.set_cons_succ]
        refine wpAnyH_take (i := 5) (oi := ⟨some 82, _, _, _, _, _⟩) (v := ?_) rfl (by kernel_rfl) (by kernel_rfl) (by kernel_rfl) (fun _ _ _ h => h) (Or.inl ⟨by rfl, ?_⟩) hS ?_; rotate_left; (focus (intro w9 hSw; (try dsimp only at hSw); go_simp; try with_reducible rfl)); simp only [Act.put, List.setIfInBounds_toArray, List.set_cons_zero, List.set_cons_succ]
        refine wpAnyH_take (i := 6) (oi := ⟨some 83, _, _, _, _, _⟩) (v := ?_) rfl (by kernel_rfl) (by kernel_rfl) (by kernel_rfl) (fun _ _ _ h => h) (Or.inl ⟨by rfl, ?_⟩) hS ?_; rotate_left; (focus (intro w9 hSw; (try dsimp only at hSw); go_simp; try with_reducible rfl)); simp only [Act.put, List.setIfInBounds_toArray, List.set_cons_zero, List.set_cons_succ]
        refine wpAnyH_take (i := 7) (oi := ⟨some 84, _, _, _, _, _⟩) (v := ?_) rfl (by kernel_rfl) (by kernel_rfl) (by kernel_rfl) (fun _ _ _ h => h) (Or.inl ⟨by rfl, ?_⟩) hS ?_; rotate_left; (focus (intro w9 hSw; (try dsimp only at hSw); go_simp; try with_reducible rfl)); simp only [Act.put, List.setIfInBounds_toArray, List.set_cons_zero, List.set_cons_succ]
        refine wpAnyH_take (i := 8) (oi := ⟨some 85, _, _, _, _, _⟩) (v := ?_) rfl (by kernel_rfl) (by kernel_rfl) (by kernel_rfl) (fun _ _ _ h => h) (Or.inl ⟨by rfl, ?_⟩) hS ?_; rotate_left; (focus (intro w9 hSw; (try dsimp only at hSw); go_simp; try with_reducible rfl)); simp only [Act.put, List.setIfInBounds_toArray, List.set_cons_zero, List.set_cons_succ]
        refine wpAnyH_take (i := 9) (oi := ⟨some 86, _, _, _, _, _⟩) (v := ?_) rfl (by kernel_rfl) (by kernel_rfl) (by kernel_rfl) (fun _ _ _ h => h) (Or.inl ⟨by rfl, ?_⟩) hS ?_; rotate_left; (focus (intro w9 hSw; (try dsimp only at hSw); have c9 := (hSw.cell (p := ⟨ba, offa + τ, none⟩) hltA).trans dA; go_simp; try with_reducible rfl)); simp only [Act.put, List.setIfInBounds_toArray, List.set_cons_zero, List.set_cons_succ]
        refine wpAnyH_take (i := 10) (oi := ⟨some 87, _, _, _, _, _⟩) (v := ?_) rfl (by kernel_rfl) (by kernel_rfl) (by kernel_rfl) (fun _ _ _ h => h) (Or.inl ⟨by rfl, ?_⟩) hS ?_; rotate_left; (focus (intro w9 hSw; (try dsimp only at hSw); go_simp; try with_reducible rfl)); simp only [Act.put, List.setIfInBounds_toArray, List.set_cons_zero, List.set_cons_succ]
        refine wpAnyH_ready (rs := [1]) (by kernel_rfl) (by simp) (AllReadyH.cons (o := ⟨some 78, _, _, _, _, _⟩) rfl (fun K hK => ?_) AllReadyH.nil)
        go_simp
        refine (CY.out _ hS).mono ?_
        rintro e y1 ⟨rfl, hb1⟩
        have hS1 : Below X.heap.size X y1 := hS.trans (hb1.mono hS.size)
        refine hK.out _ _ hS1 (fun _ => ?_)
        clear hK K hb1 hS
        have hS := hS1
        refine wpAnyH_ready (rs := [3]) (by kernel_rfl) (by simp) (AllReadyH.cons (o := ⟨some 80, _, _, _, _, _⟩) rfl (fun K hK => ?_) AllReadyH.nil)
        go_simp
        refine (CA.out _ hS).mono ?_
        rintro e y3 ⟨rfl, hb3⟩
        have hS3 : Below X.heap.size X y3 := hS.trans (hb3.mono hS.size)
        refine hK.out _ _ hS3 (fun _ => ?_)
        clear hK K hb3 hS
        have hS := hS3
        refine wpAnyH_take (i := 4) (oi := ⟨some 81, _, _, _, _, _⟩) (v := ?_) rfl (by kernel_rfl) (by kernel_rfl) (by kernel_rfl) (fun _ _ _ h => h) (Or.inl ⟨by rfl, ?_⟩) hS ?_; rotate_left; (focus (intro w9 hSw; (try dsimp only at hSw); go_simp; try with_reducible rfl)); simp only [Act.put, List.setIfInBounds_toArray, List.set_cons_zero, List.set_cons_succ]
        refine wpAnyH_take (i := 11) (oi := ⟨some 88, _, _, _, _, _⟩) (v := ?_) rfl (by kernel_rfl) (by kernel_rfl) (by kernel_rfl) (fun _ _ _ h => h) (Or.inl ⟨by rfl, ?_⟩) hS ?_; rotate_left; (focus (intro w9 hSw; (try dsimp only at hSw); go_simp; try with_reducible rfl)); simp only [Act.put, List.setIfInBounds_toArray, List.set_cons_zero, List.set_cons_succ]
        refine wpAnyH_done (by kernel_rfl) ?_ _
        clear iA hE hbq dA
        have q0 := Lib.hid hS
        clear hS1 hS3 hS
        go_wp2_with fail
        refine (FX.out _ q0.out).mono ?_
        rintro e v1 ⟨rfl, hq1⟩
        have q1 := Lib.hid (q0.out.trans (hq1.mono q0.out.size))
        clear hq1
        go_wp2_with fail
        refine (FA.out _ q1.out).mono ?_
        rintro e v2 ⟨rfl, hq2⟩
        have q2 := Lib.hid (q1.out.trans (hq2.mono q1.out.size))
        clear hq2
        go_wp2_with fail
        refine (FB.out _ q2.out).mono ?_
        rintro e v3 ⟨rfl, hq3⟩
        have q3 := Lib.hid (q2.out.trans (hq3.mono q2.out.size))
        clear hq3
        go_wp2_with fail
        refine (FD.out _ q3.out).mono ?_
        rintro e v4 ⟨rfl, hq4⟩
        have q4 := Lib.hid (q3.out.trans (hq4.mono q3.out.size))
        clear hq4
        have e1 := X1.out
        have e2 := X2.out
        go_wp2
        go_ret
        exact ⟨rfl, BW.out.trans (q4.out.mono BW.out.size)⟩
      · have BW := Lib.hid hbel
        have FXX := Lib.hid (FX.out wr ox)
        have FA := Lib.hid (fun (w9 : World) (h9 : Below wr.heap.size wr w9) => HSA.out w9 (BW.out.trans (h9.mono BW.out.size)))
        have FB := Lib.hid (fun (w9 : World) (h9 : Below wr.heap.size wr w9) => HSB.out w9 (BW.out.trans (h9.mono BW.out.size)))
        have FD := Lib.hid (fun (w9 : World) (h9 : Below wr.heap.size wr w9) => HSD.out w9 (BW.out.trans (h9.mono BW.out.size)))
        have q0 := Lib.hid (Below.refl wr.heap.size wr)
        clear FX HSA HSB HSD ox oy hbel hFl hxa HB0 HB1 HB2 HXG HCA HCB HCD HFb
        have FX := FXX
        clear FXX
        generalize SM.sum za = sA at *
        generalize SM.sum zb = sB at *
        generalize SM.sum zd = sD at *
        generalize SM.sum F = sF at *
        generalize (((sA).toNat ^^^ (sB).toNat : Nat) : Int) = P at *
        by_cases ht0 : t < 0
        · have hge : ¬ 0 ≤ t := by omega
          clear hin
          go_wp2_with fail
          refine (FX.out _ q0.out).mono ?_
          rintro e v1 ⟨rfl, hq1⟩
          have q1 := Lib.hid (q0.out.trans (hq1.mono q0.out.size))
          clear hq1
          go_wp2_with fail
          refine (FA.out _ q1.out).mono ?_
          rintro e v2 ⟨rfl, hq2⟩
          have q2 := Lib.hid (q1.out.trans (hq2.mono q1.out.size))
          clear hq2
          go_wp2_with fail
          refine (FB.out _ q2.out).mono ?_
          rintro e v3 ⟨rfl, hq3⟩
          have q3 := Lib.hid (q2.out.trans (hq3.mono q2.out.size))
          clear hq3
          go_wp2_with fail
          refine (FD.out _ q3.out).mono ?_
          rintro e v4 ⟨rfl, hq4⟩
          have q4 := Lib.hid (q3.out.trans (hq4.mono q3.out.size))
          clear hq4
          have e1 := X1.out
          have e2 := X2.out
          go_wp2
          go_ret
          exact ⟨rfl, BW.out.trans (q4.out.mono BW.out.size)⟩
        · have hge : 0 ≤ t := by omega
          have hnl : ¬ t < (k : Int) := by omega
          clear hin ht0
          go_wp2_with fail
          refine (FX.out _ q0.out).mono ?_
          rintro e v1 ⟨rfl, hq1⟩
          have q1 := Lib.hid (q0.out.trans (hq1.mono q0.out.size))
          clear hq1
          go_wp2_with fail
          refine (FA.out _ q1.out).mono ?_
          rintro e v2 ⟨rfl, hq2⟩
          have q2 := Lib.hid (q1.out.trans (hq2.mono q1.out.size))
          clear hq2
          go_wp2_with fail
          refine (FB.out _ q2.out).mono ?_
          rintro e v3 ⟨rfl, hq3⟩
          have q3 := Lib.hid (q2.out.trans (hq3.mono q2.out.size))
          clear hq3
          go_wp2_with fail
          refine (FD.out _ q3.out).mono ?_
          rintro e v4 ⟨rfl, hq4⟩
          have q4 := Lib.hid (q3.out.trans (hq4.mono q3.out.size))
          clear hq4
          have e1 := X1.out
          have e2 := X2.out
          go_wp2
          go_ret
          exact ⟨rfl, BW.out.trans (q4.out.mono BW.out.size)⟩
set_option maxHeartbeats 2000000 in
theorem sums_zero (a0 : Option Addr) (c0 : Nat) (a1 : Option Addr) (c1 : Nat) (a2 : Option Addr) (c2 : Nat) (t q : Int) (w : World) (n0 : a0 = none → c0 = 0) :
    Calls Try.prog 3 #[.slice a0 (0 : Nat) c0, .slice a1 (0 : Nat) c1, .slice a2 (0 : Nat) c2, .int .i64 t, .int .u8 q] w fun e w' => e = .returned (.bool true) ∧ Below w.heap.size w w' := by
  obtain ⟨i0, hi, hz0, hz1, hz2⟩ := info_parts infoByte
  have N0 := Lib.hid n0
  have nb : AllBytes [] := fun z hz => by simp at hz
  have SX := Lib.hid (fun (X : World) (A : Option Addr) (c : Nat) => sum_any (B := X.heap.size) A 0 c [] X Byt.nil rfl nb (by decide) (Nat.le_refl _))
  unfold SumPost at SX
  have e1' : bits .xor .u32 (SM.sum []) (SM.sum []) = 0 := by decide +kernel
  have e2' : bits .xor .u32 0 (SM.sum []) = SM.sum [] := by decide +kernel
  have X1 := Lib.hid e1'
  have X2 := Lib.hid e2'
  clear n0 nb e1' e2'
  generalize SM.sum [] = sF at *
  go_enter Try.func3, Try.ntmps3
  go_wp2_with fail
  refine (awake_any _).mono ?_
  rintro e w1 ⟨rfl, hb1⟩
  go_wp2_with (first | (at_builtin; refine wpList_append_byt (o := ⟨some 39, _, _, _, _, _⟩) _ rfl _ _ 22 rfl w1.heap.size 5 i0 Try.underlying22 hi hz0 hz1 hz2 _ 0 [] rfl (World.ownsRow_nil w1 w1.heap.size 5 1) w.heap.size a0 0 c0 [] rfl Byt.nil rfl N0.out (by omega) (Nat.le_refl _) ?_; intro v12 w2 ho39 hg39; rw [Nat.zero_add, List.nil_append] at ho39; have hb39 := (Below.refl w1.heap.size w1).grown hg39 (Nat.le_refl _) (fun g hg => by cases hg); clear hg39) | (at_builtin; refine wpList_append_byt (o := ⟨some 41, _, _, _, _, _⟩) _ rfl _ _ 22 rfl w2.heap.size 5 i0 Try.underlying22 hi hz0 hz1 hz2 _ 0 [] rfl (World.ownsRow_nil w2 w2.heap.size 5 1) w.heap.size a0 0 c0 [] rfl Byt.nil rfl N0.out (by omega) (Nat.le_refl _) ?_; intro v13 w3 ho41 hg41; rw [Nat.zero_add, List.nil_append] at ho41; have hb41 := (Below.refl w2.heap.size w2).grown hg41 (Nat.le_refl _) (fun g hg => by cases hg); clear hg41))
  have b2 := hb1.trans (hb39.mono hb1.size)
  have b3 := b2.trans (hb41.mono b2.size)
  obtain ⟨A12, m12, c12, hv12, hm12, _⟩ := gives_own ho39 hb39
  injection hv12 with hv12
  subst hv12
  obtain rfl : (0 : Nat) = m12 := hm12
  have BW := Lib.hid b3
  clear ho39 ho41 hb1 hb39 hb41 b2 b3
  go_wp2_with fail
  go_loopw [14] (fun i wr => i = .int .i64 0 ∧ w3 = wr) (fun _ _ => 1)
  case atStart => exact ⟨rfl, rfl⟩
  case round =>
    obtain ⟨rfl, rfl⟩ := hrel
    have q0 := Lib.hid (Below.refl w3.heap.size w3)
    have FX := Lib.hid (fun (X : World) (_ : Below w3.heap.size w3 X) => SX.out X A12 c12)
    have FA := Lib.hid (fun (X : World) (_ : Below w3.heap.size w3 X) => SX.out X a0 c0)
    have FB := Lib.hid (fun (X : World) (_ : Below w3.heap.size w3 X) => SX.out X a1 c1)
    have FD := Lib.hid (fun (X : World) (_ : Below w3.heap.size w3 X) => SX.out X a2 c2)
    clear SX
    by_cases ht0 : t < 0
    · have hge : ¬ 0 ≤ t := by omega
      go_wp2_with fail
      refine (FX.out _ q0.out).mono ?_
      rintro e v1 ⟨rfl, hq1⟩
      have q1 := Lib.hid (q0.out.trans (hq1.mono q0.out.size))
      clear hq1
      go_wp2_with fail
      refine (FA.out _ q1.out).mono ?_
      rintro e v2 ⟨rfl, hq2⟩
      have q2 := Lib.hid (q1.out.trans (hq2.mono q1.out.size))
      clear hq2
      go_wp2_with fail
      refine (FB.out _ q2.out).mono ?_
      rintro e v3 ⟨rfl, hq3⟩
      have q3 := Lib.hid (q2.out.trans (hq3.mono q2.out.size))
      clear hq3
      go_wp2_with fail
      refine (FD.out _ q3.out).mono ?_
      rintro e v4 ⟨rfl, hq4⟩
      have q4 := Lib.hid (q3.out.trans (hq4.mono q3.out.size))
      clear hq4
      have e1 := X1.out
      have e2 := X2.out
      go_wp2
      go_ret
      exact ⟨rfl, BW.out.trans (q4.out.mono BW.out.size)⟩
    · have hge : 0 ≤ t := by omega
      have hnl : ¬ t < 0 := by omega
      clear ht0
      go_wp2_with fail
      refine (FX.out _ q0.out).mono ?_
      rintro e v1 ⟨rfl, hq1⟩
      have q1 := Lib.hid (q0.out.trans (hq1.mono q0.out.size))
      clear hq1
      go_wp2_with fail
      refine (FA.out _ q1.out).mono ?_
      rintro e v2 ⟨rfl, hq2⟩
      have q2 := Lib.hid (q1.out.trans (hq2.mono q1.out.size))
      clear hq2
      go_wp2_with fail
      refine (FB.out _ q2.out).mono ?_
      rintro e v3 ⟨rfl, hq3⟩
      have q3 := Lib.hid (q2.out.trans (hq3.mono q2.out.size))
      clear hq3
      go_wp2_with fail
      refine (FD.out _ q3.out).mono ?_
      rintro e v4 ⟨rfl, hq4⟩
      have q4 := Lib.hid (q3.out.trans (hq4.mono q3.out.size))
      clear hq4
      have e1 := X1.out
      have e2 := X2.out
      go_wp2
      go_ret
      exact ⟨rfl, BW.out.trans (q4.out.mono BW.out.size)⟩
set_option maxHeartbeats 1000000 in
theorem sums_out (a0 : Option Addr) (len0 cap0 : Nat) (a1 : Option Addr) (len1 cap1 : Nat) (a2 : Option Addr) (len2 cap2 : Nat) (t q : Int) (w : World) (m0 : len0 ≤ 9223372036854775807) (m1 : len1 ≤ 9223372036854775807) (m2 : len2 ≤ 9223372036854775807) (h : 100 < len0 ∨ len1 ≠ len0 ∨ len2 ≠ len0) :
    Calls Try.prog 3 #[.slice a0 len0 cap0, .slice a1 len1 cap1, .slice a2 len2 cap2, .int .i64 t, .int .u8 q] w fun e w' => e = .returned (.bool true) ∧ Below w.heap.size w w' := by
  by_cases h1 : 100 < len0
  · clear h
    go_enter Try.func3, Try.ntmps3
    go_wp2_with fail
    refine (awake_any _).mono ?_
    rintro e w1 ⟨rfl, hb1⟩
    go_wp2
    go_ret
    exact ⟨rfl, hb1⟩
  · by_cases h2 : len1 = len0
    · subst h2
      have h3 : ((len2 : Int) == (len1 : Int)) = false := by simp; omega
      have h4 : ((len2 : Int) != (len1 : Int)) = true := by simp; omega
      clear h
      go_enter Try.func3, Try.ntmps3
      go_wp2_with fail
      refine (awake_any _).mono ?_
      rintro e w1 ⟨rfl, hb1⟩
      go_wp2
      go_ret
      exact ⟨rfl, hb1⟩
    · have h3 : ((len1 : Int) == (len0 : Int)) = false := by simp; omega
      have h4 : ((len1 : Int) != (len0 : Int)) = true := by simp; omega
      clear h h2
      go_enter Try.func3, Try.ntmps3
      go_wp2_with fail
      refine (awake_any _).mono ?_
      rintro e w1 ⟨rfl, hb1⟩
      go_wp2
      go_ret
      exact ⟨rfl, hb1⟩
theorem walk_sectionSums (a0 : Option Addr) (len0 cap0 : Nat) (z0 : List Int) (a1 : Option Addr) (len1 cap1 : Nat) (z1 : List Int) (a2 : Option Addr) (len2 cap2 : Nat) (z2 : List Int) (t q : Int) (w : World) (w0 : IsRow .u8 w a0 len0 cap0 z0) (w1 : IsRow .u8 w a1 len1 cap1 z1) (w2 : IsRow .u8 w a2 len2 cap2 z2) (w3 : (Lit.int .i64 t).wf = true) (w4 : (Lit.int .u8 q).wf = true) :
    Calls Try.prog 3 #[.slice a0 len0 cap0, .slice a1 len1 cap1, .slice a2 len2 cap2, .int .i64 t, .int .u8 q] w fun e w' => e = .returned (.bool true) ∧ Below w.heap.size w w' := by
  obtain ⟨y0, l0, b0, c0, m0⟩ := w0.byt
  obtain ⟨y1, l1, b1, c1, m1⟩ := w1.byt
  obtain ⟨y2, l2, b2, c2, m2⟩ := w2.byt
  have n0 := row_nil w0
  have hq := bounds_u8 w4
  by_cases h : 100 < len0 ∨ len1 ≠ len0 ∨ len2 ≠ len0
  · unfold maxLen at m0 m1 m2
    exact sums_out a0 len0 cap0 a1 len1 cap1 a2 len2 cap2 t q w (by omega) (by omega) (by omega) h
  · obtain rfl : len1 = len0 := by omega
    obtain rfl : len2 = len1 := by omega
    rcases Nat.eq_zero_or_pos len2 with rfl | hp
    · exact sums_zero a0 cap0 a1 cap1 a2 cap2 t q w n0
    · exact sums_some a0 len2 cap0 (z0.take len2) a1 cap1 (z1.take len2) a2 cap2 (z2.take len2) t q w y0 l0 b0 (Nat.le_trans c0 m0) n0 y1 l1 b1 y2 l2 b2 (by omega) hp hq
end Go.Proofs.Ytoieeplbhoeibaa
