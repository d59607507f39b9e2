import Derived.Test.YtbkopnpafmjicaaGreatDoorQ0
import Derived.Test.YtbkopnpafmjicaaGreatDoorQ27
import Derived.Test.YtbkopnpafmjicaaGreatDoorQ18
import Derived.Test.YtbkopnpafmjicaaGreatDoorQ36
import Derived.Test.YtbkopnpafmjicaaGreatDoorQ21
import Derived.Test.YtbkopnpafmjicaaGreatDoorQ15
import Derived.Test.YtbkopnpafmjicaaGreatDoorQ23
import Derived.Test.YtbkopnpafmjicaaGreatDoorQ22
import Derived.Test.YtbkopnpafmjicaaGreatDoorQ16
import Derived.Defers
import Derived.Recover
/-
  What the functions that a law of this layer reaches answer, part 37. Nothing that was there is written.
-/
namespace Go.Proofs.YtbkopnpafmjicaaGreatDoor
set_option linter.unusedVariables false
set_option linter.unusedSimpArgs false
section
section
open Go.RowKit WM
set_option maxRecDepth 20000
theorem rstPut_yes (n r : Int) (w : World) (h : may n r = true) : Calls Tryz.prog 93 #[st n r] w (GivesT w (enc (n * 8 + r))) := by
 have h1 := rstPut_any n r w
 unfold StPutPost at h1
 simp only [h, if_true] at h1
 exact h1
theorem rcput_yes (c : Cel) (w : World) (h : cmay c = true) : Calls Tryz.prog 94 #[c.v] w (GivesT w (cenc c)) := by
 have h1 := rcput_any c w
 unfold CPutPost at h1
 simp only [h, if_true] at h1
 exact h1
theorem byt_one' (w : World) (c : Int) : Byt (w.alloc (.cells #[.int .u8 c] 5)) (w.alloc (.cells #[.int .u8 c] 5)).heap.size (some ⟨w.heap.size, 0, none⟩) [c] := fun _ => ⟨w.heap.size, 0, rfl, by rw [World.size_alloc]; omega, fun i hi => by
 obtain rfl : i = 0 := by simpa using hi
 have hh : (w.alloc (.cells #[.int .u8 c] 5)).heap[w.heap.size]? = some (.cells #[.int .u8 c] 5) := heap_alloc_new w _
 rw [cell_of_row _ _ _ _ _ _ hh]; rfl⟩
theorem own_len {w : World} {base m : Nat} {v : Value} {zs : List Int} (h : w.ownsRow base 5 1 v m (zs.map (Value.int .u8))) : m = zs.length := by simpa using h.1.symm
theorem bo_apart {w : World} {p m base : Nat} {s v : Value} {xs : List Value} (h : BoAt w p s) (k : w.ownsRow base 5 1 v m xs) : some p ≠ v.ownBlock := by
 rcases k.2 with ⟨rfl, _⟩ | ⟨g, cap, cur, rfl, _, hg, _⟩
 ·simp [Value.ownBlock]
 ·intro e
  obtain rfl : p = g := by simpa [Value.ownBlock] using e
  have := h.symm.trans hg
  simp at this
theorem x_apart {w : World} {p m base : Nat} {x : RcA} {v : Value} {xs : List Value} (h : XAt w p x) (k : w.ownsRow base 5 1 v m xs) : some p ≠ v.ownBlock := by
 rcases k.2 with ⟨rfl, _⟩ | ⟨g, cap, cur, rfl, _, hg, _⟩
 ·simp [Value.ownBlock]
 ·intro e
  obtain rfl : p = g := by simpa [Value.ownBlock] using e
  have := h.2.symm.trans hg
  simp at this
theorem BoAt.by' {w w' : World} {p : Nat} {v : Value} {row : Option Nat} (h : BoAt w p v) (hg : w.grownBy w' row) (hr : some p ≠ row) : BoAt w' p v := h.same (hg.block _ h.lt hr)
theorem XAt.by' {w w' : World} {p : Nat} {x : RcA} {row : Option Nat} (h : XAt w p x) (hg : w.grownBy w' row) (hr : some p ≠ row) : XAt w' p x := h.same (hg.block _ h.lt hr)
set_option maxHeartbeats 16000000 in
theorem rput_book (b : Bk) (w : World) (h : BkAt w b) (hfs : ∀ x ∈ b.xs, x.R.fs.length ≤ 1000) (hbl1 : b.xs.length ≤ 1000) : Calls Tryz.prog 68 #[.agg #[.slice b.A b.xs.length b.c]] w (PutPost w b.rs) := by
 have S0 := Lib.hid (BoAt.new w (.slice b.A b.xs.length b.c))
 have HB := Lib.hid ((Below.refl w.heap.size w).alloc (Nat.le_refl _) (.cells #[.slice b.A b.xs.length b.c] 24))
 have HM := Lib.hid (rbmay_any b _ (h.below HB.out (Nat.le_refl _)) hfs hbl1)
 have s0 := S0.out.c0
 clear hfs hbl1
 cases hm : bmay b.rs
 ·have HV : Hid (∀ e w', e = .returned (.tuple #[.slice none 0 0, .bool false]) ∧ Below w.heap.size w w' → PutPost w b.rs e w') := Lib.hid (fun e w' h1 => by unfold PutPost; rw [hm]; exact h1)
  rw [hm] at HM
  clear hm h
  go_enter Tryz.func68, Tryz.ntmps68
  go_wp2_with fail
  refine HM.out.mono ?_
  rintro e w1 ⟨rfl, hb⟩
  have B1 := Lib.hid (HB.out.trans (hb.mono HB.out.size))
  clear hb s0
  go_wp2
  go_ret2
  exact HV.out _ _ ⟨rfl, B1.out⟩
 ·have HV : Hid (∀ e w', GivesT w (benc b.rs) e w' → PutPost w b.rs e w') := Lib.hid (fun e w' h1 => by unfold PutPost; rw [hm]; exact h1)
  obtain ⟨h10, hall, _⟩ := bmay_iff.1 hm
  rw [hm] at HM
  have HXS := Lib.hid h.2.2.2.2
  have HCELL := Lib.hid h.2.2.2.1
  have hcap := h.2.1
  simp only [maxLen] at hcap
  have hlc := h.1
  have HMAY : Hid (∀ x ∈ b.xs, x.R.may = true) := Lib.hid (fun x hx => hall x.R (List.mem_map_of_mem hx))
  have HLB := Lib.hid (fun k => flat_len (g := renc) (b := 2000) (l := b.rs.take k) fun R hR => by
   obtain ⟨x, hx, rfl⟩ := List.mem_map.1 (List.mem_of_mem_take hR)
   exact renc_len (HXS.out x hx).len (HMAY.out x hx))
  have hbl : b.rs.length = b.xs.length := by unfold Bk.rs; rw [List.length_map]
  have HBL := Lib.hid hbl
  rw [hbl] at h10
  have HHL := Lib.hid (enc_len (b.xs.length : Int)).2
  have HEQ : Hid (benc b.rs = enc b.xs.length ++ b.rs.flatMap renc) := Lib.hid (by unfold benc; rw [hbl])
  have HPG := rput_any (b.xs.length : Int)
  unfold Gives at HPG
  have HPG := Lib.hid (fun w => HPG w (by omega) (by omega))
  have hwr : IntKind.u64.wrap (b.xs.length : Int) = (b.xs.length : Int) := IntWalk.u64_in _ (by omega)
  generalize hH : enc (b.xs.length : Int) = H at *
  obtain ⟨i0, hi, hz0, hz1, hz2⟩ := info_parts infoByte
  have hz := zeroX
  clear hm h hall hbl hH
  generalize hlen : b.xs.length = len at *
  have HLN := Lib.hid hlen
  clear hlen
  go_enter Tryz.func68, Tryz.ntmps68
  go_wp2_with fail
  refine HM.out.mono ?_
  rintro e w1 ⟨rfl, hb⟩
  have B1 := Lib.hid (HB.out.trans (hb.mono HB.out.size))
  have S1 := Lib.hid (S0.out.below hb S0.out.lt)
  clear hb s0
  have s0 := S1.out.c0
  go_wp2_with fail
  refine (HPG.out _).mono ?_
  rintro e w2 ⟨A2, n2, k2, rfl, hn2, hnk2, hkm2, hown2, hb2⟩
  have B2 := Lib.hid (B1.out.trans (hb2.mono B1.out.size))
  have O2 := Lib.hid (own_wide hown2 B1.out.size)
  have S2 := Lib.hid (S1.out.below hb2 S1.out.lt)
  clear s0 hn2 hnk2 hkm2 hown2 hb2
  go_wp2
  go_loopw [5, 6] (fun v i wr => ∃ (k m : Nat), k ≤ len ∧ i = .int .i64 k ∧ wr.ownsRow w.heap.size 5 1 v m ((H ++ (b.rs.take k).flatMap renc).map (Value.int .u8)) ∧ BoAt wr w.heap.size (.slice b.A len b.c) ∧ Below w.heap.size w wr ) (fun _ i _ => len - (intOf i).toNat)
  case atStart => exact ⟨0, n2, Nat.zero_le _, rfl, by simp only [List.take_zero, List.flatMap_nil, List.append_nil]; exact O2.out, S2.out, B2.out⟩
  case round =>
   obtain ⟨k, m, hk, rfl, ho, hbo, hb⟩ := hrel
   by_cases hlt : k < len
   ·obtain ⟨b0, off, hA, hb0, hcc⟩ := HCELL.out (by omega)
    have HA := Lib.hid hA
    clear hA
    have hkl : k < b.xs.length := by rw [HLN.out]; exact hlt
    have hrec := (hcc k hlt).same (hb.block b0 hb0)
    have hix := ix_rec b0 off len b.c k hlt k rfl
    have hml := own_len ho
    have hlb := HLB.out k
    have hHH := HHL.out
    rw [List.length_take, HBL.out, Nat.min_eq_left hk] at hlb
    rw [List.length_append] at hml
    have hm9 : m ≤ 30000 := by omega
    have hmem : b.xs.getD k rcA0 ∈ b.xs := by rw [List.getD_eq_getElem?_getD, List.getElem?_eq_getElem hkl]; exact List.getElem_mem _
    have hrs : b.rs[k]? = some (b.xs.getD k rcA0).R := by
     unfold Bk.rs
     rw [List.getElem?_map, List.getD_eq_getElem?_getD, List.getElem?_eq_getElem hkl]
     rfl
    have HNX : Hid (H ++ (b.rs.take (k + 1)).flatMap renc = (H ++ (b.rs.take k).flatMap renc) ++ renc (b.xs.getD k rcA0).R) := Lib.hid (by
     rw [List.take_add_one, List.flatMap_append, hrs]
     simp)
    have HXV := Lib.hid (HXS.out _ hmem)
    have hxm := HMAY.out _ hmem
    generalize b.xs.getD k rcA0 = x at *
    generalize hP : H ++ (b.rs.take k).flatMap renc = P at *
    have LX := Lib.hid hrec.load
    have HZ16 := Lib.hid HXV.out.len
    have HO := Lib.hid ho
    have HBB := Lib.hid hb
    have HBO := Lib.hid hbo
    have s9 := hbo.c0
    rw [HA.out] at s9
    obtain ⟨hmay, h8, hmm⟩ := may_fs hxm
    have HMY := Lib.hid hmay
    have HMM := Lib.hid hmm
    have HE1 := Lib.hid (enc_len (x.R.n * 8 + x.R.r)).2
    have HE2 := Lib.hid (enc_len (x.R.fs.length : Int)).2
    have HPL := rput_any (x.R.fs.length : Int)
    unfold Gives at HPL
    have HPL := Lib.hid (fun w => HPL w (by omega) (by omega))
    have hwr2 : IntKind.u64.wrap (x.R.fs.length : Int) = (x.R.fs.length : Int) := IntWalk.u64_in _ (by omega)
    have HFL := Lib.hid (fun q => flat_len (g := fenc) (b := 221) (l := x.R.fs.take q) fun f hf => (fenc_len (hmm f (List.mem_of_mem_take hf)).2.2).1)
    have HRE : Hid (renc x.R = x.R.z ++ (enc (x.R.n * 8 + x.R.r) ++ (enc x.R.fs.length ++ x.R.fs.flatMap fenc))) := Lib.hid rfl
    have HPS := Lib.hid (fun w => rstPut_yes x.R.n x.R.r w hmay)
    unfold GivesT st at HPS
    generalize enc (x.R.n * 8 + x.R.r) = E1 at *
    generalize enc (x.R.fs.length : Int) = E2 at *
    clear hml hlb hHH hcc ho hb hP hmem hrs hrec hkl hbo hmm hmay hxm
    go_wp2_with (first | ((with_reducible refine wpList_load_by (o := ⟨some 34, .load 58 (.tmp 33), _, _, _, _⟩) ?e1 58 (.tmp 33) ?e2 ⟨b0, off + k * 19, none⟩ ?e3 _ LX.out ?_); (case e1 => rfl); (case e2 => rfl); (case e3 => rfl)) | ((with_reducible refine wpList_store_newx (o := ⟨none, .store 58 (.tmp 7) (.tmp 34), _, _, _, _⟩) (w := wr) ?e1 (.tmp 7) (.tmp 34) ?e2 wr.heap.size ?e0 ?e3 x ?e4 HZ16.out ?_); (case e1 => rfl); (case e2 => rfl); (case e0 => rfl); (case e3 => rfl); (case e4 => rfl); intro w5 hb5 hx5 hs5; have X5 := Lib.hid hx5; have B5 := Lib.hid (HBB.out.trans (hb5.mono HBB.out.size)); have O5 := Lib.hid (own_below HO.out hb5); have S5 := Lib.hid (HBO.out.below hb5 HBO.out.lt); clear hb5 hx5 hs5))
    clear s9
    generalize hgx : wr.heap.size = gx at *
    go_loopw [5, 8] (fun v j wq => ∃ (q m : Nat), q ≤ 16 ∧ j = .int .i64 q ∧ wq.ownsRow w.heap.size 5 1 v m ((P ++ x.R.z.take q).map (Value.int .u8)) ∧ m ≤ 30000 + q ∧ BoAt wq w.heap.size (.slice b.A len b.c) ∧ XAt wq gx x ∧ Below w.heap.size w wq) (fun _ j _ => 16 - (intOf j).toNat)
    case atStart => exact ⟨0, m, by omega, rfl, by simp only [List.take_zero, List.append_nil]; exact O5.out, by omega, S5.out, X5.out, B5.out⟩
    case round =>
     obtain ⟨q, m1, hq, rfl, ho, hm1, hbo, hxa, hb⟩ := hrel
     by_cases hqt : q < 16
     ·have hcz := hxa.rec.cellz hqt
      have tq : (q : Int) < 16 := by omega
      have HNZ : Hid (x.R.z.take (q + 1) = x.R.z.take q ++ [x.R.z.getD q 0]) := Lib.hid (by
       rw [List.take_add_one, List.getD_eq_getElem?_getD, List.getElem?_eq_getElem (by rw [HZ16.out]; exact hqt)]
       rfl)
      generalize x.R.z.getD q 0 = z0 at *
      rw [Nat.zero_add] at hcz
      have O6 := Lib.hid (ho.alloc (.cells #[.int .u8 z0] 5))
      have S6 := Lib.hid (hbo.old (.cells #[.int .u8 z0] 5))
      have X6 := Lib.hid (hxa.old (.cells #[.int .u8 z0] 5))
      have B6 := Lib.hid (hb.alloc hb.size (.cells #[.int .u8 z0] 5))
      have Y6 := Lib.hid (byt_one' wr z0)
      clear ho hbo hxa hb
      go_wp2_with (at_builtin; refine wpList_append_byt _ rfl (.tmp 39) (.tmp 44) 76 rfl w.heap.size 5 i0 Tryz.underlying76 hi hz0 hz1 hz2 _ m1 (P ++ x.R.z.take q) rfl O6.out _ (some ⟨wr.heap.size, 0, none⟩) 1 1 [z0] rfl Y6.out rfl (fun h => by cases h) (by omega) B6.out.size ?_; intro v7 w7 ho7 hg7; have O7 := Lib.hid ho7; have B7 := Lib.hid (B6.out.grown hg7 B6.out.size (fun g hg => own_base O6.out hg)); have S7 := Lib.hid (S6.out.by' hg7 (bo_apart S6.out O6.out)); have X7 := Lib.hid (X6.out.by' hg7 (x_apart X6.out O6.out)); clear ho7 hg7)
      go_roundw
      case rel => exact ⟨q + 1, m1 + 1, by omega, by go_num, by rw [HNZ.out, ← List.append_assoc]; exact O7.out, by omega, S7.out, X7.out, B7.out⟩
      case measure => simp [intOf]; omega
     ·obtain rfl : q = 16 := by omega
      have HZT : Hid (x.R.z.take 16 = x.R.z) := Lib.hid (List.take_of_length_le (by rw [HZ16.out]; exact Nat.le_refl _))
      rw [HZT.out] at ho
      have x16 := hxa.c16
      have x17 := hxa.c17
      have O6 := Lib.hid ho
      have S6 := Lib.hid hbo
      have X6 := Lib.hid hxa
      have B6 := Lib.hid hb
      clear ho hbo hxa hb
      go_wp2_with fail
      refine (HPS.out _).mono ?_
      rintro e w7 ⟨A7, n7, k7, rfl, hn7, hnk7, hkm7, hown7, hb7⟩
      have B7 := Lib.hid (B6.out.trans (hb7.mono B6.out.size))
      have O7 := Lib.hid (own_below O6.out hb7)
      have S7 := Lib.hid (S6.out.below hb7 S6.out.lt)
      have X7 := Lib.hid (X6.out.below hb7 X6.out.lt)
      have Y7 := Lib.hid (BsAt.own hown7)
      have HN7 := Lib.hid hn7
      clear hn7 hnk7 hkm7 hown7 hb7 x16 x17
      go_wp2_with (at_builtin; refine wpList_append_byt _ rfl (.tmp 52) (.tmp 53) 76 rfl w.heap.size 5 i0 Tryz.underlying76 hi hz0 hz1 hz2 _ m1 (P ++ x.R.z) rfl O7.out _ A7 n7 k7 E1 rfl Y7.out.1 Y7.out.2.1 Y7.out.2.2 (by have := HN7.out; have := HE1.out; omega) B7.out.size ?_; intro v8 w8 ho8 hg8; have O8 := Lib.hid ho8; have B8 := Lib.hid (B7.out.grown hg8 B7.out.size (fun g hg => own_base O7.out hg)); have S8 := Lib.hid (S7.out.by' hg8 (bo_apart S7.out O7.out)); have X8 := Lib.hid (X7.out.by' hg8 (x_apart X7.out O7.out)); have x18 := X8.out.c18; clear ho8 hg8)
      refine (HPL.out _).mono ?_
      rintro e w9 ⟨A9, n9, k9, rfl, hn9, hnk9, hkm9, hown9, hb9⟩
      have B9 := Lib.hid (B8.out.trans (hb9.mono B8.out.size))
      have O9 := Lib.hid (own_below O8.out hb9)
      have S9 := Lib.hid (S8.out.below hb9 S8.out.lt)
      have X9 := Lib.hid (X8.out.below hb9 X8.out.lt)
      have Y9 := Lib.hid (BsAt.own hown9)
      have HN9 := Lib.hid hn9
      clear hn9 hnk9 hkm9 hown9 hb9 x18
      go_wp2_with (at_builtin; refine wpList_append_byt _ rfl (.tmp 55) (.tmp 60) 76 rfl w.heap.size 5 i0 Tryz.underlying76 hi hz0 hz1 hz2 _ (m1 + n7) ((P ++ x.R.z) ++ E1) rfl O9.out _ A9 n9 k9 E2 rfl Y9.out.1 Y9.out.2.1 Y9.out.2.2 (by have := HN7.out; have := HE1.out; have := HN9.out; have := HE2.out; omega) B9.out.size ?_; intro v10 w10 ho10 hg10; have O10 := Lib.hid ho10; have B10 := Lib.hid (B9.out.grown hg10 B9.out.size (fun g hg => own_base O9.out hg)); have S10 := Lib.hid (S9.out.by' hg10 (bo_apart S9.out O9.out)); have X10 := Lib.hid (X9.out.by' hg10 (x_apart X9.out O9.out)); clear ho10 hg10)
      have HM2 : Hid (m1 + n7 + n9 ≤ 31000) := Lib.hid (by have := HN7.out; have := HE1.out; have := HN9.out; have := HE2.out; omega)
      have HEND : Hid (P ++ renc x.R = (((P ++ x.R.z) ++ E1) ++ E2) ++ x.R.fs.flatMap fenc) := Lib.hid (by rw [HRE.out]; simp)
      generalize (((P ++ x.R.z) ++ E1) ++ E2) = Q at *
      generalize m1 + n7 + n9 = m2 at *
      clear HN7 HN9 HE1 HE2 HPL HPS HRE
      have HF := Lib.hid HXV.out.2
      generalize hfs : x.R.fs = fs at *
      generalize hfl : fs.length = fl at *
      have HFLN := Lib.hid hfl
      have HFSQ := Lib.hid hfs
      clear hfs hfl
      go_loopw [5, 11] (fun v j wq => ∃ (q m : Nat), q ≤ fl ∧ j = .int .i64 q ∧ wq.ownsRow w.heap.size 5 1 v m ((Q ++ (fs.take q).flatMap fenc).map (Value.int .u8)) ∧ m ≤ 31000 + q * 221 ∧ BoAt wq w.heap.size (.slice b.A len b.c) ∧ XAt wq gx x ∧ Below w.heap.size w wq) (fun _ j _ => fl - (intOf j).toNat)
      case atStart => exact ⟨0, m2, by omega, rfl, by simp only [List.take_zero, List.flatMap_nil, List.append_nil]; exact O10.out, by have := HM2.out; omega, S10.out, X10.out, B10.out⟩
      case round =>
       obtain ⟨q, m3, hq, rfl, ho, hm3, hbo, hxa, hb⟩ := hrel
       have x18 := hxa.c18
       rw [HFSQ.out, HFLN.out] at x18
       by_cases hqt : q < fl
       ·obtain ⟨_, hxm, _, h4⟩ := HF.out.below hb (Nat.le_refl _)
        obtain ⟨b1, off1, hA1, hb1, hc1⟩ := h4 (by rw [HFLN.out]; omega)
        have HA1 := Lib.hid hA1
        clear hA1
        obtain ⟨c0, c1, c2, c3⟩ := hc1 q (by rw [HFLN.out]; exact hqt)
        have hix1 := ix_fld b1 off1 fl x.c q hqt q rfl
        have hcv := HMM.out (fs.getD q fld0) (by rw [List.getD_eq_getElem?_getD, List.getElem?_eq_getElem (by rw [HFLN.out]; exact hqt)]; exact List.getElem_mem _)
        have HNF : Hid (Q ++ (fs.take (q + 1)).flatMap fenc = (Q ++ (fs.take q).flatMap fenc) ++ [(fs.getD q fld0).no] ++ cenc (fs.getD q fld0).c) := Lib.hid (by
         rw [List.take_add_one, List.flatMap_append, List.getElem?_eq_getElem (by rw [HFLN.out]; exact hqt), List.getD_eq_getElem?_getD, List.getElem?_eq_getElem (by rw [HFLN.out]; exact hqt)]
         simp [fenc])
        generalize fs.getD q fld0 = f at *
        generalize Q ++ (fs.take q).flatMap fenc = Q1 at *
        have hcw : IntKind.u8.wrap f.no = f.no := IntWalk.u8_in _ (by omega)
        have HC := rcput_yes f.c wr hcv.2.2
        unfold GivesT Cel.v at HC
        have HC := Lib.hid HC
        have HLC := Lib.hid (cenc_len f.c (by have := (cmay_iff.1 hcv.2.2).2.2; omega)).1
        have c1' : wr.cell? ⟨b1, off1 + q * 4 + 1, none⟩ = some (.int .i64 f.c.n) := c1
        have c2' : wr.cell? ⟨b1, off1 + q * 4 + 1 + 1, none⟩ = some (.int .i64 f.c.r) := c2
        have c3' : wr.cell? ⟨b1, off1 + q * 4 + 1 + 2, none⟩ = some (.string f.c.s) := c3
        rw [HA1.out] at x18
        have HCZ := Lib.hid (fun (X : World) (hX : Below wr.heap.size wr X) => (hX.cell (p := ⟨b1, off1 + q * 4, none⟩) hb1).trans c0)
        have O6 := Lib.hid ho
        have S6 := Lib.hid hbo
        have X6 := Lib.hid hxa
        have B6 := Lib.hid hb
        clear ho hbo hxa hb h4 hc1 hcv hxm
        go_wp2_with fail
        refine HC.out.mono ?_
        rintro e w7 ⟨A7, n7, k7, rfl, hn7, hnk7, hkm7, hown7, hb7⟩
        have d0 := HCZ.out _ hb7
        have B7 := Lib.hid (B6.out.trans (hb7.mono B6.out.size))
        have O7 := Lib.hid ((own_below O6.out hb7).alloc (.cells #[.int .u8 f.no] 5))
        have B8 := Lib.hid (B7.out.alloc B7.out.size (.cells #[.int .u8 f.no] 5))
        have S8 := Lib.hid ((S6.out.below hb7 S6.out.lt).old (.cells #[.int .u8 f.no] 5))
        have x7 := X6.out.below hb7 X6.out.lt
        have X8 := Lib.hid (x7.old (.cells #[.int .u8 f.no] 5))
        have y18 := x7.c18
        rw [HFSQ.out, HFLN.out, HA1.out] at y18
        have R7 := Lib.hid (hown7.alloc (.cells #[.int .u8 f.no] 5))
        have HNE := Lib.hid (own_apart O6.out hown7)
        have Y8 := Lib.hid (byt_one' w7 f.no)
        have HN7 := Lib.hid hn7
        clear hn7 hnk7 hkm7 hown7 hb7 c0 c1 c2 c3 c1' c2' c3' x18 x7
        go_wp2_with (first | (at_builtin; refine wpList_append_byt _ rfl (.tmp 79) (.tmp 87) 76 rfl w.heap.size 5 i0 Tryz.underlying76 hi hz0 hz1 hz2 _ m3 Q1 rfl O7.out _ (some ⟨w7.heap.size, 0, none⟩) 1 1 [f.no] rfl Y8.out rfl (fun h => by cases h) (by omega) B8.out.size ?_; intro v8 w8 ho8 hg8; have O8 := Lib.hid ho8; have B9 := Lib.hid (B8.out.grown hg8 B8.out.size (fun g hg => own_base O7.out hg)); have Y9 := Lib.hid (BsAt.own (R7.out.kept hg8 HNE.out)); have S9 := Lib.hid (S8.out.by' hg8 (bo_apart S8.out O7.out)); have X9 := Lib.hid (X8.out.by' hg8 (x_apart X8.out O7.out)); clear ho8 hg8) | (at_builtin; refine wpList_append_byt _ rfl (.tmp 89) (.tmp 90) 76 rfl w.heap.size 5 i0 Tryz.underlying76 hi hz0 hz1 hz2 _ (m3 + 1) (Q1 ++ [f.no]) rfl O8.out _ A7 n7 k7 (cenc f.c) rfl Y9.out.1 Y9.out.2.1 Y9.out.2.2 (by have := HN7.out; have := HLC.out; omega) B9.out.size ?_; intro v9 w9 ho9 hg9; have O9 := Lib.hid ho9; have B10 := Lib.hid (B9.out.grown hg9 B9.out.size (fun g hg => own_base O8.out hg)); have S10 := Lib.hid (S9.out.by' hg9 (bo_apart S9.out O8.out)); have X10 := Lib.hid (X9.out.by' hg9 (x_apart X9.out O8.out)); clear ho9 hg9))
        go_roundw
        case rel => exact ⟨q + 1, m3 + 1 + n7, by omega, by go_num, by rw [HNF.out]; exact O9.out, by have := HN7.out; have := HLC.out; omega, S10.out, X10.out, B10.out⟩
        case measure => simp [intOf]; omega
       ·obtain rfl : q = fl := by omega
        have t1 : ¬ (q : Int) < (q : Int) := by omega
        have HTK : Hid (fs.take q = fs) := Lib.hid (List.take_of_length_le (by rw [HFLN.out]; exact Nat.le_refl _))
        rw [HTK.out, ← HEND.out] at ho
        have O6 := Lib.hid ho
        have S6 := Lib.hid hbo
        have B6 := Lib.hid hb
        clear ho hbo hxa hb
        go_wp2
        go_roundw
        case rel => exact ⟨k + 1, m3, by omega, by go_num, by rw [HNX.out]; exact O6.out, S6.out, B6.out⟩
        case measure => simp [intOf]; omega
   ·have hkn : k = len := by omega
    subst hkn
    have t1 : ¬ (k : Int) < (k : Int) := by omega
    have HO := Lib.hid ho
    have HBB := Lib.hid hb
    have s9 := hbo.c0
    clear ho hb hbo
    go_wp2
    go_ret2
    refine HV.out _ _ ?_
    rw [HEQ.out, ← List.take_length (l := b.rs), HBL.out]
    exact givesT_own HO.out HBB.out
end
section
open Go.RowKit WM
set_option maxRecDepth 20000
end
section
open Go.RowKit Go.Shelf WM
set_option maxRecDepth 100000
set_option maxHeartbeats 4000000 in
theorem rdigest_any (b : Bk) (w : World) (h : BkAt w b) (hfs : ∀ x ∈ b.xs, x.R.fs.length ≤ 1000) (hbl1 : b.xs.length ≤ 1000) : Calls Tryz.prog 39 #[.agg #[.slice b.A b.xs.length b.c]] w (DSumPost (bbs b.rs) w) := by
 have S0 := Lib.hid ((BoAt.new w (.slice b.A b.xs.length b.c)).old (.cells (bvals z32k) 26))
 have HB := Lib.hid (((Below.refl w.heap.size w).alloc (Nat.le_refl _) (.cells #[.slice b.A b.xs.length b.c] 24)).alloc (by simp) (.cells (bvals z32k) 26))
 have d0 := BRow.new (w.alloc (.cells #[.slice b.A b.xs.length b.c] 24)) 26 z32k
 rw [World.size_alloc] at d0
 have D0 := Lib.hid d0
 have HP := rput_book b _ (h.below HB.out (Nat.le_refl _)) hfs hbl1
 have s0 := S0.out.c0
 have hz := zeroDk
 have HLEN := Lib.hid (SH.sum_len (bbs b.rs))
 have HV : Hid (∀ w', Below w.heap.size w w' → DSumPost (bbs b.rs) w (.returned (.agg (bvals (SH.sum (bbs b.rs))))) w') := Lib.hid (fun w' h => ⟨rfl, h⟩)
 have hok := bk_ok h
 clear d0
 cases hm : bmay b.rs
 ·have HX := Lib.hid (show bbs b.rs = [] by unfold bbs; rw [hm]; rfl)
  unfold PutPost at HP
  simp only [hm, Bool.false_eq_true, if_false] at HP
  rw [HX.out] at HV HLEN
  have HP := Lib.hid HP
  clear hm h hok
  generalize hS : SH.sum [] = D at *
  rw [HX.out]
  go_enter Tryz.func39, Tryz.ntmps39
  go_wp2_with fail
  refine HP.out.mono ?_
  rintro e w1 ⟨rfl, hb⟩
  have B1 := Lib.hid (HB.out.trans (hb.mono HB.out.size))
  have D1 := Lib.hid (D0.out.below hb D0.out.lt)
  have HSU0 := rsum_dig (B := 0) none 0 0 [] w1 Byt.nil rfl (by decide) (fun _ => rfl) (fun z hz => by cases hz) (Nat.zero_le _)
  unfold DSumPost at HSU0
  rw [hS] at HSU0
  have HSU := Lib.hid HSU0
  clear hb s0 HSU0
  go_wp2_with fail
  refine HSU.out.mono ?_
  rintro e w2 ⟨rfl, hb⟩
  have B2 := Lib.hid (B1.out.trans (hb.mono B1.out.size))
  have D2 := Lib.hid (D1.out.below hb D1.out.lt)
  clear hb
  go_wp2_with (first | ((with_reducible refine wpList_store_digo (o := ⟨none, .store 26 (.tmp 2) (.tmp 11), _, _, _, _⟩) ?e1 (.tmp 2) (.tmp 11) ?e2 (w.heap.size + 1) _ D2.out z32k_len ?e3 D HLEN.out ?e4 ?_); (case e1 => rfl); (case e2 => rfl); (case e3 => rfl); (case e4 => rfl); intro w9 hg9 hx9; have X9 := Lib.hid hx9; have B9 := Lib.hid (B2.out.grown hg9 B2.out.size (fun k e => by have := Option.some.inj e; omega)); clear hg9 hx9))
  refine bodyPost_ret (v := .agg (bvals D)) ?_ rfl ?_
  ·exact res_digk Tryz.results39 rfl X9.out HLEN.out
  ·exact HV.out _ B9.out
 ·have HX := Lib.hid (show bbs b.rs = benc b.rs by unfold bbs; rw [hm]; rfl)
  unfold PutPost GivesT at HP
  simp only [hm, if_true] at HP
  rw [HX.out] at HV HLEN
  have HP := Lib.hid HP
  have HBY := Lib.hid (benc_bytes hm hok)
  have HBL := Lib.hid (benc_len hm fun R hR => (hok R hR).1)
  rw [HX.out]
  clear hm h hok
  generalize benc b.rs = Z at *
  generalize hS : SH.sum Z = D at *
  go_enter Tryz.func39, Tryz.ntmps39
  go_wp2_with fail
  refine HP.out.mono ?_
  rintro e w1 ⟨A1, n1, k1, rfl, hn1, hnk1, hkm1, hown1, hb⟩
  have B1 := Lib.hid (HB.out.trans (hb.mono HB.out.size))
  have D1 := Lib.hid (D0.out.below hb D0.out.lt)
  have hbs := BsAt.own hown1
  have HSU0 := rsum_dig A1 n1 k1 Z w1 hbs.1 hn1 (by have := HBL.out; omega) hbs.2.2 HBY.out (Nat.le_refl _)
  unfold DSumPost at HSU0
  rw [hS] at HSU0
  have HSU := Lib.hid HSU0
  clear hb s0 HSU0 hn1 hnk1 hkm1 hown1 hbs
  go_wp2_with fail
  refine HSU.out.mono ?_
  rintro e w2 ⟨rfl, hb⟩
  have B2 := Lib.hid (B1.out.trans (hb.mono B1.out.size))
  have D2 := Lib.hid (D1.out.below hb D1.out.lt)
  clear hb
  go_wp2_with (first | ((with_reducible refine wpList_store_digo (o := ⟨none, .store 26 (.tmp 2) (.tmp 11), _, _, _, _⟩) ?e1 (.tmp 2) (.tmp 11) ?e2 (w.heap.size + 1) _ D2.out z32k_len ?e3 D HLEN.out ?e4 ?_); (case e1 => rfl); (case e2 => rfl); (case e3 => rfl); (case e4 => rfl); intro w9 hg9 hx9; have X9 := Lib.hid hx9; have B9 := Lib.hid (B2.out.grown hg9 B2.out.size (fun k e => by have := Option.some.inj e; omega)); clear hg9 hx9))
  refine bodyPost_ret (v := .agg (bvals D)) ?_ rfl ?_
  ·exact res_digk Tryz.results39 rfl X9.out HLEN.out
  ·exact HV.out _ B9.out
end
end
end Go.Proofs.YtbkopnpafmjicaaGreatDoor
