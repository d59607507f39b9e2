import Derived.Test.YtcmknbdeafcknaaGreatDoorGCaP
import Derived.Test.YtcmknbdeafcknaaGreatDoorGBkR
import Derived.Test.YtcmknbdeafcknaaGreatDoorStRef
import Derived.Test.YtcmknbdeafcknaaGreatDoorClRef2
import Derived.Test.YtcmknbdeafcknaaGreatDoorCaGet
import Derived.Test.YtcmknbdeafcknaaGreatDoorBkJoin
import Derived.Test.YtcmknbdeafcknaaGreatDoorGBkVals
import Derived.Test.YtcmknbdeafcknaaGreatDoorGShaR
section
/-
  What the document's own Put of books answers. Nothing that was there is written.
-/
namespace Go.Proofs.YtcmknbdeafcknaaGreatDoor
open Go.RowKit WM
set_option linter.unusedVariables false
set_option maxRecDepth 20000
theorem rstPut_yes (n r : Int) (w : World) (h : may n r = true) : Calls Tryz.prog 60 #[st n r] w (GivesT w (enc (n * 8 + r))) := by
  have h1 := rstPut_any n r w
  unfold StPutPost at h1
  simp only [h, if_true] at h1
  exact h1
theorem rcput_yes (c : Cel) (w : World) (h : cmay c = true) : Calls Tryz.prog 61 #[c.v] w (GivesT w (cenc c)) := by
  have h1 := rcput_any c w
  unfold CPutPost at h1
  simp only [h, if_true] at h1
  exact h1
theorem byt_one' (w : World) (c : Int) : Byt (w.alloc (.cells #[.int .u8 c] 5)) (w.alloc (.cells #[.int .u8 c] 5)).heap.size (some ⟨w.heap.size, 0, none⟩) [c] := fun _ => ⟨w.heap.size, 0, rfl, by rw [World.size_alloc]; omega, fun i hi => by
  obtain rfl : i = 0 := by simpa using hi
  have hh : (w.alloc (.cells #[.int .u8 c] 5)).heap[w.heap.size]? = some (.cells #[.int .u8 c] 5) := heap_alloc_new w _
  rw [cell_of_row _ _ _ _ _ _ hh]; rfl⟩
theorem own_len {w : World} {base m : Nat} {v : Value} {zs : List Int} (h : w.ownsRow base 5 1 v m (zs.map (Value.int .u8))) : m = zs.length := by simpa using h.1.symm
theorem bo_apart {w : World} {p m base : Nat} {s v : Value} {xs : List Value} (h : BoAt w p s) (k : w.ownsRow base 5 1 v m xs) : some p ≠ v.ownBlock := by
  rcases k.2 with ⟨rfl, _⟩ | ⟨g, cap, cur, rfl, _, hg, _⟩
  · simp [Value.ownBlock]
  · intro e
    obtain rfl : p = g := by simpa [Value.ownBlock] using e
    have := h.symm.trans hg
    simp at this
theorem x_apart {w : World} {p m base : Nat} {x : RcA} {v : Value} {xs : List Value} (h : XAt w p x) (k : w.ownsRow base 5 1 v m xs) : some p ≠ v.ownBlock := by
  rcases k.2 with ⟨rfl, _⟩ | ⟨g, cap, cur, rfl, _, hg, _⟩
  · simp [Value.ownBlock]
  · intro e
    obtain rfl : p = g := by simpa [Value.ownBlock] using e
    have := h.2.symm.trans hg
    simp at this
theorem BoAt.by' {w w' : World} {p : Nat} {v : Value} {row : Option Nat} (h : BoAt w p v) (hg : w.grownBy w' row) (hr : some p ≠ row) : BoAt w' p v := h.same (hg.block _ h.lt hr)
theorem XAt.by' {w w' : World} {p : Nat} {x : RcA} {row : Option Nat} (h : XAt w p x) (hg : w.grownBy w' row) (hr : some p ≠ row) : XAt w' p x := h.same (hg.block _ h.lt hr)
theorem BoAt.kept' {w w' : World} {p : Nat} {v : Value} {row : Option Nat} (h : BoAt w p v) (hg : w.grownBy w' row) (hr : ∀ k, row = some k → p < k) : BoAt w' p v := h.same (hg.block _ h.lt (fun e => by have := hr p e.symm; omega))
set_option maxHeartbeats 16000000 in
theorem rput_book (b : Bk) (w : World) (h : BkAt w b) (hfs : ∀ x ∈ b.xs, x.R.fs.length ≤ 1000) (hbl1 : b.xs.length ≤ 1000) : Calls Tryz.prog 32 #[.agg #[.slice b.A b.xs.length b.c]] w (PutPost w b.rs) := by
  have S0 := Lib.hid (BoAt.new w (.slice b.A b.xs.length b.c))
  have HB := Lib.hid ((Below.refl w.heap.size w).alloc (Nat.le_refl _) (.cells #[.slice b.A b.xs.length b.c] 24))
  have HM := Lib.hid (rbmay_any b _ (h.below HB.out (Nat.le_refl _)) hfs hbl1)
  have s0 := S0.out.c0
  clear hfs hbl1
  cases hm : bmay b.rs
  · have HV : Hid (∀ e w', e = .returned (.tuple #[.slice none 0 0, .bool false]) ∧ Below w.heap.size w w' → PutPost w b.rs e w') := Lib.hid (fun e w' h1 => by unfold PutPost; rw [hm]; exact h1)
    rw [hm] at HM
    clear hm h
    go_enter Tryz.func32, Tryz.ntmps32
    go_wp2_with fail
    refine HM.out.mono ?_
    rintro e w1 ⟨rfl, hb⟩
    have B1 := Lib.hid (HB.out.trans (hb.mono HB.out.size))
    clear hb s0
    go_wp2
    go_ret2
    exact HV.out _ _ ⟨rfl, B1.out⟩
  · have HV : Hid (∀ e w', GivesT w (benc b.rs) e w' → PutPost w b.rs e w') := Lib.hid (fun e w' h1 => by unfold PutPost; rw [hm]; exact h1)
    obtain ⟨h10, hall, _⟩ := bmay_iff.1 hm
    rw [hm] at HM
    have HXS := Lib.hid h.2.2.2.2
    have HCELL := Lib.hid h.2.2.2.1
    have hcap := h.2.1
    simp only [maxLen] at hcap
    have hlc := h.1
    have HMAY : Hid (∀ x ∈ b.xs, x.R.may = true) := Lib.hid (fun x hx => hall x.R (List.mem_map_of_mem hx))
    have HLB := Lib.hid (fun k => flat_len (g := renc) (b := 2000) (l := b.rs.take k) fun R hR => by
      obtain ⟨x, hx, rfl⟩ := List.mem_map.1 (List.mem_of_mem_take hR)
      exact renc_len (HXS.out x hx).len (HMAY.out x hx))
    have hbl : b.rs.length = b.xs.length := by unfold Bk.rs; rw [List.length_map]
    have HBL := Lib.hid hbl
    rw [hbl] at h10
    have HHL := Lib.hid (enc_len (b.xs.length : Int)).2
    have HEQ : Hid (benc b.rs = enc b.xs.length ++ b.rs.flatMap renc) := Lib.hid (by unfold benc; rw [hbl])
    have HPG := rput_any (b.xs.length : Int)
    unfold Gives at HPG
    have HPG := Lib.hid (fun w => HPG w (by omega) (by omega))
    have hwr : IntKind.u64.wrap (b.xs.length : Int) = (b.xs.length : Int) := IntWalk.u64_in _ (by omega)
    generalize hH : enc (b.xs.length : Int) = H at *
    obtain ⟨i0, hi, hz0, hz1, hz2⟩ := info_parts infoByte
    have hz := zeroX
    clear hm h hall hbl hH
    generalize hlen : b.xs.length = len at *
    have HLN := Lib.hid hlen
    clear hlen
    go_enter Tryz.func32, Tryz.ntmps32
    go_wp2_with fail
    refine HM.out.mono ?_
    rintro e w1 ⟨rfl, hb⟩
    have B1 := Lib.hid (HB.out.trans (hb.mono HB.out.size))
    have S1 := Lib.hid (S0.out.below hb S0.out.lt)
    clear hb s0
    have s0 := S1.out.c0
    go_wp2_with fail
    refine (HPG.out _).mono ?_
    rintro e w2 ⟨A2, n2, k2, rfl, hn2, hnk2, hkm2, hown2, hb2⟩
    have B2 := Lib.hid (B1.out.trans (hb2.mono B1.out.size))
    have O2 := Lib.hid (own_wide hown2 B1.out.size)
    have S2 := Lib.hid (S1.out.below hb2 S1.out.lt)
    clear s0 hn2 hnk2 hkm2 hown2 hb2
    go_wp2
    go_loopw [5, 6] (fun v i wr => ∃ (k m : Nat), k ≤ len ∧ i = .int .i64 k ∧ wr.ownsRow w.heap.size 5 1 v m ((H ++ (b.rs.take k).flatMap renc).map (Value.int .u8)) ∧ BoAt wr w.heap.size (.slice b.A len b.c) ∧ Below w.heap.size w wr ) (fun _ i _ => len - (intOf i).toNat)
    case atStart => exact ⟨0, n2, Nat.zero_le _, rfl, by simp only [List.take_zero, List.flatMap_nil, List.append_nil]; exact O2.out, S2.out, B2.out⟩
    case round =>
      obtain ⟨k, m, hk, rfl, ho, hbo, hb⟩ := hrel
      by_cases hlt : k < len
      · obtain ⟨b0, off, hA, hb0, hcc⟩ := HCELL.out (by omega)
        have HA := Lib.hid hA
        clear hA
        have hkl : k < b.xs.length := by rw [HLN.out]; exact hlt
        have hrec := (hcc k hlt).same (hb.block b0 hb0)
        have hix := ix_rec b0 off len b.c k hlt k rfl
        have hml := own_len ho
        have hlb := HLB.out k
        have hHH := HHL.out
        rw [List.length_take, HBL.out, Nat.min_eq_left hk] at hlb
        rw [List.length_append] at hml
        have hm9 : m ≤ 30000 := by omega
        have hmem : b.xs.getD k rcA0 ∈ b.xs := by rw [List.getD_eq_getElem?_getD, List.getElem?_eq_getElem hkl]; exact List.getElem_mem _
        have hrs : b.rs[k]? = some (b.xs.getD k rcA0).R := by
          unfold Bk.rs
          rw [List.getElem?_map, List.getD_eq_getElem?_getD, List.getElem?_eq_getElem hkl]
          rfl
        have HNX : Hid (H ++ (b.rs.take (k + 1)).flatMap renc = (H ++ (b.rs.take k).flatMap renc) ++ renc (b.xs.getD k rcA0).R) := Lib.hid (by
          rw [List.take_add_one, List.flatMap_append, hrs]
          simp)
        have HXV := Lib.hid (HXS.out _ hmem)
        have hxm := HMAY.out _ hmem
        generalize b.xs.getD k rcA0 = x at *
        generalize hP : H ++ (b.rs.take k).flatMap renc = P at *
        have LX := Lib.hid hrec.load
        have HZ16 := Lib.hid HXV.out.len
        have HO := Lib.hid ho
        have HBB := Lib.hid hb
        have HBO := Lib.hid hbo
        have s9 := hbo.c0
        rw [HA.out] at s9
        obtain ⟨hmay, h8, hmm⟩ := may_fs hxm
        have HMY := Lib.hid hmay
        have HMM := Lib.hid hmm
        have HE1 := Lib.hid (enc_len (x.R.n * 8 + x.R.r)).2
        have HE2 := Lib.hid (enc_len (x.R.fs.length : Int)).2
        have HPL := rput_any (x.R.fs.length : Int)
        unfold Gives at HPL
        have HPL := Lib.hid (fun w => HPL w (by omega) (by omega))
        have hwr2 : IntKind.u64.wrap (x.R.fs.length : Int) = (x.R.fs.length : Int) := IntWalk.u64_in _ (by omega)
        have HFL := Lib.hid (fun q => flat_len (g := fenc) (b := 221) (l := x.R.fs.take q) fun f hf => (fenc_len (hmm f (List.mem_of_mem_take hf)).2.2).1)
        have HRE : Hid (renc x.R = x.R.z ++ (enc (x.R.n * 8 + x.R.r) ++ (enc x.R.fs.length ++ x.R.fs.flatMap fenc))) := Lib.hid rfl
        have HPS := Lib.hid (fun w => rstPut_yes x.R.n x.R.r w hmay)
        unfold GivesT st at HPS
        generalize enc (x.R.n * 8 + x.R.r) = E1 at *
        generalize enc (x.R.fs.length : Int) = E2 at *
        clear hml hlb hHH hcc ho hb hP hmem hrs hrec hkl hbo hmm hmay hxm
        go_wp2_with (first | ((with_reducible refine wpList_load_by (o := ⟨some 34, .load 33 (.tmp 33), _, _, _, _⟩) ?e1 33 (.tmp 33) ?e2 ⟨b0, off + k * 19, none⟩ ?e3 _ LX.out ?_); (case e1 => rfl); (case e2 => rfl); (case e3 => rfl)) | ((with_reducible refine wpList_store_newx (o := ⟨none, .store 33 (.tmp 7) (.tmp 34), _, _, _, _⟩) (w := wr) ?e1 (.tmp 7) (.tmp 34) ?e2 wr.heap.size ?e0 ?e3 x ?e4 HZ16.out ?_); (case e1 => rfl); (case e2 => rfl); (case e0 => rfl); (case e3 => rfl); (case e4 => rfl); intro w5 hb5 hx5 hs5; have X5 := Lib.hid hx5; have B5 := Lib.hid (HBB.out.trans (hb5.mono HBB.out.size)); have O5 := Lib.hid (own_below HO.out hb5); have S5 := Lib.hid (HBO.out.below hb5 HBO.out.lt); clear hb5 hx5 hs5))
        clear s9
        generalize hgx : wr.heap.size = gx at *
        go_loopw [5, 8] (fun v j wq => ∃ (q m : Nat), q ≤ 16 ∧ j = .int .i64 q ∧ wq.ownsRow w.heap.size 5 1 v m ((P ++ x.R.z.take q).map (Value.int .u8)) ∧ m ≤ 30000 + q ∧ BoAt wq w.heap.size (.slice b.A len b.c) ∧ XAt wq gx x ∧ Below w.heap.size w wq) (fun _ j _ => 16 - (intOf j).toNat)
        case atStart => exact ⟨0, m, by omega, rfl, by simp only [List.take_zero, List.append_nil]; exact O5.out, by omega, S5.out, X5.out, B5.out⟩
        case round =>
          obtain ⟨q, m1, hq, rfl, ho, hm1, hbo, hxa, hb⟩ := hrel
          by_cases hqt : q < 16
          · have hcz := hxa.rec.cellz hqt
            have tq : (q : Int) < 16 := by omega
            have HNZ : Hid (x.R.z.take (q + 1) = x.R.z.take q ++ [x.R.z.getD q 0]) := Lib.hid (by
              rw [List.take_add_one, List.getD_eq_getElem?_getD, List.getElem?_eq_getElem (by rw [HZ16.out]; exact hqt)]
              rfl)
            generalize x.R.z.getD q 0 = z0 at *
            rw [Nat.zero_add] at hcz
            have O6 := Lib.hid (ho.alloc (.cells #[.int .u8 z0] 5))
            have S6 := Lib.hid (hbo.old (.cells #[.int .u8 z0] 5))
            have X6 := Lib.hid (hxa.old (.cells #[.int .u8 z0] 5))
            have B6 := Lib.hid (hb.alloc hb.size (.cells #[.int .u8 z0] 5))
            have Y6 := Lib.hid (byt_one' wr z0)
            clear ho hbo hxa hb
            go_wp2_with (at_builtin; refine wpList_append_byt _ rfl (.tmp 39) (.tmp 44) 46 rfl w.heap.size 5 i0 Tryz.underlying46 hi hz0 hz1 hz2 _ m1 (P ++ x.R.z.take q) rfl O6.out _ (some ⟨wr.heap.size, 0, none⟩) 1 1 [z0] rfl Y6.out rfl (fun h => by cases h) (by omega) B6.out.size ?_; intro v7 w7 ho7 hg7; have O7 := Lib.hid ho7; have B7 := Lib.hid (B6.out.grown hg7 B6.out.size (fun g hg => own_base O6.out hg)); have S7 := Lib.hid (S6.out.by' hg7 (bo_apart S6.out O6.out)); have X7 := Lib.hid (X6.out.by' hg7 (x_apart X6.out O6.out)); clear ho7 hg7)
            go_roundw
            case rel => exact ⟨q + 1, m1 + 1, by omega, by go_num, by rw [HNZ.out, ← List.append_assoc]; exact O7.out, by omega, S7.out, X7.out, B7.out⟩
            case measure => simp [intOf]; omega
          · obtain rfl : q = 16 := by omega
            have HZT : Hid (x.R.z.take 16 = x.R.z) := Lib.hid (List.take_of_length_le (by rw [HZ16.out]; exact Nat.le_refl _))
            rw [HZT.out] at ho
            have x16 := hxa.c16
            have x17 := hxa.c17
            have O6 := Lib.hid ho
            have S6 := Lib.hid hbo
            have X6 := Lib.hid hxa
            have B6 := Lib.hid hb
            clear ho hbo hxa hb
            go_wp2_with fail
            refine (HPS.out _).mono ?_
            rintro e w7 ⟨A7, n7, k7, rfl, hn7, hnk7, hkm7, hown7, hb7⟩
            have B7 := Lib.hid (B6.out.trans (hb7.mono B6.out.size))
            have O7 := Lib.hid (own_below O6.out hb7)
            have S7 := Lib.hid (S6.out.below hb7 S6.out.lt)
            have X7 := Lib.hid (X6.out.below hb7 X6.out.lt)
            have Y7 := Lib.hid (BsAt.own hown7)
            have HN7 := Lib.hid hn7
            clear hn7 hnk7 hkm7 hown7 hb7 x16 x17
            go_wp2_with (at_builtin; refine wpList_append_byt _ rfl (.tmp 52) (.tmp 53) 46 rfl w.heap.size 5 i0 Tryz.underlying46 hi hz0 hz1 hz2 _ m1 (P ++ x.R.z) rfl O7.out _ A7 n7 k7 E1 rfl Y7.out.1 Y7.out.2.1 Y7.out.2.2 (by have := HN7.out; have := HE1.out; omega) B7.out.size ?_; intro v8 w8 ho8 hg8; have O8 := Lib.hid ho8; have B8 := Lib.hid (B7.out.grown hg8 B7.out.size (fun g hg => own_base O7.out hg)); have S8 := Lib.hid (S7.out.by' hg8 (bo_apart S7.out O7.out)); have X8 := Lib.hid (X7.out.by' hg8 (x_apart X7.out O7.out)); have x18 := X8.out.c18; clear ho8 hg8)
            refine (HPL.out _).mono ?_
            rintro e w9 ⟨A9, n9, k9, rfl, hn9, hnk9, hkm9, hown9, hb9⟩
            have B9 := Lib.hid (B8.out.trans (hb9.mono B8.out.size))
            have O9 := Lib.hid (own_below O8.out hb9)
            have S9 := Lib.hid (S8.out.below hb9 S8.out.lt)
            have X9 := Lib.hid (X8.out.below hb9 X8.out.lt)
            have Y9 := Lib.hid (BsAt.own hown9)
            have HN9 := Lib.hid hn9
            clear hn9 hnk9 hkm9 hown9 hb9 x18
            go_wp2_with (at_builtin; refine wpList_append_byt _ rfl (.tmp 55) (.tmp 60) 46 rfl w.heap.size 5 i0 Tryz.underlying46 hi hz0 hz1 hz2 _ (m1 + n7) ((P ++ x.R.z) ++ E1) rfl O9.out _ A9 n9 k9 E2 rfl Y9.out.1 Y9.out.2.1 Y9.out.2.2 (by have := HN7.out; have := HE1.out; have := HN9.out; have := HE2.out; omega) B9.out.size ?_; intro v10 w10 ho10 hg10; have O10 := Lib.hid ho10; have B10 := Lib.hid (B9.out.grown hg10 B9.out.size (fun g hg => own_base O9.out hg)); have S10 := Lib.hid (S9.out.by' hg10 (bo_apart S9.out O9.out)); have X10 := Lib.hid (X9.out.by' hg10 (x_apart X9.out O9.out)); clear ho10 hg10)
            have HM2 : Hid (m1 + n7 + n9 ≤ 31000) := Lib.hid (by have := HN7.out; have := HE1.out; have := HN9.out; have := HE2.out; omega)
            have HEND : Hid (P ++ renc x.R = (((P ++ x.R.z) ++ E1) ++ E2) ++ x.R.fs.flatMap fenc) := Lib.hid (by rw [HRE.out]; simp)
            generalize (((P ++ x.R.z) ++ E1) ++ E2) = Q at *
            generalize m1 + n7 + n9 = m2 at *
            clear HN7 HN9 HE1 HE2 HPL HPS HRE
            have HF := Lib.hid HXV.out.2
            generalize hfs : x.R.fs = fs at *
            generalize hfl : fs.length = fl at *
            have HFLN := Lib.hid hfl
            have HFSQ := Lib.hid hfs
            clear hfs hfl
            go_loopw [5, 11] (fun v j wq => ∃ (q m : Nat), q ≤ fl ∧ j = .int .i64 q ∧ wq.ownsRow w.heap.size 5 1 v m ((Q ++ (fs.take q).flatMap fenc).map (Value.int .u8)) ∧ m ≤ 31000 + q * 221 ∧ BoAt wq w.heap.size (.slice b.A len b.c) ∧ XAt wq gx x ∧ Below w.heap.size w wq) (fun _ j _ => fl - (intOf j).toNat)
            case atStart => exact ⟨0, m2, by omega, rfl, by simp only [List.take_zero, List.flatMap_nil, List.append_nil]; exact O10.out, by have := HM2.out; omega, S10.out, X10.out, B10.out⟩
            case round =>
              obtain ⟨q, m3, hq, rfl, ho, hm3, hbo, hxa, hb⟩ := hrel
              have x18 := hxa.c18
              rw [HFSQ.out, HFLN.out] at x18
              by_cases hqt : q < fl
              · obtain ⟨_, hxm, _, h4⟩ := HF.out.below hb (Nat.le_refl _)
                obtain ⟨b1, off1, hA1, hb1, hc1⟩ := h4 (by rw [HFLN.out]; omega)
                have HA1 := Lib.hid hA1
                clear hA1
                obtain ⟨c0, c1, c2, c3⟩ := hc1 q (by rw [HFLN.out]; exact hqt)
                have hix1 := ix_fld b1 off1 fl x.c q hqt q rfl
                have hcv := HMM.out (fs.getD q fld0) (by rw [List.getD_eq_getElem?_getD, List.getElem?_eq_getElem (by rw [HFLN.out]; exact hqt)]; exact List.getElem_mem _)
                have HNF : Hid (Q ++ (fs.take (q + 1)).flatMap fenc = (Q ++ (fs.take q).flatMap fenc) ++ [(fs.getD q fld0).no] ++ cenc (fs.getD q fld0).c) := Lib.hid (by
                  rw [List.take_add_one, List.flatMap_append, List.getElem?_eq_getElem (by rw [HFLN.out]; exact hqt), List.getD_eq_getElem?_getD, List.getElem?_eq_getElem (by rw [HFLN.out]; exact hqt)]
                  simp [fenc])
                generalize fs.getD q fld0 = f at *
                generalize Q ++ (fs.take q).flatMap fenc = Q1 at *
                have hcw : IntKind.u8.wrap f.no = f.no := IntWalk.u8_in _ (by omega)
                have HC := rcput_yes f.c wr hcv.2.2
                unfold GivesT Cel.v at HC
                have HC := Lib.hid HC
                have HLC := Lib.hid (cenc_len f.c (by have := (cmay_iff.1 hcv.2.2).2.2; omega)).1
                have c1' : wr.cell? ⟨b1, off1 + q * 4 + 1, none⟩ = some (.int .i64 f.c.n) := c1
                have c2' : wr.cell? ⟨b1, off1 + q * 4 + 1 + 1, none⟩ = some (.int .i64 f.c.r) := c2
                have c3' : wr.cell? ⟨b1, off1 + q * 4 + 1 + 2, none⟩ = some (.string f.c.s) := c3
                rw [HA1.out] at x18
                have HCZ := Lib.hid (fun (X : World) (hX : Below wr.heap.size wr X) => (hX.cell (p := ⟨b1, off1 + q * 4, none⟩) hb1).trans c0)
                have O6 := Lib.hid ho
                have S6 := Lib.hid hbo
                have X6 := Lib.hid hxa
                have B6 := Lib.hid hb
                clear ho hbo hxa hb h4 hc1 hcv hxm
                go_wp2_with fail
                refine HC.out.mono ?_
                rintro e w7 ⟨A7, n7, k7, rfl, hn7, hnk7, hkm7, hown7, hb7⟩
                have d0 := HCZ.out _ hb7
                have B7 := Lib.hid (B6.out.trans (hb7.mono B6.out.size))
                have O7 := Lib.hid ((own_below O6.out hb7).alloc (.cells #[.int .u8 f.no] 5))
                have B8 := Lib.hid (B7.out.alloc B7.out.size (.cells #[.int .u8 f.no] 5))
                have S8 := Lib.hid ((S6.out.below hb7 S6.out.lt).old (.cells #[.int .u8 f.no] 5))
                have x7 := X6.out.below hb7 X6.out.lt
                have X8 := Lib.hid (x7.old (.cells #[.int .u8 f.no] 5))
                have y18 := x7.c18
                rw [HFSQ.out, HFLN.out, HA1.out] at y18
                have R7 := Lib.hid (hown7.alloc (.cells #[.int .u8 f.no] 5))
                have HNE := Lib.hid (own_apart O6.out hown7)
                have Y8 := Lib.hid (byt_one' w7 f.no)
                have HN7 := Lib.hid hn7
                clear hn7 hnk7 hkm7 hown7 hb7 c0 c1 c2 c3 c1' c2' c3' x18 x7
                go_wp2_with (first | (at_builtin; refine wpList_append_byt _ rfl (.tmp 79) (.tmp 87) 46 rfl w.heap.size 5 i0 Tryz.underlying46 hi hz0 hz1 hz2 _ m3 Q1 rfl O7.out _ (some ⟨w7.heap.size, 0, none⟩) 1 1 [f.no] rfl Y8.out rfl (fun h => by cases h) (by omega) B8.out.size ?_; intro v8 w8 ho8 hg8; have O8 := Lib.hid ho8; have B9 := Lib.hid (B8.out.grown hg8 B8.out.size (fun g hg => own_base O7.out hg)); have Y9 := Lib.hid (BsAt.own (R7.out.kept hg8 HNE.out)); have S9 := Lib.hid (S8.out.by' hg8 (bo_apart S8.out O7.out)); have X9 := Lib.hid (X8.out.by' hg8 (x_apart X8.out O7.out)); clear ho8 hg8) | (at_builtin; refine wpList_append_byt _ rfl (.tmp 89) (.tmp 90) 46 rfl w.heap.size 5 i0 Tryz.underlying46 hi hz0 hz1 hz2 _ (m3 + 1) (Q1 ++ [f.no]) rfl O8.out _ A7 n7 k7 (cenc f.c) rfl Y9.out.1 Y9.out.2.1 Y9.out.2.2 (by have := HN7.out; have := HLC.out; omega) B9.out.size ?_; intro v9 w9 ho9 hg9; have O9 := Lib.hid ho9; have B10 := Lib.hid (B9.out.grown hg9 B9.out.size (fun g hg => own_base O8.out hg)); have S10 := Lib.hid (S9.out.by' hg9 (bo_apart S9.out O8.out)); have X10 := Lib.hid (X9.out.by' hg9 (x_apart X9.out O8.out)); clear ho9 hg9))
                go_roundw
                case rel => exact ⟨q + 1, m3 + 1 + n7, by omega, by go_num, by rw [HNF.out]; exact O9.out, by have := HN7.out; have := HLC.out; omega, S10.out, X10.out, B10.out⟩
                case measure => simp [intOf]; omega
              · obtain rfl : q = fl := by omega
                have t1 : ¬ (q : Int) < (q : Int) := by omega
                have HTK : Hid (fs.take q = fs) := Lib.hid (List.take_of_length_le (by rw [HFLN.out]; exact Nat.le_refl _))
                rw [HTK.out, ← HEND.out] at ho
                have O6 := Lib.hid ho
                have S6 := Lib.hid hbo
                have B6 := Lib.hid hb
                clear ho hbo hxa hb
                go_wp2
                go_roundw
                case rel => exact ⟨k + 1, m3, by omega, by go_num, by rw [HNX.out]; exact O6.out, S6.out, B6.out⟩
                case measure => simp [intOf]; omega
      · have hkn : k = len := by omega
        subst hkn
        have t1 : ¬ (k : Int) < (k : Int) := by omega
        have HO := Lib.hid ho
        have HBB := Lib.hid hb
        have s9 := hbo.c0
        clear ho hb hbo
        go_wp2
        go_ret2
        refine HV.out _ _ ?_
        rw [HEQ.out, ← List.take_length (l := b.rs), HBL.out]
        exact givesT_own HO.out HBB.out
end Go.Proofs.YtcmknbdeafcknaaGreatDoor

end
section
/-
  What the document's own record (a record that bytes begin by) answers. Nothing that was there is written.
-/
namespace Go.Proofs.YtcmknbdeafcknaaGreatDoor
open Go.RowKit WM
set_option linter.unusedVariables false
set_option maxRecDepth 20000
/-! ### a record's block, part by part -/
theorem rcells_setz {z : List Int} (n r : Int) (v : Value) {j : Nat} (hz : z.length = 16) (hj : j < 16) (a : Int) : (rcells z n r v).setIfInBounds j (.int .u8 a) = rcells (z.set j a) n r v := by
  unfold rcells
  rw [List.setIfInBounds_toArray]
  congr 1
  rw [List.set_append_left _ _ (by simp [hz]; exact hj), ← List.map_set]
theorem RcAt.setz {w : World} {b : Nat} {z : List Int} {n r : Int} {v : Value} (h : RcAt w b z n r v) {j : Nat} (hj : j < 16) (a : Int) : RcAt (w.setCell ⟨b, j, none⟩ (.int .u8 a)) b (z.set j a) n r v :=
  ⟨by rw [List.length_set]; exact h.1, by rw [heap_setCell_same _ _ _ _ _ _ h.2, rcells_setz n r v h.1 hj]⟩
theorem RcAt.setd {w : World} {b : Nat} {z : List Int} {n r : Int} {v : Value} (h : RcAt w b z n r v) (m s : Int) : RcAt ((w.setCell ⟨b, 16, none⟩ (.int .i64 m)).setCell ⟨b, 17, none⟩ (.int .i64 s)) b z m s v := by
  refine ⟨h.1, ?_⟩
  rw [heap_setCell_same _ _ _ _ _ _ (heap_setCell_same _ _ _ _ _ _ h.2)]
  congr 2
  unfold rcells
  rw [List.setIfInBounds_toArray, List.setIfInBounds_toArray]
  congr 1
  rw [List.set_append_right _ _ (by simp [h.1]), List.set_append_right _ _ (by simp [h.1])]
  simp [h.1]
theorem RcAt.cz {w : World} {b : Nat} {z : List Int} {n r : Int} {v : Value} (h : RcAt w b z n r v) {j : Nat} (hj : j < 16) : w.cell? ⟨b, j, none⟩ = some (.int .u8 (z.getD j 0)) := by
  rw [cell_of_row _ _ _ _ _ _ h.2, rcells, List.getElem?_toArray, List.getElem?_append_left (by simp [h.1]; omega)]
  simp [List.getD, List.getElem?_eq_getElem (show j < z.length by rw [h.1]; exact hj)]
/-- The first j of sixteen bytes. -/
def zmix (zs : List Int) (j : Nat) : List Int := zs.take j ++ z16.drop j
theorem zmix_len {zs : List Int} {j : Nat} (h : 16 ≤ zs.length) (hj : j ≤ 16) : (zmix zs j).length = 16 := by
  unfold zmix
  rw [List.length_append, List.length_take, List.length_drop, z16_len]
  omega
theorem zmix_set {zs : List Int} {j : Nat} (h : 16 ≤ zs.length) (hj : j < 16) : (zmix zs j).set j (zs.getD j 0) = zmix zs (j + 1) := by
  unfold zmix
  rw [List.set_append_right _ _ (by rw [List.length_take]; omega), List.length_take, show j - min j zs.length = 0 by omega]
  rw [List.drop_eq_getElem_cons (by rw [z16_len]; exact hj), List.set_cons_zero, List.take_add_one (l := zs), List.getD_eq_getElem?_getD, List.getElem?_eq_getElem (show j < zs.length by omega), List.append_assoc]
  rfl
theorem zmix_all {zs : List Int} : zmix zs 16 = zs.take 16 := by
  unfold zmix
  rw [List.drop_of_length_le (by rw [z16_len]; exact Nat.le_refl _), List.append_nil]
/-- What is told: a record, how many bytes, whether. -/
def RRecPost (w : World) (zs : List Int) (r : Option (Rc × List Int)) (e : Ending) (w' : World) : Prop :=
  match r with
  | some (R, ys) => ∃ (x : RcA) (k : Nat), e = .returned (.tuple #[.agg x.cells, .int .i64 k, .bool true]) ∧ x.R = R ∧ RvAt w' x ∧ FTag w' x.A ∧ k ≤ zs.length ∧ ys = zs.drop k ∧ Below w.heap.size w w'
  | none => ∃ x : RcA, e = .returned (.tuple #[.agg x.cells, .int .i64 0, .bool false]) ∧ x.R.z.length = 16 ∧ Below w.heap.size w w'
theorem res_rc3 {fn : Func} {p q s : Tmp} (h : fn.results = #[.cell p 33, .tmp q, .tmp s]) {tmps : Array Value} {w : World} {b : Nat} {x : RcA} (hp : tmps.getD p undef = .pointer (some ⟨b, 0, none⟩)) (hs : XAt w b x) :
    (results fn tmps).run Tryz.prog w = .ok (.tuple #[.agg x.cells, tmps.getD q undef, tmps.getD s undef]) w := by
  have hp' : tmps[p]?.getD undef = .pointer (some ⟨b, 0, none⟩) := by simpa using hp
  simp [results, h, hp', asAddr, hs.load]
/-- A way out with nothing: what was read so far is told, and false. -/
theorem wpList_store_oldx' {w : World} {ops : Array Oper} {rest : List Oper} {o : Oper} {a : Act} {Q : Exit → Act → World → Prop} (hgd : o.guard = none) (p q : Operand) (hop : o.op = .store 33 p q)
    (b : Nat) (y : RcA) (hb : XAt w b y) (hx : a.eval p = .pointer (some ⟨b, 0, none⟩)) (x : RcA) (hy : a.eval q = .agg x.cells) (hz : x.R.z.length = 16)
    (hK : ∀ w', w.grownBy w' (some b) → XAt w' b x → wpList Tryz.prog ops Q rest (a.put o.dst undef) w') : wpList Tryz.prog ops Q (o :: rest) a w := wpList_store_oldx hgd p q hop b y hb hx x hy hz hK
/-! ### the walk -/
theorem XAt.setg {w : World} {b g j : Nat} {x : RcA} {v : Value} (h : XAt w b x) (hne : b ≠ g) : XAt (w.setCell ⟨g, j, none⟩ v) b x := h.same (Below.heap_setCell _ _ _ _ hne)
theorem XAt.by2 {w w' : World} {p : Nat} {x : RcA} {row : Option Nat} (h : XAt w p x) (hg : w.grownBy w' row) (hr : some p ≠ row) : XAt w' p x := h.same (hg.block _ h.lt hr)
set_option maxHeartbeats 16000000 in
theorem rrecord_any (A : Option Addr) (len cap : Nat) (zs : List Int) (w : World) (h : Byt w w.heap.size A zs) (hl : zs.length = len) (hb : AllBytes zs) (hlc : len ≤ cap) (hm : cap ≤ maxLen) :
    Calls Tryz.prog 67 #[.slice A len cap] w (RRecPost w zs (prc zs)) := by
  have HBY := Lib.hid h
  have HAL := Lib.hid hb
  have HL := Lib.hid hl
  simp only [maxLen] at hm
  have X1 := Lib.hid (XAt.new (x := rcA0) w z16_len)
  have HB1 := Lib.hid ((Below.refl w.heap.size w).alloc (Nat.le_refl _) (.cells rcA0.cells 33))
  have hz := zeroX
  have hb0 := build0
  have Z0 : Hid (rcA0.R.z.length = 16) := Lib.hid z16_len
  obtain ⟨i0, hi, hz0, hz1, hz2⟩ := info_parts infoFld
  clear h hl hb
  by_cases h16 : 16 ≤ len
  · have t16 : ¬ (len : Int) < 16 := by omega
    have HP : Hid (prc zs = (pst (zs.drop 16)).bind fun s => (lst pfl 8 s.2).map fun f => (⟨zs.take 16, s.1.1, s.1.2, f.1⟩, f.2)) := Lib.hid (by unfold prc; rw [if_pos (by rw [HL.out]; exact h16)])
    go_enter Tryz.func67, Tryz.ntmps67
    go_wp2_with (first | ((with_reducible refine wpList_store_newx (o := ⟨none, .store 33 (.tmp 5) (.tmp 19), _, _, _, _⟩) (w := (w.alloc (.cells rcA0.cells 33))) ?e1 (.tmp 5) (.tmp 19) ?e2 (w.heap.size + 1) ?e0 ?e3 rcA0 ?e4 Z0.out ?_); (case e1 => rfl); (case e2 => rfl); (case e0 => simp); (case e3 => rfl); (case e4 => rfl); intro w5 hb5 hx5 hs5; have X5 := Lib.hid hx5; have B5 := Lib.hid (HB1.out.trans (hb5.mono HB1.out.size)); have X2 := Lib.hid (X1.out.below hb5 X1.out.lt); clear hb5 hx5 hs5))
    go_loopw [6] (fun i wq => ∃ j : Nat, j ≤ 16 ∧ i = .int .i64 j ∧ XAt wq w.heap.size rcA0 ∧ RcAt wq (w.heap.size + 1) (zmix zs j) 0 0 (.slice none 0 0) ∧ Below w.heap.size w wq) (fun i _ => 16 - (intOf i).toNat)
    case atStart => exact ⟨0, by omega, rfl, X2.out, (show RcAt w5 (w.heap.size + 1) z16 0 0 (.slice none 0 0) from X5.out.rc), B5.out⟩
    case round =>
      obtain ⟨j, hj, rfl, hx2, hx5, hb⟩ := hrel
      clear X5 B5 X2
      by_cases hjt : j < 16
      · obtain ⟨b0, off, hA, hb0, hc⟩ := (HBY.out.below hb) (fun e => by have := HL.out; rw [e] at this; simp at this; omega)
        have c0 := hc j (by rw [HL.out]; omega)
        have hix := ix_at b0 off len cap j (by omega) j rfl
        have tj : (j : Int) < 16 := by omega
        have d0 := hx5.cz hjt
        have f0 := hx5.fz j
        have HST := hx5.setz hjt (zs.getD j 0)
        rw [zmix_set (by rw [HL.out]; exact h16) hjt] at HST
        have HST := Lib.hid HST
        have HX2 := Lib.hid (hx2.setg (g := w.heap.size + 1) (j := j) (v := .int .u8 (zs.getD j 0)) (by omega))
        have HBS := Lib.hid (hb.setCell (p := ⟨w.heap.size + 1, j, none⟩) (Nat.le_succ _) (.int .u8 (zs.getD j 0)))
        rw [hA]
        clear hx2 hx5 hb hc
        go_wp2
        go_roundw
        case rel => exact ⟨j + 1, by omega, by go_num, HX2.out, HST.out, HBS.out⟩
        case measure => simp [intOf]; omega
      · obtain rfl : j = 16 := by omega
        rw [zmix_all] at hx5
        have HT := Lib.hid (show (zs.take 16).length = 16 by rw [List.length_take, HL.out]; omega)
        have HTA := Lib.hid (all_take HAL.out 16)
        generalize zs.take 16 = z at *
        have hsl := sl_l A len cap 16 h16 16 rfl
        have hD := (HBY.out.below hb).drop (k := 16) (cap := cap) (by rw [HL.out]; exact hlc)
        generalize (if cap = 16 then A else A.map (·.add 16)) = A1 at hsl hD
        have hdl : (zs.drop 16).length = len - 16 := by rw [List.length_drop, HL.out]
        have HG := rstGet_any A1 (len - 16) (cap - 16) (zs.drop 16) wr hD hb.size hdl (all_drop HAL.out 16) (by omega) (by simp only [maxLen]; omega)
        have HX2 := Lib.hid hx2
        have HX5 := Lib.hid hx5
        have HBB := Lib.hid hb
        clear hx2 hx5 hb hD
        cases hd : stGet (zs.drop 16) with
        | none =>
          have HV := Lib.hid (show prc zs = none by rw [HP.out]; unfold pst; rw [hd]; rfl)
          rw [hd] at HG
          unfold stGetV st at HG
          have HG := Lib.hid HG
          clear hd hdl
          go_wp2_with fail
          refine HG.out.mono ?_
          rintro e w7 ⟨rfl, hb7⟩
          have hb8 := hb7.trans ((Below.refl w7.heap.size w7).alloc (Nat.le_refl _) (.cells #[.int .i64 0, .int .i64 0] 30) |>.mono hb7.size)
          have Y2 := Lib.hid (HX2.out.below hb8 HX2.out.lt)
          have Y5 : Hid (XAt (w7.alloc (.cells #[.int .i64 0, .int .i64 0] 30)) (w.heap.size + 1) ⟨⟨z, 0, 0, []⟩, none, 0⟩) := Lib.hid (HX5.out.below hb8 HX5.out.lt)
          have YB := Lib.hid (HBB.out.trans (hb8.mono HBB.out.size))
          clear hb7 hb8
          have LX := Lib.hid Y5.out.load
          have ZZ : Hid ((RcA.R ⟨⟨z, 0, 0, []⟩, none, 0⟩).z.length = 16) := Lib.hid HT.out
          go_wp2_with (first | ((with_reducible refine wpList_load_by (o := ⟨some 45, .load 33 (.tmp 5), _, _, _, _⟩) ?e1 33 (.tmp 5) ?e2 ⟨w.heap.size + 1, 0, none⟩ ?e3 _ LX.out ?_); (case e1 => rfl); (case e2 => rfl); (case e3 => rfl)) | ((with_reducible refine wpList_store_oldx (o := ⟨none, .store 33 (.tmp 2) (.tmp 45), _, _, _, _⟩) ?e1 (.tmp 2) (.tmp 45) ?e2 w.heap.size _ Y2.out ?e3 ⟨⟨z, 0, 0, []⟩, none, 0⟩ ?e4 ZZ.out ?_); (case e1 => rfl); (case e2 => rfl); (case e3 => rfl); (case e4 => rfl); intro w99 hg99 hx99; have G99 := Lib.hid hg99; have X99 := Lib.hid hx99; clear hg99 hx99))
          refine bodyPost_ret (v := .tuple #[.agg (RcA.cells ⟨⟨z, 0, 0, []⟩, none, 0⟩), .int .i64 0, .bool false]) ?_ rfl ?_
          · exact res_rc3 Tryz.results67 rfl X99.out
          · rw [HV.out]
            exact ⟨⟨⟨z, 0, 0, []⟩, none, 0⟩, rfl, HT.out, YB.out.grown G99.out YB.out.size (fun k e => by have := Option.some.inj e; omega)⟩
        | some p =>
          obtain ⟨n, r, k1⟩ := p
          obtain ⟨m1, m2, m3⟩ := stGet_some (all_drop HAL.out 16) hd
          rw [hdl] at m2
          have HP1 : Hid (prc zs = (lst pfl 8 (zs.drop (16 + k1))).map fun f => (⟨z, n, r, f.1⟩, f.2)) := Lib.hid (by rw [HP.out]; unfold pst; rw [hd, Option.bind_some]; dsimp only; rw [List.drop_drop])
          rw [hd] at HG
          unfold stGetV st at HG
          have HG := Lib.hid HG
          clear hd hdl m1 m3
          go_wp2_with fail
          refine HG.out.mono ?_
          rintro e w7 ⟨rfl, hb7⟩
          have hb8 := hb7.trans ((Below.refl w7.heap.size w7).alloc (Nat.le_refl _) (.cells #[.int .i64 n, .int .i64 r] 30) |>.mono hb7.size)
          have y2 := HX2.out.below hb8 HX2.out.lt
          have y5 := HX5.out.below hb8 HX5.out.lt
          have yb := HBB.out.trans (hb8.mono HBB.out.size)
          have ns := StAt.new w7 n r
          have a0 := ns.c0
          have a1 := ns.c1
          have x16 := y5.c16
          have x17 := y5.c17
          have f16 := y5.fz 16
          have f17 := y5.fz 17
          have Y2 := Lib.hid ((y2.setg (g := w.heap.size + 1) (j := 16) (v := .int .i64 n) (by omega)).setg (g := w.heap.size + 1) (j := 17) (v := .int .i64 r) (by omega))
          have Y5 := Lib.hid (y5.setd n r)
          have YB := Lib.hid ((yb.setCell (p := ⟨w.heap.size + 1, 16, none⟩) (Nat.le_succ _) (.int .i64 n)).setCell (p := ⟨w.heap.size + 1, 17, none⟩) (Nat.le_succ _) (.int .i64 r))
          have hsl2 := sl_l A len cap (16 + k1) (by omega) ((16 : Int) + (k1 : Int)) (by omega)
          have hD2 := (HBY.out.below YB.out).drop (k := 16 + k1) (cap := cap) (by rw [HL.out]; exact hlc)
          generalize (if cap = 16 + k1 then A else A.map (·.add (16 + k1))) = A3 at hsl2 hD2
          have hdl2 : (zs.drop (16 + k1)).length = len - (16 + k1) := by rw [List.length_drop, HL.out]
          have hwk : IntKind.i64.wrap ((16 : Int) + (k1 : Int)) = (16 : Int) + (k1 : Int) := IntWalk.i64_in _ (by omega)
          have HG2 := rget_any A3 (len - (16 + k1)) (cap - (16 + k1)) (zs.drop (16 + k1)) _ hD2 hdl2 (all_drop HAL.out _) (by omega) (by simp only [maxLen]; omega) YB.out.size
          have HDS := Lib.hid (fun n k => dec_some (n := n) (k := k) (all_drop HAL.out (16 + k1)))
          rw [hdl2] at HDS
          clear hb7 hb8 y2 y5 yb ns hD2 hdl2
          cases hdc : dec (zs.drop (16 + k1)) with
          | none =>
            have HV := Lib.hid (show prc zs = none by rw [HP1.out]; unfold lst cnt; rw [hdc]; rfl)
            rw [hdc] at HG2
            unfold getV at HG2
            have HG2 := Lib.hid HG2
            clear hdc
            go_wp2_with fail
            refine HG2.out.mono ?_
            rintro e w9 ⟨rfl, hb9⟩
            have Z2 := Lib.hid (Y2.out.below hb9 Y2.out.lt)
            have Z5 : Hid (XAt w9 (w.heap.size + 1) ⟨⟨z, n, r, []⟩, none, 0⟩) := Lib.hid (Y5.out.below hb9 Y5.out.lt)
            have ZB := Lib.hid (YB.out.trans (hb9.mono YB.out.size))
            clear hb9 a0 a1 x16 x17 f16 f17
            have LX := Lib.hid Z5.out.load
            have ZZ : Hid ((RcA.R ⟨⟨z, n, r, []⟩, none, 0⟩).z.length = 16) := Lib.hid HT.out
            go_wp2_with (first | ((with_reducible refine wpList_load_by (o := ⟨some 65, .load 33 (.tmp 5), _, _, _, _⟩) ?e1 33 (.tmp 5) ?e2 ⟨w.heap.size + 1, 0, none⟩ ?e3 _ LX.out ?_); (case e1 => rfl); (case e2 => rfl); (case e3 => rfl)) | ((with_reducible refine wpList_store_oldx (o := ⟨none, .store 33 (.tmp 2) (.tmp 65), _, _, _, _⟩) ?e1 (.tmp 2) (.tmp 65) ?e2 w.heap.size _ Z2.out ?e3 ⟨⟨z, n, r, []⟩, none, 0⟩ ?e4 ZZ.out ?_); (case e1 => rfl); (case e2 => rfl); (case e3 => rfl); (case e4 => rfl); intro w99 hg99 hx99; have G99 := Lib.hid hg99; have X99 := Lib.hid hx99; clear hg99 hx99))
            refine bodyPost_ret (v := .tuple #[.agg (RcA.cells ⟨⟨z, n, r, []⟩, none, 0⟩), .int .i64 0, .bool false]) ?_ rfl ?_
            · exact res_rc3 Tryz.results67 rfl X99.out
            · rw [HV.out]
              exact ⟨⟨⟨z, n, r, []⟩, none, 0⟩, rfl, HT.out, ZB.out.grown G99.out ZB.out.size (fun k e => by have := Option.some.inj e; omega)⟩
          | some p =>
            obtain ⟨m, k2⟩ := p
            obtain ⟨e1, e2, e3, e4, e5⟩ := HDS.out m k2 hdc
            rw [hdc] at HG2
            unfold getV at HG2
            have HG2 := Lib.hid HG2
            by_cases hm8 : m ≤ 8
            · obtain ⟨mm, rfl⟩ : ∃ mm : Nat, m = mm := ⟨m.toNat, by omega⟩
              have HP2 : Hid (prc zs = (many pfl mm (zs.drop (16 + k1 + k2))).map fun f => (⟨z, n, r, f.1⟩, f.2)) := Lib.hid (by
                rw [HP1.out]
                unfold lst cnt
                rw [hdc]
                dsimp only
                rw [if_pos hm8, Option.bind_some, Int.toNat_natCast, List.drop_drop])
              have t8 : ¬ (8 : Int) < (mm : Int) := by omega
              have hwm : IntKind.i64.wrap (mm : Int) = (mm : Int) := IntWalk.i64_in _ (by omega)
              have hwk2 : IntKind.i64.wrap ((16 : Int) + (k1 : Int) + (k2 : Int)) = (16 : Int) + (k1 : Int) + (k2 : Int) := IntWalk.i64_in _ (by omega)
              clear hdc
              go_wp2_with fail
              refine HG2.out.mono ?_
              rintro e w9 ⟨rfl, hb9⟩
              have Z2 := Lib.hid (Y2.out.below hb9 Y2.out.lt)
              have Z5 := Lib.hid (Y5.out.below hb9 Y5.out.lt)
              have ZB := Lib.hid (YB.out.trans (hb9.mono YB.out.size))
              clear hb9 a0 a1 x16 x17 f16 f17
              go_wp2
              go_loopw [7, 14] (fun a i wq => ∃ (q p : Nat) (fs : List Fld) (v : Value), q ≤ mm ∧ i = .int .i64 q ∧ p ≤ len ∧ a = .int .i64 p ∧ fs.length = q ∧ XAt wq w.heap.size rcA0 ∧ RcAt wq (w.heap.size + 1) z n r v ∧ wq.ownsRow w.heap.size 59 4 v q (fs.flatMap Fld.cs) ∧ Below w.heap.size w wq ∧ many pfl mm (zs.drop (16 + k1 + k2)) = (many pfl (mm - q) (zs.drop p)).map (fun x => (fs ++ x.1, x.2))) (fun _ i _ => mm - (intOf i).toNat)
              case atStart => exact ⟨0, 16 + k1 + k2, [], .slice none 0 0, Nat.zero_le _, rfl, by omega, by go_num, rfl, Z2.out, Z5.out, World.ownsRow_nil _ _ _ _, ZB.out, by simp⟩
              case round =>
                obtain ⟨q, p, fs, v, hq, rfl, hp, rfl, hfl, hx2, hx5, ho, hb, hmn⟩ := hrel
                obtain ⟨Av, cv, rfl⟩ := own_slice ho
                have HX2 := Lib.hid hx2
                have HX5 := Lib.hid hx5
                have HO := Lib.hid ho
                have HBB := Lib.hid hb
                have HFL := Lib.hid hfl
                have hxo : XAt wr (w.heap.size + 1) ⟨⟨z, n, r, fs⟩, Av, cv⟩ := by rw [← hfl] at hx5; exact hx5
                have HXO := Lib.hid hxo
                clear Z2 Z5 ZB hx2 hxo
                by_cases hqt : q < mm
                · obtain ⟨m', hm'⟩ : ∃ m', mm - q = m' + 1 := ⟨mm - q - 1, by omega⟩
                  rw [hm'] at hmn
                  by_cases hpl : p < len
                  · have tp : ¬ (len : Int) ≤ (p : Int) := by omega
                    have hzp : zs.drop p = zs.getD p 0 :: zs.drop (p + 1) := drop_at (by rw [HL.out]; exact hpl)
                    rw [hzp] at hmn
                    obtain ⟨b0, off, hA, hb0, hc⟩ := (HBY.out.below hb) (fun e => by have := HL.out; rw [e] at this; simp at this; omega)
                    have c0 := hc p (by rw [HL.out]; exact hpl)
                    have hix := ix_at b0 off len cap p hpl p rfl
                    have hzb := all_get HAL.out p
                    have hcv : IntKind.i64.wrap (zs.getD p 0) = zs.getD p 0 := IntWalk.i64_in _ (by omega)
                    have hsl3 := sl_l A len cap (p + 1) (by omega) ((p : Int) + 1) (by omega)
                    have hD3 := (HBY.out.below hb).drop (k := p + 1) (cap := cap) (by rw [HL.out]; exact hlc)
                    rw [hA] at hsl3 hD3
                    generalize (if cap = p + 1 then (some ⟨b0, off, none⟩ : Option Addr) else Option.map (fun x : Addr => x.add (p + 1)) (some ⟨b0, off, none⟩ : Option Addr)) = A4 at hsl3 hD3
                    have hdl3 : (zs.drop (p + 1)).length = len - (p + 1) := by rw [List.length_drop, HL.out]
                    have hwp : IntKind.i64.wrap ((p : Int) + 1) = (p : Int) + 1 := IntWalk.i64_in _ (by omega)
                    have HG3 := rcget_any A4 (len - (p + 1)) (cap - (p + 1)) (zs.drop (p + 1)) wr hD3 hb.size hdl3 (all_drop HAL.out _) (by omega) (by simp only [maxLen]; omega)
                    generalize zs.getD p 0 = no at *
                    rw [hA]
                    cases hcg : cget (zs.drop (p + 1)) with
                    | none =>
                      have HV := Lib.hid (show prc zs = none by rw [HP2.out, hmn, many_none (show pfl (no :: zs.drop (p + 1)) = none by unfold pfl pcl; simp only [hcg])]; rfl)
                      rw [hcg] at HG3
                      unfold cgetV cel0 Cel.v at HG3
                      dsimp only at HG3
                      have HG3 := Lib.hid HG3
                      clear hx5 ho hb hmn hcg hD3 hdl3 hc hzp
                      go_wp2_with fail
                      refine HG3.out.mono ?_
                      rintro e w11 ⟨rfl, hb11⟩
                      have hb12 := hb11.trans ((Below.refl w11.heap.size w11).alloc (Nat.le_refl _) (.cells #[.int .i64 0, .int .i64 0, .string ⟨#[]⟩] 57) |>.mono hb11.size)
                      have V2 := Lib.hid (HX2.out.below hb12 HX2.out.lt)
                      have V5 := Lib.hid (HXO.out.below hb12 HXO.out.lt)
                      have VB := Lib.hid (HBB.out.trans (hb12.mono HBB.out.size))
                      clear hb11 hb12 c0
                      have LX := Lib.hid V5.out.load
                      have ZZ : Hid ((RcA.R ⟨⟨z, n, r, fs⟩, Av, cv⟩).z.length = 16) := Lib.hid HT.out
                      go_wp2_with (first | ((with_reducible refine wpList_load_by (o := ⟨some 96, .load 33 (.tmp 5), _, _, _, _⟩) ?e1 33 (.tmp 5) ?e2 ⟨w.heap.size + 1, 0, none⟩ ?e3 _ LX.out ?_); (case e1 => rfl); (case e2 => rfl); (case e3 => rfl)) | ((with_reducible refine wpList_store_oldx (o := ⟨none, .store 33 (.tmp 2) (.tmp 96), _, _, _, _⟩) ?e1 (.tmp 2) (.tmp 96) ?e2 w.heap.size _ V2.out ?e3 ⟨⟨z, n, r, fs⟩, Av, cv⟩ ?e4 ZZ.out ?_); (case e1 => rfl); (case e2 => rfl); (case e3 => rfl); (case e4 => rfl); intro w99 hg99 hx99; have G99 := Lib.hid hg99; have X99 := Lib.hid hx99; clear hg99 hx99))
                      refine bodyPost_ret (v := .tuple #[.agg (RcA.cells ⟨⟨z, n, r, fs⟩, Av, cv⟩), .int .i64 0, .bool false]) ?_ rfl ?_
                      · exact res_rc3 Tryz.results67 rfl X99.out
                      · rw [HV.out]
                        exact ⟨⟨⟨z, n, r, fs⟩, Av, cv⟩, rfl, HT.out, VB.out.grown G99.out VB.out.size (fun k e => by have := Option.some.inj e; omega)⟩
                    | some pp =>
                      obtain ⟨⟨cn, cr, cs⟩, k5⟩ := pp
                      obtain ⟨g1, g2, g3⟩ := cget_some (all_drop HAL.out (p + 1)) hcg
                      rw [hdl3] at g2
                      have HNX : Hid (many pfl mm (zs.drop (16 + k1 + k2)) = (many pfl (mm - (q + 1)) (zs.drop (p + 1 + k5))).map (fun x => ((fs ++ [⟨no, ⟨cn, cr, cs⟩⟩]) ++ x.1, x.2))) := Lib.hid (by
                        rw [hmn, many_some (show pfl (no :: zs.drop (p + 1)) = some (⟨no, ⟨cn, cr, cs⟩⟩, zs.drop (p + 1 + k5)) by unfold pfl pcl; simp only [hcg, List.drop_drop]), Option.map_map, show mm - (q + 1) = m' by omega]
                        congr 1
                        funext x
                        simp)
                      rw [hcg] at HG3
                      unfold cgetV Cel.v at HG3
                      dsimp only at HG3
                      have HG3 := Lib.hid HG3
                      have hwp5 : IntKind.i64.wrap ((p : Int) + 1 + (k5 : Int)) = (p : Int) + 1 + (k5 : Int) := IntWalk.i64_in _ (by omega)
                      clear hx5 ho hb hmn hcg hD3 hdl3 hc hzp g1 g3
                      go_wp2_with fail
                      refine HG3.out.mono ?_
                      rintro e w11 ⟨rfl, hb11⟩
                      have hb12 := hb11.trans ((Below.refl w11.heap.size w11).alloc (Nat.le_refl _) (.cells #[.int .i64 cn, .int .i64 cr, .string cs] 57) |>.mono hb11.size)
                      have NC := ClAt.new w11 ⟨cn, cr, cs⟩
                      have d0 := NC.c0
                      have d1 := NC.c1
                      have d2 := NC.c2
                      have v5 := HX5.out.below hb12 HX5.out.lt
                      have x18 := v5.c18
                      have hb13 := hb12.trans ((Below.refl _ (w11.alloc (.cells #[.int .i64 cn, .int .i64 cr, .string cs] 57))).alloc (Nat.le_refl _) (.cells #[.int .i64 no, .int .i64 cn, .int .i64 cr, .string cs] 59) |>.mono hb12.size)
                      have V2 := Lib.hid (HX2.out.below hb13 HX2.out.lt)
                      have V5 := Lib.hid (HX5.out.below hb13 HX5.out.lt)
                      have VB := Lib.hid (HBB.out.trans (hb13.mono HBB.out.size))
                      have VO := Lib.hid (own_below HO.out hb13)
                      have VF := Lib.hid (one_fs (w11.alloc (.cells #[.int .i64 cn, .int .i64 cr, .string cs] 57)) ⟨no, ⟨cn, cr, cs⟩⟩)
                      rw [World.size_alloc] at VF
                      dsimp only at VF
                      clear hb11 hb12 hb13 c0 NC v5
                      go_wp2_with (at_builtin; refine wpList_append_fld _ rfl _ _ 31 rfl w.heap.size 59 i0 Tryz.underlying31 hi hz0 hz1 hz2 _ q fs rfl VO.out (some ⟨w11.heap.size + 1, 0, none⟩) 1 1 [⟨no, ⟨cn, cr, cs⟩⟩] rfl VF.out rfl (by omega) VB.out.size ?_; intro v13 w13 ho13 hg13; obtain ⟨g13, cap13, rfl⟩ := ownsRow_succ ho13; have O13 := Lib.hid ho13; have u5 := V5.out.kept hg13 (V5.out.not_row VO.out); have U2 := Lib.hid (V2.out.by2 hg13 (V2.out.rc.not_row VO.out)); have UB := Lib.hid (VB.out.grown hg13 VB.out.size (fun g hg => own_base VO.out hg)); have U5 := Lib.hid u5; have y18 := u5.c18; have fy18 := u5.fz 18; clear ho13 hg13 u5)
                      go_roundw
                      case rel => exact ⟨q + 1, p + 1 + k5, fs ++ [⟨no, ⟨cn, cr, cs⟩⟩], _, by omega, by go_num, by omega, by go_num, by rw [List.length_append, HFL.out]; rfl, U2.out.setg (by omega), U5.out.put _, O13.out.kept (grownBy_setCell18 w13 (w.heap.size + 1) 18 _) (.inr (U5.out.not_row O13.out).symm), UB.out.setCell (p := ⟨w.heap.size + 1, 18, none⟩) (Nat.le_succ _) _, HNX.out⟩
                      case measure => simp [intOf]; omega
                  · have tp : (len : Int) ≤ (p : Int) := by omega
                    have HV := Lib.hid (show prc zs = none by
                      rw [HP2.out, hmn, List.drop_of_length_le (by rw [HL.out]; omega), many_none (show pfl [] = none from rfl)]; rfl)
                    clear hx5 ho hb hmn
                    have LX := Lib.hid HXO.out.load
                    have ZZ : Hid ((RcA.R ⟨⟨z, n, r, fs⟩, Av, cv⟩).z.length = 16) := Lib.hid HT.out
                    go_wp2_with (first | ((with_reducible refine wpList_load_by (o := ⟨some 79, .load 33 (.tmp 5), _, _, _, _⟩) ?e1 33 (.tmp 5) ?e2 ⟨w.heap.size + 1, 0, none⟩ ?e3 _ LX.out ?_); (case e1 => rfl); (case e2 => rfl); (case e3 => rfl)) | ((with_reducible refine wpList_store_oldx (o := ⟨none, .store 33 (.tmp 2) (.tmp 79), _, _, _, _⟩) ?e1 (.tmp 2) (.tmp 79) ?e2 w.heap.size _ HX2.out ?e3 ⟨⟨z, n, r, fs⟩, Av, cv⟩ ?e4 ZZ.out ?_); (case e1 => rfl); (case e2 => rfl); (case e3 => rfl); (case e4 => rfl); intro w99 hg99 hx99; have G99 := Lib.hid hg99; have X99 := Lib.hid hx99; clear hg99 hx99))
                    refine bodyPost_ret (v := .tuple #[.agg (RcA.cells ⟨⟨z, n, r, fs⟩, Av, cv⟩), .int .i64 0, .bool false]) ?_ rfl ?_
                    · exact res_rc3 Tryz.results67 rfl X99.out
                    · rw [HV.out]
                      exact ⟨⟨⟨z, n, r, fs⟩, Av, cv⟩, rfl, HT.out, HBB.out.grown G99.out HBB.out.size (fun k e => by have := Option.some.inj e; omega)⟩
                · obtain rfl : q = mm := by omega
                  have tq : ¬ (q : Int) < (q : Int) := by omega
                  rw [Nat.sub_self, many, Option.map_some, List.append_nil] at hmn
                  have HV := Lib.hid (show prc zs = some (⟨z, n, r, fs⟩, zs.drop p) by rw [HP2.out, hmn]; rfl)
                  have LX := Lib.hid HXO.out.load
                  clear hx5 ho hb hmn
                  have ZZ : Hid ((RcA.R ⟨⟨z, n, r, fs⟩, Av, cv⟩).z.length = 16) := Lib.hid HT.out
                  go_wp2_with (first | ((with_reducible refine wpList_load_by (o := ⟨some 109, .load 33 (.tmp 5), _, _, _, _⟩) ?e1 33 (.tmp 5) ?e2 ⟨w.heap.size + 1, 0, none⟩ ?e3 _ LX.out ?_); (case e1 => rfl); (case e2 => rfl); (case e3 => rfl)) | ((with_reducible refine wpList_store_oldx (o := ⟨none, .store 33 (.tmp 2) (.tmp 109), _, _, _, _⟩) ?e1 (.tmp 2) (.tmp 109) ?e2 w.heap.size _ HX2.out ?e3 ⟨⟨z, n, r, fs⟩, Av, cv⟩ ?e4 ZZ.out ?_); (case e1 => rfl); (case e2 => rfl); (case e3 => rfl); (case e4 => rfl); intro w99 hg99 hx99; have G99 := Lib.hid hg99; have X99 := Lib.hid hx99; clear hg99 hx99))
                  have hfl := HFL.out
                  subst hfl
                  have htag : ∀ g, some w.heap.size = some g → ∀ c, wr.heap[g]? ≠ some (.cells c 59) := fun g e => by
                    obtain rfl := Option.some.inj e
                    exact tag_ne HX2.out.2 (by decide)
                  have hT := FTag.own HO.out
                  have hV : RvAt wr ⟨⟨z, n, r, fs⟩, Av, cv⟩ := ⟨⟨HT.out, HTA.out⟩, FsAt.own HO.out⟩
                  refine bodyPost_ret (v := .tuple #[.agg (RcA.cells ⟨⟨z, n, r, fs⟩, Av, cv⟩), .int .i64 p, .bool true]) ?_ rfl ?_
                  · exact res_rc3 Tryz.results67 rfl X99.out
                  · rw [HV.out]
                    exact ⟨_, p, rfl, rfl, hV.kept_tag hT G99.out htag, hT.kept G99.out htag, by rw [HL.out]; exact hp, rfl, HBB.out.grown G99.out HBB.out.size (fun k e => by have := Option.some.inj e; omega)⟩
            · have HV := Lib.hid (show prc zs = none by
                rw [HP1.out]
                unfold lst cnt
                rw [hdc]
                dsimp only
                rw [if_neg hm8]
                rfl)
              have t8 : (8 : Int) < m := by omega
              clear hdc
              go_wp2_with fail
              refine HG2.out.mono ?_
              rintro e w9 ⟨rfl, hb9⟩
              have Z2 := Lib.hid (Y2.out.below hb9 Y2.out.lt)
              have Z5 : Hid (XAt w9 (w.heap.size + 1) ⟨⟨z, n, r, []⟩, none, 0⟩) := Lib.hid (Y5.out.below hb9 Y5.out.lt)
              have ZB := Lib.hid (YB.out.trans (hb9.mono YB.out.size))
              clear hb9 a0 a1 x16 x17 f16 f17
              have LX := Lib.hid Z5.out.load
              have ZZ : Hid ((RcA.R ⟨⟨z, n, r, []⟩, none, 0⟩).z.length = 16) := Lib.hid HT.out
              go_wp2_with (first | ((with_reducible refine wpList_load_by (o := ⟨some 65, .load 33 (.tmp 5), _, _, _, _⟩) ?e1 33 (.tmp 5) ?e2 ⟨w.heap.size + 1, 0, none⟩ ?e3 _ LX.out ?_); (case e1 => rfl); (case e2 => rfl); (case e3 => rfl)) | ((with_reducible refine wpList_store_oldx (o := ⟨none, .store 33 (.tmp 2) (.tmp 65), _, _, _, _⟩) ?e1 (.tmp 2) (.tmp 65) ?e2 w.heap.size _ Z2.out ?e3 ⟨⟨z, n, r, []⟩, none, 0⟩ ?e4 ZZ.out ?_); (case e1 => rfl); (case e2 => rfl); (case e3 => rfl); (case e4 => rfl); intro w99 hg99 hx99; have G99 := Lib.hid hg99; have X99 := Lib.hid hx99; clear hg99 hx99))
              refine bodyPost_ret (v := .tuple #[.agg (RcA.cells ⟨⟨z, n, r, []⟩, none, 0⟩), .int .i64 0, .bool false]) ?_ rfl ?_
              · exact res_rc3 Tryz.results67 rfl X99.out
              · rw [HV.out]
                exact ⟨⟨⟨z, n, r, []⟩, none, 0⟩, rfl, HT.out, ZB.out.grown G99.out ZB.out.size (fun k e => by have := Option.some.inj e; omega)⟩
  · have t16 : (len : Int) < 16 := by omega
    have HV := Lib.hid (show prc zs = none by unfold prc; rw [if_neg (by rw [HL.out]; exact h16)])
    go_enter Tryz.func67, Tryz.ntmps67
    go_wp2_with (first | ((with_reducible refine wpList_store_newx (o := ⟨none, .store 33 (.tmp 5) (.tmp 19), _, _, _, _⟩) (w := (w.alloc (.cells rcA0.cells 33))) ?e1 (.tmp 5) (.tmp 19) ?e2 (w.heap.size + 1) ?e0 ?e3 rcA0 ?e4 Z0.out ?_); (case e1 => rfl); (case e2 => rfl); (case e0 => simp); (case e3 => rfl); (case e4 => rfl); intro w5 hb5 hx5 hs5; have X5 := Lib.hid hx5; have B5 := Lib.hid (HB1.out.trans (hb5.mono HB1.out.size)); have X2 := Lib.hid (X1.out.below hb5 X1.out.lt); clear hb5 hx5 hs5; have LX := Lib.hid X5.out.load) | ((with_reducible refine wpList_load_by (o := ⟨some 23, .load 33 (.tmp 5), _, _, _, _⟩) ?e1 33 (.tmp 5) ?e2 ⟨w.heap.size + 1, 0, none⟩ ?e3 _ LX.out ?_); (case e1 => rfl); (case e2 => rfl); (case e3 => rfl)) | ((with_reducible refine wpList_store_oldx (o := ⟨none, .store 33 (.tmp 2) (.tmp 23), _, _, _, _⟩) ?e1 (.tmp 2) (.tmp 23) ?e2 w.heap.size _ X2.out ?e3 rcA0 ?e4 Z0.out ?_); (case e1 => rfl); (case e2 => rfl); (case e3 => rfl); (case e4 => rfl); intro w99 hg99 hx99; have G99 := Lib.hid hg99; have X99 := Lib.hid hx99; clear hg99 hx99))
    refine bodyPost_ret (v := .tuple #[.agg (RcA.cells rcA0), .int .i64 0, .bool false]) ?_ rfl ?_
    · exact res_rc3 Tryz.results67 rfl X99.out
    · rw [HV.out]
      exact ⟨rcA0, rfl, z16_len, B5.out.grown G99.out B5.out.size (fun k e => by have := Option.some.inj e; omega)⟩
end Go.Proofs.YtcmknbdeafcknaaGreatDoor

end
section
/-
  What the document's own Get and Digest of books answer. Nothing that was there is written.
-/
namespace Go.Proofs.YtcmknbdeafcknaaGreatDoor
open Go.RowKit Go.Shelf WM
set_option linter.unusedVariables false
set_option maxRecDepth 100000
set_option maxHeartbeats 4000000 in
theorem rdigest_any (b : Bk) (w : World) (h : BkAt w b) (hfs : ∀ x ∈ b.xs, x.R.fs.length ≤ 1000) (hbl1 : b.xs.length ≤ 1000) : Calls Tryz.prog 36 #[.agg #[.slice b.A b.xs.length b.c]] w (DSumPost (bbs b.rs) w) := by
  have S0 := Lib.hid ((BoAt.new w (.slice b.A b.xs.length b.c)).old (.cells (bvals z32k) 52))
  have HB := Lib.hid (((Below.refl w.heap.size w).alloc (Nat.le_refl _) (.cells #[.slice b.A b.xs.length b.c] 24)).alloc (by simp) (.cells (bvals z32k) 52))
  have d0 := BRow.new (w.alloc (.cells #[.slice b.A b.xs.length b.c] 24)) 52 z32k
  rw [World.size_alloc] at d0
  have D0 := Lib.hid d0
  have HP := rput_book b _ (h.below HB.out (Nat.le_refl _)) hfs hbl1
  have s0 := S0.out.c0
  have hz := zeroDk
  have HLEN := Lib.hid (SH.sum_len (bbs b.rs))
  have HV : Hid (∀ w', Below w.heap.size w w' → DSumPost (bbs b.rs) w (.returned (.agg (bvals (SH.sum (bbs b.rs))))) w') := Lib.hid (fun w' h => ⟨rfl, h⟩)
  have hok := bk_ok h
  clear d0
  cases hm : bmay b.rs
  · have HX := Lib.hid (show bbs b.rs = [] by unfold bbs; rw [hm]; rfl)
    unfold PutPost at HP
    simp only [hm, Bool.false_eq_true, if_false] at HP
    rw [HX.out] at HV HLEN
    have HP := Lib.hid HP
    clear hm h hok
    generalize hS : SH.sum [] = D at *
    rw [HX.out]
    go_enter Tryz.func36, Tryz.ntmps36
    go_wp2_with fail
    refine HP.out.mono ?_
    rintro e w1 ⟨rfl, hb⟩
    have B1 := Lib.hid (HB.out.trans (hb.mono HB.out.size))
    have D1 := Lib.hid (D0.out.below hb D0.out.lt)
    have HSU0 := rsum_dig (B := 0) none 0 0 [] w1 Byt.nil rfl (by decide) (fun _ => rfl) (fun z hz => by cases hz) (Nat.zero_le _)
    unfold DSumPost at HSU0
    rw [hS] at HSU0
    have HSU := Lib.hid HSU0
    clear hb s0 HSU0
    go_wp2_with fail
    refine HSU.out.mono ?_
    rintro e w2 ⟨rfl, hb⟩
    have B2 := Lib.hid (B1.out.trans (hb.mono B1.out.size))
    have D2 := Lib.hid (D1.out.below hb D1.out.lt)
    clear hb
    go_wp2_with (first | ((with_reducible refine wpList_store_digo (o := ⟨none, .store 52 (.tmp 2) (.tmp 11), _, _, _, _⟩) ?e1 (.tmp 2) (.tmp 11) ?e2 (w.heap.size + 1) _ D2.out z32k_len ?e3 D HLEN.out ?e4 ?_); (case e1 => rfl); (case e2 => rfl); (case e3 => rfl); (case e4 => rfl); intro w9 hg9 hx9; have X9 := Lib.hid hx9; have B9 := Lib.hid (B2.out.grown hg9 B2.out.size (fun k e => by have := Option.some.inj e; omega)); clear hg9 hx9))
    refine bodyPost_ret (v := .agg (bvals D)) ?_ rfl ?_
    · exact res_digk Tryz.results36 rfl X9.out HLEN.out
    · exact HV.out _ B9.out
  · have HX := Lib.hid (show bbs b.rs = benc b.rs by unfold bbs; rw [hm]; rfl)
    unfold PutPost GivesT at HP
    simp only [hm, if_true] at HP
    rw [HX.out] at HV HLEN
    have HP := Lib.hid HP
    have HBY := Lib.hid (benc_bytes hm hok)
    have HBL := Lib.hid (benc_len hm fun R hR => (hok R hR).1)
    rw [HX.out]
    clear hm h hok
    generalize benc b.rs = Z at *
    generalize hS : SH.sum Z = D at *
    go_enter Tryz.func36, Tryz.ntmps36
    go_wp2_with fail
    refine HP.out.mono ?_
    rintro e w1 ⟨A1, n1, k1, rfl, hn1, hnk1, hkm1, hown1, hb⟩
    have B1 := Lib.hid (HB.out.trans (hb.mono HB.out.size))
    have D1 := Lib.hid (D0.out.below hb D0.out.lt)
    have hbs := BsAt.own hown1
    have HSU0 := rsum_dig A1 n1 k1 Z w1 hbs.1 hn1 (by have := HBL.out; omega) hbs.2.2 HBY.out (Nat.le_refl _)
    unfold DSumPost at HSU0
    rw [hS] at HSU0
    have HSU := Lib.hid HSU0
    clear hb s0 HSU0 hn1 hnk1 hkm1 hown1 hbs
    go_wp2_with fail
    refine HSU.out.mono ?_
    rintro e w2 ⟨rfl, hb⟩
    have B2 := Lib.hid (B1.out.trans (hb.mono B1.out.size))
    have D2 := Lib.hid (D1.out.below hb D1.out.lt)
    clear hb
    go_wp2_with (first | ((with_reducible refine wpList_store_digo (o := ⟨none, .store 52 (.tmp 2) (.tmp 11), _, _, _, _⟩) ?e1 (.tmp 2) (.tmp 11) ?e2 (w.heap.size + 1) _ D2.out z32k_len ?e3 D HLEN.out ?e4 ?_); (case e1 => rfl); (case e2 => rfl); (case e3 => rfl); (case e4 => rfl); intro w9 hg9 hx9; have X9 := Lib.hid hx9; have B9 := Lib.hid (B2.out.grown hg9 B2.out.size (fun k e => by have := Option.some.inj e; omega)); clear hg9 hx9))
    refine bodyPost_ret (v := .agg (bvals D)) ?_ rfl ?_
    · exact res_digk Tryz.results36 rfl X9.out HLEN.out
    · exact HV.out _ B9.out
/-! ### Get -/
theorem prc_small {zs ys : List Int} {R : Rc} (h : prc zs = some (R, ys)) : R.fs.length ≤ 1000 := by
  unfold prc at h
  split at h
  · cases hp : pst (zs.drop 16) with
    | none => rw [hp] at h; cases h
    | some s =>
      rw [hp, Option.bind_some] at h
      cases hl : lst pfl 8 s.2 with
      | none => rw [hl] at h; cases h
      | some f =>
        rw [hl] at h
        cases h
        unfold lst at hl
        cases hc : cnt 8 s.2 with
        | none => rw [hc] at hl; cases hl
        | some q =>
          rw [hc, Option.bind_some] at hl
          have h1 := many_len (zs := q.2) (ys := f.2) (l := f.1) hl
          have h2 := cnt_le hc
          show f.1.length ≤ 1000
          omega
  · cases h
theorem FTag.below9 {w w' : World} {A : Option Addr} (h : FTag w A) (hb : Below w.heap.size w w') : FTag w' A := fun p e => by
  obtain ⟨cur, hc⟩ := h p e
  exact ⟨cur, (hb.block _ (Array.getElem?_eq_some_iff.1 hc).1).trans hc⟩
/-- What holds between two rounds. -/
def GJ (w : World) (g : Nat) (v : Value) (xs : List RcA) (W : World) : Prop :=
  Below w.heap.size w W ∧ BoAt W w.heap.size (.slice none 0 0) ∧ BoAt W g v ∧ W.ownsRow (g + 1) 33 19 v xs.length (xs.flatMap RcA.cs) ∧ (∀ x ∈ xs, RvAt W x ∧ FTag W x.A) ∧ g + 1 ≤ W.heap.size ∧ w.heap.size < g
section
variable {w W W' : World} {g : Nat} {v v' : Value} {xs : List RcA} {x : RcA}
theorem GJ.below (h : GJ w g v xs W) (hb : Below W.heap.size W W') : GJ w g v xs W' := by
  obtain ⟨h1, h2, h3, h4, h5, h6, h7⟩ := h
  exact ⟨h1.trans (hb.mono h1.size), h2.below hb h2.lt, h3.below hb h3.lt, own_below h4 hb, fun y hy => ⟨(h5 y hy).1.below hb (Nat.le_refl _), (h5 y hy).2.below9 hb⟩, Nat.le_trans h6 hb.size, h7⟩
theorem GJ.alloc (h : GJ w g v xs W) (o : Obj) : GJ w g v xs (W.alloc o) := h.below ((Below.refl _ _).alloc (Nat.le_refl _) o)
theorem GJ.grow (h : GJ w g v xs W) (hG : W.grownBy W' v.ownBlock) : Below w.heap.size w W' ∧ BoAt W' w.heap.size (.slice none 0 0) ∧ BoAt W' g v := by
  obtain ⟨h1, h2, h3, h4, h5, h6, h7⟩ := h
  have ne : ∀ p, p < g + 1 → some p ≠ v.ownBlock := fun p hp e => by have := own_base h4 e.symm; omega
  exact ⟨h1.grown hG h1.size (fun q hq => by have := own_base h4 hq; omega), h2.same (hG.block _ h2.lt (ne _ (by omega))), h3.same (hG.block _ h3.lt (ne _ (by omega)))⟩
theorem GJ.step (h : GJ w g v xs W) (hx : RvAt W x) (ht : FTag W x.A) (hO : W'.ownsRow (g + 1) 33 19 v' (xs.length + 1) ((xs ++ [x]).flatMap RcA.cs)) (hG : W.grownBy W' v.ownBlock) : GJ w g v' (xs ++ [x]) (W'.setCell ⟨g, 0, none⟩ v') := by
  obtain ⟨k1, k2, k3⟩ := h.grow hG
  obtain ⟨_, _, _, h6, h7, h8, h9⟩ := h
  have hs := grownBy_setCell18 W' g 0 v'
  have tg : ∀ q, some g = some q → ∀ c, W'.heap[q]? ≠ some (.cells c 59) := fun q e => by
    obtain rfl := Option.some.inj e
    exact tag_ne k3 (by decide)
  refine ⟨k1.setCell (p := ⟨g, 0, none⟩) (by show w.heap.size ≤ g; omega) v', k2.same (hs.block _ k2.lt (fun e => by have := Option.some.inj e; omega)), k3.put0 v', ?_, fun z hz => ?_, Nat.le_trans h8 (Nat.le_trans hG.size hs.size), h9⟩
  · rw [List.length_append]
    refine hO.kept hs ?_
    rcases hO.2 with ⟨rfl, _⟩ | ⟨g', cap, cur, rfl, hb', _⟩
    · exact .inl rfl
    · exact .inr (fun e => by have : g' = g := by simpa [Value.ownBlock] using e
                              omega)
  · have hz' : RvAt W z ∧ FTag W z.A := by
      rcases List.mem_append.1 hz with hz | hz
      · exact h7 z hz
      · rw [List.mem_singleton.1 hz]; exact ⟨hx, ht⟩
    have q1 := hz'.1.kept_tag hz'.2 hG (own_tag h6 (by decide))
    have q2 := hz'.2.kept hG (own_tag h6 (by decide))
    exact ⟨q1.kept_tag q2 hs tg, q2.kept hs tg⟩
theorem GJ.book {A : Option Addr} {c : Nat} (h : GJ w g (.slice A xs.length c) xs W) : BkAt W ⟨xs, A, c⟩ := RsAt.own h.2.2.2.1 (fun y hy => (h.2.2.2.2.1 y hy).1)
end
set_option maxHeartbeats 16000000 in
theorem rget_book (A : Option Addr) (len cap : Nat) (zs : List Int) (w : World) (h : Byt w w.heap.size A zs) (hl : zs.length = len) (hb : AllBytes zs) (hlc : len ≤ cap) (hm : cap ≤ maxLen) :
    Calls Tryz.prog 34 #[.slice A len cap] w (GetPost w (bget zs)) := by
  have HBY := Lib.hid h
  have HAL := Lib.hid hb
  have HL := Lib.hid hl
  have HMX := Lib.hid hm
  simp only [maxLen] at hm
  have S0 := Lib.hid (BoAt.new w (.slice none 0 0))
  have HB := Lib.hid ((Below.refl w.heap.size w).alloc (Nat.le_refl _) (.cells #[.slice none 0 0] 24))
  have hz : ∀ w : World, (zeroValue 24).run Tryz.prog w = .ok (.agg #[.slice none 0 0]) w := zeroBook
  have hbn := build_book0
  have hzx := zeroX
  obtain ⟨i0, hi, hz0, hz1, hz2⟩ := info_parts infoRec
  have HG := rget_any A len cap zs _ (h.below HB.out) hl hb hlc HMX.out HB.out.size
  have HDS := Lib.hid (fun n k => dec_some (n := n) (k := k) hb)
  rw [hl] at HDS
  clear h hl hb
  cases hdc : dec zs with
  | none =>
    have HV := Lib.hid (show bget zs = none by unfold bget lst cnt; rw [hdc]; rfl)
    rw [hdc] at HG
    unfold getV at HG
    have HG := Lib.hid HG
    clear hdc
    go_enter Tryz.func34, Tryz.ntmps34
    go_wp2_with fail
    refine HG.out.mono ?_
    rintro e w1 ⟨rfl, hb1⟩
    have S1 := Lib.hid (S0.out.below hb1 S0.out.lt)
    have B1 := Lib.hid (HB.out.trans (hb1.mono HB.out.size))
    clear hb1
    go_wp2_with (first | ((with_reducible refine wpList_store_oldb (o := ⟨none, .store 24 (.tmp 2) (.tmp 25), _, _, _, _⟩) ?e1 (.tmp 2) (.tmp 25) ?e2 w.heap.size _ S1.out ?e3 (.slice none 0 0) ?e4 ?e5 ?_); (case e1 => rfl); (case e2 => rfl); (case e3 => rfl); (case e4 => rfl); (case e5 => rfl); intro w2 hg2 hx2; have G9 := Lib.hid hg2; have X9 := Lib.hid hx2; clear hg2 hx2))
    refine bodyPost_ret (v := .tuple #[.agg #[.slice none 0 0], .bool false]) ?_ rfl ?_
    · exact res_bk2 Tryz.results34 rfl X9.out
    · rw [HV.out]
      exact ⟨bk0, rfl, rfl, BkAt.zero _, B1.out.grown G9.out B1.out.size (fun k e => by have := Option.some.inj e; omega)⟩
  | some p =>
    obtain ⟨m, k2⟩ := p
    obtain ⟨e1, e2, e3, e4, e5⟩ := HDS.out m k2 hdc
    rw [hdc] at HG
    unfold getV at HG
    have HG := Lib.hid HG
    by_cases hm10 : m ≤ 10
    · obtain ⟨mm, rfl⟩ : ∃ mm : Nat, m = mm := ⟨m.toNat, by omega⟩
      have HP : Hid (bget zs = match many prc mm (zs.drop k2) with | none => none | some (rs, ys) => if ys.length = 0 ∧ bmay rs = true then some rs else none) := Lib.hid (by
        unfold bget lst cnt
        rw [hdc]
        dsimp only
        rw [if_pos hm10, Option.bind_some, Int.toNat_natCast]
        dsimp only
        cases many prc mm (zs.drop k2) <;> rfl)
      have t10 : ¬ (10 : Int) < (mm : Int) := by omega
      have hwm : IntKind.i64.wrap (mm : Int) = (mm : Int) := IntWalk.i64_in _ (by omega)
      clear hdc
      go_enter Tryz.func34, Tryz.ntmps34
      go_wp2_with fail
      refine HG.out.mono ?_
      rintro e w1 ⟨rfl, hb1⟩
      have S1 := Lib.hid (S0.out.below hb1 S0.out.lt)
      have B1 := Lib.hid (HB.out.trans (hb1.mono HB.out.size))
      have hb2 := (Below.refl w1.heap.size w1).alloc (Nat.le_refl _) (.cells #[.slice none 0 0] 24)
      have J0 : Hid (GJ w w1.heap.size (.slice none 0 0) [] (w1.alloc (.cells #[.slice none 0 0] 24))) := Lib.hid ⟨B1.out.trans (hb2.mono B1.out.size), S1.out.below hb2 S1.out.lt, BoAt.new w1 _, World.ownsRow_nil _ _ _ _, (fun y hy => by cases hy), by rw [World.size_alloc]; omega, S1.out.lt⟩
      clear hb1 hb2 S0 HB
      go_wp2
      generalize hg : w1.heap.size = g at *
      clear hg
      go_loopw [5, 8] (fun a i wq => ∃ (q p : Nat) (xs : List RcA) (v : Value), q ≤ mm ∧ i = .int .i64 q ∧ p ≤ len ∧ a = .int .i64 p ∧ xs.length = q ∧ GJ w g v xs wq ∧ (∀ x ∈ xs, x.R.fs.length ≤ 1000) ∧ many prc mm (zs.drop k2) = (many prc (mm - q) (zs.drop p)).map (fun x => (xs.map (·.R) ++ x.1, x.2))) (fun _ i _ => mm - (intOf i).toNat)
      case atStart => exact ⟨0, k2, [], _, Nat.zero_le _, rfl, by omega, by go_num, rfl, J0.out, (fun x hx => by cases hx), by simp⟩
      case round =>
        obtain ⟨q, p, xs, v, hq, rfl, hp, rfl, hxl, hJ, hsm, hmn⟩ := hrel
        clear J0
        have J := Lib.hid hJ
        have HXL := Lib.hid hxl
        have HSM := Lib.hid hsm
        by_cases hqt : q < mm
        · have tq : (q : Int) < (mm : Int) := by omega
          obtain ⟨m', hm'⟩ : ∃ m', mm - q = m' + 1 := ⟨mm - q - 1, by omega⟩
          rw [hm'] at hmn
          have hsl := sl_l A len cap p hp (p : Int) rfl
          have hD := (HBY.out.below hJ.1).drop (k := p) (cap := cap) (by rw [HL.out]; exact hlc)
          generalize (if cap = p then A else A.map (·.add p)) = A1 at hsl hD
          have hdl : (zs.drop p).length = len - p := by rw [List.length_drop, HL.out]
          have HR := rrecord_any A1 (len - p) (cap - p) (zs.drop p) wr (hD.wide hJ.1.size) hdl (all_drop HAL.out p) (by omega) (by simp only [maxLen]; omega)
          clear hJ hxl hsm hD
          cases hpr : prc (zs.drop p) with
          | none =>
            have HV := Lib.hid (show bget zs = none by rw [HP.out, hmn, many_none hpr]; rfl)
            rw [hpr] at HR
            unfold RRecPost at HR
            have HR := Lib.hid HR
            clear hpr hmn hdl
            go_wp2_with fail
            refine HR.out.mono ?_
            rintro e w2 ⟨x, rfl, hxz, hb2⟩
            have ZX := Lib.hid hxz
            have J2 := Lib.hid (J.out.below hb2)
            clear hb2 hxz
            go_wp2_with (first | ((with_reducible refine wpList_store_newx (o := ⟨none, .store 33 (.tmp 9) (.tmp 38), _, _, _, _⟩) (w := w2) ?e1 (.tmp 9) (.tmp 38) ?e2 w2.heap.size ?e0 ?e3 x ?e4 ZX.out ?_); (case e1 => rfl); (case e2 => rfl); (case e0 => rfl); (case e3 => rfl); (case e4 => rfl); intro w5 hb5 hx5 hs5; have J5 := J2.out.below (hb5.mono (Nat.le_refl _)); have S5 := Lib.hid J5.2.1; have B5 := Lib.hid J5.1; clear hb5 hx5 hs5 J5) | ((with_reducible refine wpList_store_oldb (o := ⟨none, .store 24 (.tmp 2) (.tmp 43), _, _, _, _⟩) ?e1 (.tmp 2) (.tmp 43) ?e2 w.heap.size _ S5.out ?e3 (.slice none 0 0) ?e4 ?e5 ?_); (case e1 => rfl); (case e2 => rfl); (case e3 => rfl); (case e4 => rfl); (case e5 => rfl); intro w2 hg2 hx2; have G9 := Lib.hid hg2; have X9 := Lib.hid hx2; clear hg2 hx2))
            refine bodyPost_ret (v := .tuple #[.agg #[.slice none 0 0], .bool false]) ?_ rfl ?_
            · exact res_bk2 Tryz.results34 rfl X9.out
            · rw [HV.out]
              exact ⟨bk0, rfl, rfl, BkAt.zero _, B5.out.grown G9.out B5.out.size (fun k e => by have := Option.some.inj e; omega)⟩
          | some pp =>
            obtain ⟨R, ys⟩ := pp
            have HNX : Hid (∀ k', ys = (zs.drop p).drop k' → many prc mm (zs.drop k2) = (many prc (mm - (q + 1)) (zs.drop (p + k'))).map (fun x => ((xs.map (·.R) ++ [R]) ++ x.1, x.2))) := Lib.hid (fun k' e => by
              rw [hmn, many_some hpr, e, List.drop_drop, Option.map_map, show mm - (q + 1) = m' by omega]
              congr 1
              funext x
              simp)
            have HRS := Lib.hid (prc_small hpr)
            rw [hpr] at HR
            unfold RRecPost at HR
            dsimp only at HR
            rw [hdl] at HR
            have HR := Lib.hid HR
            clear hpr hmn hdl
            go_wp2_with fail
            refine HR.out.mono ?_
            rintro e w2 ⟨x, k', rfl, hxR, hxv, hxt, hk', hys, hb2⟩
            have ZX := Lib.hid hxv.len
            have HXR := Lib.hid hxR
            have HXV := Lib.hid hxv
            have HXT := Lib.hid hxt
            have HNY := Lib.hid (HNX.out k' hys)
            have J2 := Lib.hid (J.out.below hb2)
            have hwp : IntKind.i64.wrap ((p : Int) + (k' : Int)) = (p : Int) + (k' : Int) := IntWalk.i64_in _ (by omega)
            clear hb2 hxR hxv hxt hys
            go_wp2_with (first | ((with_reducible refine wpList_store_newx (o := ⟨none, .store 33 (.tmp 9) (.tmp 38), _, _, _, _⟩) (w := w2) ?e1 (.tmp 9) (.tmp 38) ?e2 w2.heap.size ?e0 ?e3 x ?e4 ZX.out ?_); (case e1 => rfl); (case e2 => rfl); (case e0 => rfl); (case e3 => rfl); (case e4 => rfl); intro w5 hb5 hx5 hs5; have J5 := Lib.hid (J2.out.below hb5); have LX5 := Lib.hid hx5.load; have J6 := Lib.hid (J5.out.alloc (.cells x.cells 33)); have V6 := Lib.hid ((HXV.out.below hb5 (Nat.le_refl _)).below ((Below.refl w5.heap.size w5).alloc (Nat.le_refl _) (.cells x.cells 33)) (Nat.le_refl _)); have T6 := Lib.hid ((HXT.out.below9 hb5).below9 ((Below.refl w5.heap.size w5).alloc (Nat.le_refl _) (.cells x.cells 33))); have F6 := Lib.hid (one_rs V6.out); have VO := Lib.hid J6.out.2.2.2.1; have VS := Lib.hid J6.out.2.2.2.2.2.1; have VL : Hid (xs.length + 1 ≤ 100000) := Lib.hid (by have := HXL.out; omega); have g0 := J5.out.2.2.1.c0; clear hb5 hx5 hs5) | ((with_reducible refine wpList_load_by (o := ⟨some 46, .load 33 (.tmp 9), _, _, _, _⟩) ?e1 33 (.tmp 9) ?e2 ⟨w2.heap.size, 0, none⟩ ?e3 _ LX5.out ?_); (case e1 => rfl); (case e2 => rfl); (case e3 => rfl)) | ((with_reducible refine wpList_bslice (o := ⟨some 47, .buildSlice 22 1 #[(0, .tmp 46)], _, _, _, _⟩) ?e1 (.tmp 46) ?e2 x ?e3 ZX.out ?_); (case e1 => rfl); (case e2 => rfl); (case e3 => rfl)) | (at_builtin; refine wpList_append_rec _ rfl _ _ 22 rfl (g + 1) 33 i0 Tryz.underlying22 hi hz0 hz1 hz2 _ xs.length xs rfl VO.out (some ⟨w5.heap.size, 0, none⟩) 1 1 [x] rfl F6.out rfl VL.out VS.out ?_; intro v3 X3 ho3 hg3; obtain ⟨g13, cap13, rfl⟩ := ownsRow_succ ho3; have K3 := Lib.hid (J6.out.grow hg3); have J7 := Lib.hid (J6.out.step V6.out T6.out ho3 hg3); have g0 := K3.out.2.2.c0; have gf := K3.out.2.2.fz 0; clear ho3 hg3))
            go_roundw
            case rel => exact ⟨q + 1, p + k', xs ++ [x], _, by omega, by go_num, by omega, by go_num, by rw [List.length_append, HXL.out]; rfl, J7.out, (fun y hy => by
              rcases List.mem_append.1 hy with hy | hy
              · exact HSM.out y hy
              · rw [List.mem_singleton.1 hy, HXR.out]; exact HRS.out), by rw [HNY.out, List.map_append, List.map_singleton, HXR.out]⟩
            case measure => simp [intOf]; omega
        · obtain rfl : q = mm := by omega
          have tq : ¬ (q : Int) < (q : Int) := by omega
          rw [Nat.sub_self, many, Option.map_some, List.append_nil] at hmn
          obtain ⟨A9, c9, rfl⟩ := own_slice hJ.2.2.2.1
          have HPQ : Hid (bget zs = if (zs.drop p).length = 0 ∧ bmay (xs.map (·.R)) = true then some (xs.map (·.R)) else none) := Lib.hid (by rw [HP.out, hmn])
          have HM := Lib.hid (rbmay_any ⟨xs, A9, c9⟩ wr hJ.book hsm (by show xs.length ≤ 1000; omega))
          have LG := Lib.hid hJ.2.2.1.load
          have hdl : (zs.drop p).length = len - p := by rw [List.length_drop, HL.out]
          rw [hdl] at HPQ
          clear hJ hsm hmn hxl hdl
          dsimp only at HM
          cases hmy : bmay (xs.map (·.R))
          · have HV := Lib.hid (show bget zs = none by rw [HPQ.out, hmy]; simp)
            have hmy2 : bmay (Bk.rs ⟨xs, A9, c9⟩) = false := hmy
            rw [hmy2] at HM
            clear hmy hmy2
            go_wp2_with (first | ((with_reducible refine wpList_load_by (o := ⟨some 53, .load 24 (.tmp 7), _, _, _, _⟩) ?e1 24 (.tmp 7) ?e2 ⟨g, 0, none⟩ ?e3 _ LG.out ?_); (case e1 => rfl); (case e2 => rfl); (case e3 => rfl)))
            refine HM.out.mono ?_
            rintro e w3 ⟨rfl, hb3⟩
            have J3 := J.out.below hb3
            have S3 := Lib.hid J3.2.1
            have B3 := Lib.hid J3.1
            clear hb3 J3
            go_wp2_with (first | ((with_reducible refine wpList_store_oldb (o := ⟨none, .store 24 (.tmp 2) (.tmp 63), _, _, _, _⟩) ?e1 (.tmp 2) (.tmp 63) ?e2 w.heap.size _ S3.out ?e3 (.slice none 0 0) ?e4 ?e5 ?_); (case e1 => rfl); (case e2 => rfl); (case e3 => rfl); (case e4 => rfl); (case e5 => rfl); intro w2 hg2 hx2; have G9 := Lib.hid hg2; have X9 := Lib.hid hx2; clear hg2 hx2))
            refine bodyPost_ret (v := .tuple #[.agg #[.slice none 0 0], .bool false]) ?_ rfl ?_
            · exact res_bk2 Tryz.results34 rfl X9.out
            · rw [HV.out]
              exact ⟨bk0, rfl, rfl, BkAt.zero _, B3.out.grown G9.out B3.out.size (fun k e => by have := Option.some.inj e; omega)⟩
          · have hmy2 : bmay (Bk.rs ⟨xs, A9, c9⟩) = true := hmy
            rw [hmy2] at HM
            by_cases hpe : p = len
            · subst hpe
              have HV := Lib.hid (show bget zs = some (xs.map (·.R)) by rw [HPQ.out, hmy]; simp)
              clear hmy hmy2
              go_wp2_with (first | ((with_reducible refine wpList_load_by (o := ⟨some 53, .load 24 (.tmp 7), _, _, _, _⟩) ?e1 24 (.tmp 7) ?e2 ⟨g, 0, none⟩ ?e3 _ LG.out ?_); (case e1 => rfl); (case e2 => rfl); (case e3 => rfl)))
              refine HM.out.mono ?_
              rintro e w3 ⟨rfl, hb3⟩
              have J3 := Lib.hid (J.out.below hb3)
              have S3 := Lib.hid J3.out.2.1
              have LG3 := Lib.hid J3.out.2.2.1.load
              clear hb3
              go_wp2_with (first | ((with_reducible refine wpList_load_by (o := ⟨some 64, .load 24 (.tmp 7), _, _, _, _⟩) ?e1 24 (.tmp 7) ?e2 ⟨g, 0, none⟩ ?e3 _ LG3.out ?_); (case e1 => rfl); (case e2 => rfl); (case e3 => rfl)) | ((with_reducible refine wpList_store_oldb (o := ⟨none, .store 24 (.tmp 2) (.tmp 64), _, _, _, _⟩) ?e1 (.tmp 2) (.tmp 64) ?e2 w.heap.size _ S3.out ?e3 (.slice A9 xs.length c9) ?e4 ?e5 ?_); (case e1 => rfl); (case e2 => rfl); (case e3 => rfl); (case e4 => rfl); (case e5 => rfl); intro w2 hg2 hx2; have G9 := Lib.hid hg2; have X9 := Lib.hid hx2; clear hg2 hx2))
              refine bodyPost_ret (v := .tuple #[.agg #[.slice A9 xs.length c9], .bool true]) ?_ rfl ?_
              · exact res_bk2 Tryz.results34 rfl X9.out
              · rw [HV.out]
                exact ⟨⟨xs, A9, c9⟩, rfl, rfl, (GJ.book J3.out).kept_bo G9.out S3.out, J3.out.1.grown G9.out J3.out.1.size (fun k e => by have := Option.some.inj e; omega)⟩
            · have tp : ¬ (p : Int) = (len : Int) := by omega
              have HV := Lib.hid (show bget zs = none by rw [HPQ.out, if_neg (fun h => by omega)])
              clear hmy hmy2
              go_wp2_with (first | ((with_reducible refine wpList_load_by (o := ⟨some 53, .load 24 (.tmp 7), _, _, _, _⟩) ?e1 24 (.tmp 7) ?e2 ⟨g, 0, none⟩ ?e3 _ LG.out ?_); (case e1 => rfl); (case e2 => rfl); (case e3 => rfl)))
              refine HM.out.mono ?_
              rintro e w3 ⟨rfl, hb3⟩
              have J3 := J.out.below hb3
              have S3 := Lib.hid J3.2.1
              have B3 := Lib.hid J3.1
              clear hb3 J3
              go_wp2_with (first | ((with_reducible refine wpList_store_oldb (o := ⟨none, .store 24 (.tmp 2) (.tmp 63), _, _, _, _⟩) ?e1 (.tmp 2) (.tmp 63) ?e2 w.heap.size _ S3.out ?e3 (.slice none 0 0) ?e4 ?e5 ?_); (case e1 => rfl); (case e2 => rfl); (case e3 => rfl); (case e4 => rfl); (case e5 => rfl); intro w2 hg2 hx2; have G9 := Lib.hid hg2; have X9 := Lib.hid hx2; clear hg2 hx2))
              refine bodyPost_ret (v := .tuple #[.agg #[.slice none 0 0], .bool false]) ?_ rfl ?_
              · exact res_bk2 Tryz.results34 rfl X9.out
              · rw [HV.out]
                exact ⟨bk0, rfl, rfl, BkAt.zero _, B3.out.grown G9.out B3.out.size (fun k e => by have := Option.some.inj e; omega)⟩
    · have HV := Lib.hid (show bget zs = none by
        unfold bget lst cnt
        rw [hdc]
        dsimp only
        rw [if_neg hm10]
        rfl)
      have t10 : (10 : Int) < m := by omega
      clear hdc
      go_enter Tryz.func34, Tryz.ntmps34
      go_wp2_with fail
      refine HG.out.mono ?_
      rintro e w1 ⟨rfl, hb1⟩
      have S1 := Lib.hid (S0.out.below hb1 S0.out.lt)
      have B1 := Lib.hid (HB.out.trans (hb1.mono HB.out.size))
      clear hb1
      go_wp2_with (first | ((with_reducible refine wpList_store_oldb (o := ⟨none, .store 24 (.tmp 2) (.tmp 25), _, _, _, _⟩) ?e1 (.tmp 2) (.tmp 25) ?e2 w.heap.size _ S1.out ?e3 (.slice none 0 0) ?e4 ?e5 ?_); (case e1 => rfl); (case e2 => rfl); (case e3 => rfl); (case e4 => rfl); (case e5 => rfl); intro w2 hg2 hx2; have G9 := Lib.hid hg2; have X9 := Lib.hid hx2; clear hg2 hx2))
      refine bodyPost_ret (v := .tuple #[.agg #[.slice none 0 0], .bool false]) ?_ rfl ?_
      · exact res_bk2 Tryz.results34 rfl X9.out
      · rw [HV.out]
        exact ⟨bk0, rfl, rfl, BkAt.zero _, B1.out.grown G9.out B1.out.size (fun k e => by have := Option.some.inj e; omega)⟩
end Go.Proofs.YtcmknbdeafcknaaGreatDoor

end
