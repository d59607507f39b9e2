import Derived.Test.YtcmknbdeafcknaaGreatDoorCaAwake
import Derived.Test.YtcmknbdeafcknaaGreatDoorBkFew
import Derived.Test.YtcmknbdeafcknaaGreatDoorGArgs
import Derived.Test.YtcmknbdeafcknaaGreatDoorGUni
/-
  The law CanonLong: for every book it answers true, and nothing that was there is written.
-/
namespace Go.Proofs.YtcmknbdeafcknaaGreatDoor
open Go.RowKit WM
set_option linter.unusedVariables false
set_option maxRecDepth 100000
/-! ### how long -/
theorem enc_fit {n : Int} {f : Nat} (h0 : 0 ≤ n) (h : n < 128 ^ (f + 1)) (hf : f ≤ 9) : (enc n).length ≤ f + 1 := by
  have h1 : n / 128 < 128 ^ f := Int.ediv_lt_of_lt_mul (by omega) (by rw [← Int.pow_succ]; exact h)
  unfold enc
  rw [encH_more f 9 (n / 128) (by omega) h1 hf, List.length_append, List.length_singleton]
  have := encH_len f (n / 128)
  omega
theorem enc_small {n : Int} (h0 : 0 ≤ n) (h : n < 128) : enc n = [n] := by
  unfold enc
  rw [show n / 128 = 0 by omega, encH_zero, show n % 128 = n by omega]
  rfl
def fsum (f : Fld) : Nat := 12 + f.c.s.size
def rsum (R : Rc) : Nat := 25 + (R.fs.map fsum).sum
def msum (X : List Rc) : Nat := 2 + (X.map rsum).sum
theorem flat_sum {α : Type} {g : α → List Int} {b : α → Nat} : ∀ {l : List α}, (∀ a ∈ l, (g a).length ≤ b a) → (l.flatMap g).length ≤ (l.map b).sum
  | [], _ => by simp
  | a :: l, h => by
    have h1 := h a List.mem_cons_self
    have h2 := flat_sum (l := l) fun x hx => h x (List.mem_cons_of_mem _ hx)
    rw [List.flatMap_cons, List.length_append, List.map_cons, List.sum_cons]
    omega
theorem st_fit {n r : Int} (h : may n r = true) : (enc (n * 8 + r)).length ≤ 7 := by
  have h1 := may_iff.1 h
  exact enc_fit (f := 6) (by omega) (by rw [show (128 : Int) ^ (6 + 1) = 562949953421312 by decide]; omega) (by omega)
theorem fenc_fit {f : Fld} (h : cmay f.c = true) : (fenc f).length ≤ fsum f := by
  obtain ⟨h1, h2, h3⟩ := cmay_iff.1 h
  have h4 := st_fit h1
  have h5 := enc_fit (n := (f.c.s.size : Int)) (f := 1) (by omega) (by rw [show (128 : Int) ^ (1 + 1) = 16384 by decide]; omega) (by omega)
  have h6 := nums_len f.c.s
  unfold fenc cenc txt fsum
  rw [List.length_cons, List.length_append, List.length_append]
  omega
theorem renc_fit {R : Rc} (hz : R.z.length = 16) (h : R.may = true) : (renc R).length ≤ rsum R := by
  obtain ⟨h1, h2, h3⟩ := may_fs h
  have h4 := st_fit h1
  have h5 := flat_sum (g := fenc) (b := fsum) (l := R.fs) fun f hf => fenc_fit (h3 f hf).2.2
  unfold renc rsum
  rw [enc_small (n := (R.fs.length : Int)) (by omega) (by omega), List.length_append, List.length_append, List.length_append, hz, List.length_singleton]
  omega
theorem benc_fit {X : List Rc} (h : bmay X = true) (hz : ∀ R ∈ X, R.z.length = 16) : (benc X).length ≤ msum X ∧ (benc X).getD 0 0 = X.length ∧ 0 < (benc X).length := by
  obtain ⟨h1, h2, h3⟩ := bmay_iff.1 h
  have h5 := flat_sum (g := renc) (b := rsum) (l := X) fun R hR => renc_fit (hz R hR) (h2 R hR)
  unfold benc msum
  rw [enc_small (n := (X.length : Int)) (by omega) (by omega), List.length_append, List.length_singleton]
  exact ⟨by omega, by simp, by omega⟩
theorem fsum_max {R : Rc} (h : R.may = true) (k : Nat) : ((R.fs.take k).map fsum).sum ≤ 2000 := by
  obtain ⟨h1, h2, h3⟩ := may_fs h
  have h4 : ∀ l : List Fld, (∀ f ∈ l, f ∈ R.fs) → (l.map fsum).sum ≤ l.length * 212 := by
    intro l
    induction l with
    | nil => intro _; simp
    | cons f l ih =>
      intro hl
      have h5 := (cmay_iff.1 (h3 f (hl f List.mem_cons_self)).2.2).2.2
      have h6 := ih fun g hg => hl g (List.mem_cons_of_mem _ hg)
      rw [List.map_cons, List.sum_cons, List.length_cons, Nat.add_mul]
      unfold fsum at *
      omega
  have h5 := h4 (R.fs.take k) fun f hf => List.mem_of_mem_take hf
  have h6 := List.length_take (i := k) (l := R.fs)
  have h7 : (R.fs.take k).length * 212 ≤ 8 * 212 := Nat.mul_le_mul_right _ (by omega)
  omega
theorem rsum_max {X : List Rc} (h : ∀ R ∈ X, R.may = true) : (X.map rsum).sum ≤ X.length * 2100 := by
  induction X with
  | nil => simp
  | cons R X ih =>
    have h1 := fsum_max (h R List.mem_cons_self) R.fs.length
    have h2 := ih fun S hS => h S (List.mem_cons_of_mem _ hS)
    rw [List.take_length] at h1
    rw [List.map_cons, List.sum_cons, List.length_cons, Nat.add_mul]
    unfold rsum at *
    omega
theorem sum_take_succ {α : Type} {l : List α} {g : α → Nat} {d : α} {k : Nat} (h : k < l.length) : ((l.take (k + 1)).map g).sum = ((l.take k).map g).sum + g (l.getD k d) := by
  rw [List.take_add_one, List.getElem?_eq_getElem h, List.map_append, List.sum_append, List.getD_eq_getElem?_getD, List.getElem?_eq_getElem h]
  simp
/-! ### the walk -/
set_option maxHeartbeats 8000000 in
theorem clong_no (b : Bk) (w : World) (hlaid : Laid w) (wb : BkAt w b) (iM : bmay b.rs = false) :
    Calls Tryz.prog 9 #[.agg #[.slice b.A b.xs.length b.c]] w fun e w' => e = .returned (.bool true) ∧ Below w.heap.size w w' := by
  have HLA := Lib.hid (fun (X : World) (hX : Below w.heap.size w X) => hlaid.below hX (Nat.le_refl _))
  have Fb := Lib.hid wb
  have hok := bk_ok wb
  have MB := Lib.hid iM
  clear iM hlaid wb hok
  have B1 := Lib.hid (Below.refl w.heap.size w)
  have T2n := BoAt.new w (.slice b.A b.xs.length b.c)
  have T2 := Lib.hid T2n
  clear T2n
  have B3 := Lib.hid (B1.out.alloc B1.out.size (.cells #[(.slice b.A b.xs.length b.c)] 24))
  have F4 := Lib.hid (Fb.out.below B3.out (Nat.le_refl _))
  go_enter Tryz.func9, Tryz.ntmps9
  have C5 := Lib.hid (caAwake (w.alloc (.cells #[(.slice b.A b.xs.length b.c)] 24)) (HLA.out _ B3.out))
  go_wp2_with fail
  refine C5.out.mono ?_
  rintro e w6 ⟨rfl, hb7⟩
  have T8 := Lib.hid (T2.out.below hb7 T2.out.lt)
  have F9 := Lib.hid (F4.out.below hb7 (Nat.le_refl _))
  have B10 := Lib.hid (B3.out.trans (hb7.mono B3.out.size))
  clear hb7
  have M11 := Lib.hid (T8.out.load)
  have c12 := put_book b w6 F9.out
  unfold PutPost at c12
  simp only [MB.out, Bool.false_eq_true, if_false] at c12
  have C13 := Lib.hid (c12)
  clear c12
  go_wp2_with (first | ((with_reducible refine wpList_load_by (o := ⟨some 11, .load 24 (.tmp 1), _, _, _, _⟩) ?e1 24 (.tmp 1) ?e2 ⟨w.heap.size, 0, none⟩ ?e3 _ M11.out ?_); (case e1 => rfl); (case e2 => rfl); (case e3 => rfl)))
  refine C13.out.mono ?_
  rintro e w14 ⟨rfl, hb15⟩
  have T16 := Lib.hid (T8.out.below hb15 T8.out.lt)
  have F17 := Lib.hid (F9.out.below hb15 (Nat.le_refl _))
  have B18 := Lib.hid (B10.out.trans (hb15.mono B10.out.size))
  clear hb15
  have M19 := Lib.hid (T16.out.load)
  have C20 := Lib.hid (bmay_any b w14 F17.out)
  rw [MB.out] at C20
  go_wp2_with (first | ((with_reducible refine wpList_load_by (o := ⟨some 25, .load 24 (.tmp 1), _, _, _, _⟩) ?e1 24 (.tmp 1) ?e2 ⟨w.heap.size, 0, none⟩ ?e3 _ M19.out ?_); (case e1 => rfl); (case e2 => rfl); (case e3 => rfl)))
  refine C20.out.mono ?_
  rintro e w21 ⟨rfl, hb22⟩
  have T23 := Lib.hid (T16.out.below hb22 T16.out.lt)
  have F24 := Lib.hid (F17.out.below hb22 (Nat.le_refl _))
  have B25 := Lib.hid (B18.out.trans (hb22.mono B18.out.size))
  clear hb22
  go_wp2
  go_ret
  exact ⟨rfl, B25.out⟩
set_option maxHeartbeats 8000000 in
theorem clong_yes (b : Bk) (w : World) (hlaid : Laid w) (wb : BkAt w b) (iM : bmay b.rs = true) :
    Calls Tryz.prog 9 #[.agg #[.slice b.A b.xs.length b.c]] w fun e w' => e = .returned (.bool true) ∧ Below w.heap.size w w' := by
  have HLA := Lib.hid (fun (X : World) (hX : Below w.heap.size w X) => hlaid.below hX (Nat.le_refl _))
  have Fb := Lib.hid wb
  have hok := bk_ok wb
  have MB := Lib.hid iM
  have HFT := Lib.hid (benc_fit iM fun R hR => (hok R hR).1)
  have h10 := (bmay_iff.1 iM).1
  have HAL := Lib.hid (bmay_iff.1 iM).2.1
  have HRL : Hid (b.rs.length = b.xs.length) := Lib.hid (by unfold Bk.rs; rw [List.length_map])
  rw [HRL.out] at h10
  have HGT : Hid (∀ k, k < b.xs.length → b.rs.getD k rc0 = (b.xs.getD k rcA0).R) := Lib.hid (fun k hk => by
    unfold Bk.rs
    rw [List.getD_eq_getElem?_getD, List.getD_eq_getElem?_getD, List.getElem?_map, List.getElem?_eq_getElem hk]
    rfl)
  have HMEM : Hid (∀ k, k < b.xs.length → b.rs.getD k rc0 ∈ b.rs) := Lib.hid (fun k hk => by
    rw [List.getD_eq_getElem?_getD, List.getElem?_eq_getElem (by rw [HRL.out]; exact hk)]
    exact List.getElem_mem _)
  generalize hZ : benc b.rs = Z at *
  have EB := Lib.hid hZ
  clear iM hlaid wb hok hZ
  have B1 := Lib.hid (Below.refl w.heap.size w)
  have T2n := BoAt.new w (.slice b.A b.xs.length b.c)
  have T2 := Lib.hid T2n
  clear T2n
  have B3 := Lib.hid (B1.out.alloc B1.out.size (.cells #[(.slice b.A b.xs.length b.c)] 24))
  have F4 := Lib.hid (Fb.out.below B3.out (Nat.le_refl _))
  go_enter Tryz.func9, Tryz.ntmps9
  have C5 := Lib.hid (caAwake (w.alloc (.cells #[(.slice b.A b.xs.length b.c)] 24)) (HLA.out _ B3.out))
  go_wp2_with fail
  refine C5.out.mono ?_
  rintro e w6 ⟨rfl, hb7⟩
  have T8 := Lib.hid (T2.out.below hb7 T2.out.lt)
  have F9 := Lib.hid (F4.out.below hb7 (Nat.le_refl _))
  have B10 := Lib.hid (B3.out.trans (hb7.mono B3.out.size))
  clear hb7
  have M18 := Lib.hid (T8.out.load)
  have c19 := put_book b w6 F9.out
  unfold PutPost GivesT at c19
  simp only [MB.out, if_true] at c19
  rw [EB.out] at c19
  have C20 := Lib.hid (c19)
  clear c19
  go_wp2_with (first | ((with_reducible refine wpList_load_by (o := ⟨some 11, .load 24 (.tmp 1), _, _, _, _⟩) ?e1 24 (.tmp 1) ?e2 ⟨w.heap.size, 0, none⟩ ?e3 _ M18.out ?_); (case e1 => rfl); (case e2 => rfl); (case e3 => rfl)))
  refine C20.out.mono ?_
  rintro e w21 ⟨A11, n12, k13, rfl, h14, h15, h16, h17, hb22⟩
  have T23 := Lib.hid (T8.out.below hb22 T8.out.lt)
  have F24 := Lib.hid (F9.out.below hb22 (Nat.le_refl _))
  have B25 := Lib.hid (B10.out.trans (hb22.mono B10.out.size))
  clear hb22
  have N26 := Lib.hid (h14)
  have N27 := Lib.hid (h15)
  have N28 := Lib.hid (h16)
  have Y29 := Lib.hid (BsAt.own h17)
  clear h14 h15 h16 h17
  have c0 := T23.out.c0
  obtain ⟨q1, q2, q3, q4, q5⟩ := F24.out
  simp only [maxLen] at q2
  have HCELL := Lib.hid q4
  have HRV := Lib.hid (fun k hk => RsAt.rv F24.out (i := k) hk)
  have hbs : b.c ≤ 9223372036854775807 := q2
  generalize hlen : b.xs.length = len at *
  have HLN := Lib.hid hlen
  clear q2 q3 q4 q5 hlen
  go_wp2
  go_loop [6, 7] (fun v i => ∃ k : Nat, k ≤ len ∧ i = .int .i64 k ∧ v = .int .i64 (msum (b.rs.take k) : Nat)) (fun _ i => len - (intOf i).toNat)
  case atStart => exact ⟨0, Nat.zero_le _, rfl, rfl⟩
  case round =>
    obtain ⟨k, hk, rfl, rfl⟩ := hrel
    have hM : msum (b.rs.take k) ≤ 30000 := by
      have h1 := rsum_max (X := b.rs.take k) fun R hR => HAL.out R (List.mem_of_mem_take hR)
      have h2 := List.length_take (i := k) (l := b.rs)
      have h3 : (b.rs.take k).length * 2100 ≤ 10 * 2100 := Nat.mul_le_mul_right _ (by have := HRL.out; omega)
      unfold msum
      omega
    by_cases hlt : k < len
    · obtain ⟨b0, off, hA, hb0, hcc⟩ := HCELL.out (by omega)
      have hrec := hcc k hlt
      have hix := ix_rec b0 off len b.c k hlt k rfl
      have HX := HRV.out k hlt
      have HNX : Hid (msum (b.rs.take (k + 1)) = msum (b.rs.take k) + 25 + (((b.xs.getD k rcA0).R.fs.take (b.xs.getD k rcA0).R.fs.length).map fsum).sum) := Lib.hid (by
        unfold msum
        rw [sum_take_succ (d := rc0) (by rw [HRL.out]; exact hlt), HGT.out k hlt, List.take_length]
        unfold rsum
        omega)
      have hmx := HAL.out _ (HMEM.out k hlt)
      rw [HGT.out k hlt] at hmx
      generalize b.xs.getD k rcA0 = x at *
      have x18 := hrec.c18
      have h8 := (may_fs hmx).2.1
      have HFM := Lib.hid (fun q => fsum_max hmx q)
      have HFC := Lib.hid (may_fs hmx).2.2
      have HF := Lib.hid HX.2
      generalize hfs : x.R.fs = fs at *
      generalize msum (b.rs.take k) = M at *
      rw [hA]
      generalize hfl : fs.length = fl at *
      have HFL := Lib.hid hfl
      clear hcc hrec HX hmx hfs hfl
      go_wp2
      go_loop [6, 8] (fun v j => ∃ q : Nat, q ≤ fl ∧ j = .int .i64 q ∧ v = .int .i64 ((M + 25 + ((fs.take q).map fsum).sum : Nat) : Int)) (fun _ j => fl - (intOf j).toNat)
      case atStart => exact ⟨0, Nat.zero_le _, rfl, by simp⟩
      case round =>
        obtain ⟨q, hq, rfl, rfl⟩ := hrel
        have hN := HFM.out q
        by_cases hqt : q < fl
        · obtain ⟨_, hxm, _, h4⟩ := HF.out
          obtain ⟨b1, off1, hA1, hb1, hc1⟩ := h4 (by rw [HFL.out]; omega)
          obtain ⟨_, _, _, c3⟩ := hc1 q (by rw [HFL.out]; exact hqt)
          have hix1 := ix_fld b1 off1 fl x.c q hqt q rfl
          have hcv := HFC.out (fs.getD q fld0) (by rw [List.getD_eq_getElem?_getD, List.getElem?_eq_getElem (by rw [HFL.out]; exact hqt)]; exact List.getElem_mem _)
          have hsz := (cmay_iff.1 hcv.2.2).2.2
          have HN2 : Hid (((fs.take (q + 1)).map fsum).sum = ((fs.take q).map fsum).sum + 12 + (fs.getD q fld0).c.s.size) := Lib.hid (by
            rw [sum_take_succ (d := fld0) (by rw [HFL.out]; exact hqt)]
            unfold fsum
            omega)
          generalize fs.getD q fld0 = f at *
          generalize ((fs.take q).map fsum).sum = N at *
          generalize hO : M + 25 + N = O at *
          have hO' : O ≤ 40000 := by omega
          rw [hA1] at x18
          have c3' : (w21).cell? ⟨b1, off1 + q * 4 + 1 + 2, none⟩ = some (.string f.c.s) := c3
          have HO := Lib.hid hO
          clear hO h4 hc1 hcv hxm
          go_wp2
          go_round
          case rel => exact ⟨q + 1, by omega, by go_num, by rw [HN2.out, show M + 25 + (N + 12 + f.c.s.size) = O + 12 + f.c.s.size by have := HO.out; omega]; go_num⟩
          case measure => simp [intOf]; omega
        · obtain rfl : q = fl := by omega
          have t1 : ¬ (q : Int) < (q : Int) := by omega
          go_wp2
          go_round
          case rel => exact ⟨k + 1, by omega, by go_num, by rw [HNX.out]⟩
          case measure => simp [intOf]; omega
    · obtain rfl : k = len := by omega
      have t1 : ¬ (k : Int) < (k : Int) := by omega
      obtain ⟨f1, f2, f3⟩ := HFT.out
      rw [← List.take_length (l := b.rs), HRL.out] at f1
      have hn := N26.out
      obtain ⟨y0, yo, hYA, _, hyc⟩ := Y29.out.1 (fun e => by rw [e] at f3; simp at f3)
      have d0 := hyc 0 f3
      rw [Nat.add_zero, f2, HRL.out] at d0
      have hix0 := ix_at y0 yo n12 k13 0 (by omega) 0 rfl
      rw [Nat.add_zero] at hix0
      have hcv : IntKind.i64.wrap (k : Int) = (k : Int) := IntWalk.i64_in _ (by omega)
      generalize msum (b.rs.take k) = M at *
      have t2 : ((n12 : Nat) : Int) ≤ (M : Int) := by omega
      have T2 := Lib.hid (decide_eq_true t2)
      rw [hYA]
      clear f1 f2 f3 hyc HFT HAL HGT HMEM HCELL HRV
      go_wp2_with fail
      have D0 := Lib.hid d0
      have YLT : Hid (y0 < w21.heap.size) := Lib.hid (by
        rcases Nat.lt_or_ge y0 w21.heap.size with h1 | h1
        · exact h1
        · have h2 := D0.out
          rw [World.cell?, Array.getElem?_eq_none h1] at h2
          cases h2)
      clear d0 c0
      refine wp_region_G w21 (by kernel_rfl) ?_
      refine wpG_take (i := 0) (oi := ⟨some 65, _, _, _, _, _⟩) (v := ?_) rfl (by kernel_rfl) (by kernel_rfl) (by kernel_rfl) (Or.inl ⟨by rfl, unib_val ?_⟩) ?_; rotate_left; (focus (intro w9 hSw; go_simp; try with_reducible rfl)); simp only [Act.put, List.setIfInBounds_toArray, List.set_cons_zero, List.set_cons_succ]
      refine wpG_take (i := 1) (oi := ⟨some 66, _, _, _, _, _⟩) (v := ?_) rfl (by kernel_rfl) (by kernel_rfl) (by kernel_rfl) (Or.inl ⟨by rfl, unib_val ?_⟩) ?_; rotate_left; (focus (intro w9 hSw; go_simp; try with_reducible rfl)); simp only [Act.put, List.setIfInBounds_toArray, List.set_cons_zero, List.set_cons_succ]
      refine wpG_take (i := 2) (oi := ⟨some 67, _, _, _, _, _⟩) (v := ?_) rfl (by kernel_rfl) (by kernel_rfl) (by kernel_rfl) (Or.inl ⟨by rfl, unib_val ?_⟩) ?_; rotate_left; (focus (intro w9 hSw; go_simp; try with_reducible rfl)); simp only [Act.put, List.setIfInBounds_toArray, List.set_cons_zero, List.set_cons_succ]
      refine wpG_take (i := 3) (oi := ⟨some 68, _, _, _, _, _⟩) (v := (.bool true)) rfl (by kernel_rfl) (by kernel_rfl) (by kernel_rfl) (Or.inl ⟨by rfl, unib_val ?_⟩) ?_; (focus (intro w9 hSw; have q0 := T2.out; first | (go_simp; done) | (go_simp; omega) | (simp [go_sem, execOp, q0]; done))); simp only [Act.put, List.setIfInBounds_toArray, List.set_cons_zero, List.set_cons_succ]
      refine wpG_take (i := 4) (oi := ⟨some 69, _, _, _, _, _⟩) (v := ?_) rfl (by kernel_rfl) (by kernel_rfl) (by kernel_rfl) (Or.inl ⟨by rfl, unib_val ?_⟩) ?_; rotate_left; (focus (intro w9 hSw; go_simp; try with_reducible rfl)); simp only [Act.put, List.setIfInBounds_toArray, List.set_cons_zero, List.set_cons_succ]
      refine wpG_take (i := 5) (oi := ⟨some 70, _, _, _, _, _⟩) (v := ?_) rfl (by kernel_rfl) (by kernel_rfl) (by kernel_rfl) (Or.inl ⟨by rfl, unib_val ?_⟩) ?_; rotate_left; (focus (intro w9 hSw; go_simp; try with_reducible rfl)); simp only [Act.put, List.setIfInBounds_toArray, List.set_cons_zero, List.set_cons_succ]
      refine wpG_take (i := 6) (oi := ⟨some 71, _, _, _, _, _⟩) (v := ?_) rfl (by kernel_rfl) (by kernel_rfl) (by kernel_rfl) (Or.inl ⟨by rfl, unib_val ?_⟩) ?_; rotate_left; (focus (intro w9 hSw; go_simp; try with_reducible rfl)); simp only [Act.put, List.setIfInBounds_toArray, List.set_cons_zero, List.set_cons_succ]
      refine wpG_take (i := 7) (oi := ⟨some 72, _, _, _, _, _⟩) (v := (.int .u8 (k : Int))) rfl (by kernel_rfl) (by kernel_rfl) (by kernel_rfl) (Or.inl ⟨by rfl, unib_val ?_⟩) ?_; (focus (intro w9 hSw; have q0 := (Below.cell hSw (p := ⟨y0, yo, none⟩) YLT.out).trans D0.out; go_simp; try rfl)); simp only [Act.put, List.setIfInBounds_toArray, List.set_cons_zero, List.set_cons_succ]
      refine wpG_take (i := 8) (oi := ⟨some 73, _, _, _, _, _⟩) (v := ?_) rfl (by kernel_rfl) (by kernel_rfl) (by kernel_rfl) (Or.inl ⟨by rfl, unib_val ?_⟩) ?_; rotate_left; (focus (intro w9 hSw; go_simp; try with_reducible rfl)); simp only [Act.put, List.setIfInBounds_toArray, List.set_cons_zero, List.set_cons_succ]
      refine wpG_take (i := 9) (oi := ⟨some 74, _, _, _, _, _⟩) (v := ?_) rfl (by kernel_rfl) (by kernel_rfl) (by kernel_rfl) (Or.inl ⟨by rfl, unib_val ?_⟩) ?_; rotate_left; (focus (intro w9 hSw; go_simp; try with_reducible rfl)); simp only [Act.put, List.setIfInBounds_toArray, List.set_cons_zero, List.set_cons_succ]
      refine wpG_take (i := 10) (oi := ⟨some 75, _, _, _, _, _⟩) (v := (.slice b.A k b.c)) rfl (by kernel_rfl) (by kernel_rfl) (by kernel_rfl) (Or.inl ⟨by rfl, unib_val ?_⟩) ?_; (focus (intro w9 hSw; have q0 := (T23.out.below hSw T23.out.lt).c0; go_simp; try rfl)); simp only [Act.put, List.setIfInBounds_toArray, List.set_cons_zero, List.set_cons_succ]
      refine wpG_take (i := 11) (oi := ⟨some 76, _, _, _, _, _⟩) (v := ?_) rfl (by kernel_rfl) (by kernel_rfl) (by kernel_rfl) (Or.inl ⟨by rfl, unib_val ?_⟩) ?_; rotate_left; (focus (intro w9 hSw; go_simp; try with_reducible rfl)); simp only [Act.put, List.setIfInBounds_toArray, List.set_cons_zero, List.set_cons_succ]
      refine wpG_take (i := 12) (oi := ⟨some 77, _, _, _, _, _⟩) (v := ?_) rfl (by kernel_rfl) (by kernel_rfl) (by kernel_rfl) (Or.inl ⟨by rfl, unib_val ?_⟩) ?_; rotate_left; (focus (intro w9 hSw; go_simp; try with_reducible rfl)); simp only [Act.put, List.setIfInBounds_toArray, List.set_cons_zero, List.set_cons_succ]
      refine wpG_take (i := 13) (oi := ⟨some 78, _, _, _, _, _⟩) (v := ?_) rfl (by kernel_rfl) (by kernel_rfl) (by kernel_rfl) (Or.inl ⟨by rfl, unib_val ?_⟩) ?_; rotate_left; (focus (intro w9 hSw; go_simp; try with_reducible rfl)); simp only [Act.put, List.setIfInBounds_toArray, List.set_cons_zero, List.set_cons_succ]
      refine wpG_take (i := 14) (oi := ⟨some 2, _, _, _, _, _⟩) (v := ?_) rfl (by kernel_rfl) (by kernel_rfl) (by kernel_rfl) (Or.inl ⟨by rfl, unib_val ?_⟩) ?_; rotate_left; (focus (intro w9 hSw; go_simp; try with_reducible rfl)); simp only [Act.put, List.setIfInBounds_toArray, List.set_cons_zero, List.set_cons_succ]
      refine wpG_done (by kernel_rfl) ?_ _
      intro w9 hSw _
      go_wp2
      go_ret
      exact ⟨rfl, B25.out.trans (hSw.mono B25.out.size)⟩
set_option maxHeartbeats 8000000 in
theorem walk_canonLong (b : Bk) (w : World) (hlaid : Laid w) (wb : BkAt w b) :
    Calls Tryz.prog 9 #[.agg #[.slice b.A b.xs.length b.c]] w fun e w' => e = .returned (.bool true) ∧ Below w.heap.size w w' := by
  cases m : bmay b.rs
  · exact clong_no b w hlaid wb m
  · exact clong_yes b w hlaid wb m
end Go.Proofs.YtcmknbdeafcknaaGreatDoor

