import Derived.Test.YtcmknbdeafcknaaDoorGStR
import Derived.Test.YtcmknbdeafcknaaDoorGBase
import Derived.Test.YtcmknbdeafcknaaDoorGShaR
import Derived.Test.YtcmknbdeafcknaaDoorGCl
import Derived.Test.YtcmknbdeafcknaaDoorGBkMath
import Derived.Test.YtcmknbdeafcknaaDoorGUni
section
/-
  The document's own May of cells.
-/
namespace Go.Proofs.YtcmknbdeafcknaaDoor
open Go.RowKit WM
set_option linter.unusedVariables false
set_option maxRecDepth 20000
set_option maxHeartbeats 1000000 in
theorem rcmay_any (c : Cel) (w : World) : Calls Tryd.prog 25 #[c.v] w fun e w' => e = .returned (.bool (cmay c)) ∧ Below w.heap.size w w' := by
  have HC := Lib.hid (rdmay_any c.n c.r)
  have S0 := Lib.hid (ClAt.new w c)
  have HB := Lib.hid ((((Below.refl w.heap.size w).alloc (Nat.le_refl _) (.cells #[.int .i64 c.n, .int .i64 c.r, .string c.s] 32))))
  unfold Cel.v
  cases hm : may c.n c.r
  · have HV := Lib.hid (show cmay c = false by simp [cmay, hm])
    rw [hm] at HC
    unfold st at HC
    clear hm
    go_enter Tryd.func25, Tryd.ntmps25
    go_wp2_with fail
    refine (HC.out _).mono ?_
    rintro e w1 ⟨rfl, hb1⟩
    have bw := Lib.hid (HB.out.trans (hb1.mono HB.out.size))
    clear hb1
    go_wp2
    go_ret
    exact ⟨by rw [HV.out]; rfl, bw.out⟩
  · rw [hm] at HC
    have hmay := may_iff.1 hm
    by_cases h0 : 1 ≤ c.n
    · have t1 : 0 < c.n := by omega
      have HV := Lib.hid (show cmay c = decide ((c.s.size : Int) ≤ 200) by simp [cmay, hm, h0]; omega)
      unfold st at HC
      clear hm hmay
      go_enter Tryd.func25, Tryd.ntmps25
      go_wp2_with fail
      refine (HC.out _).mono ?_
      rintro e w1 ⟨rfl, hb1⟩
      have bw := Lib.hid (HB.out.trans (hb1.mono HB.out.size))
      have s0 := S0.out.below hb1 S0.out.lt
      have a0 := s0.c0
      have a1 := s0.c1
      have a2 := s0.c2
      clear hb1 s0
      go_wp2
      go_ret
      exact ⟨by rw [HV.out]; rfl, bw.out⟩
    · have t1 : ¬ 0 < c.n := by omega
      have HV := Lib.hid (show cmay c = false by simp [cmay, h0])
      unfold st at HC
      clear hm hmay h0
      go_enter Tryd.func25, Tryd.ntmps25
      go_wp2_with fail
      refine (HC.out _).mono ?_
      rintro e w1 ⟨rfl, hb1⟩
      have bw := Lib.hid (HB.out.trans (hb1.mono HB.out.size))
      have s0 := S0.out.below hb1 S0.out.lt
      have a0 := s0.c0
      have a1 := s0.c1
      have a2 := s0.c2
      clear hb1 s0
      go_wp2
      go_ret
      exact ⟨by rw [HV.out]; rfl, bw.out⟩
/-! ### Less -/
end Go.Proofs.YtcmknbdeafcknaaDoor

end
section
/-
  What the document's own May, Less and Join of cells answer. Nothing that was there is written.
-/
namespace Go.Proofs.YtcmknbdeafcknaaDoor
open Go.RowKit WM
set_option linter.unusedVariables false
set_option maxRecDepth 20000
theorem same_pair' {n r m s : Int} (w : World) : (Op.equalIn 10000 25 (.agg #[.int .i64 n, .int .i64 r]) (.agg #[.int .i64 m, .int .i64 s])).run Tryd.prog w = .ok (decide (n = m ∧ r = s)) w := by
  by_cases h1 : n = m
  · subst h1
    by_cases h2 : r = s
    · subst h2
      go_simp
    · go_simp
  · go_simp
def z32 : List Int := List.replicate 32 0
theorem z32_len : z32.length = 32 := by rw [z32, List.length_replicate]
theorem zeroD' (w : World) : (zeroValue 60).run Tryd.prog w = .ok (.agg (bvals z32)) w := zeroD w
theorem putDig (w : World) (c c' : Array Value) : (w.alloc (.cells c 60)).setRow w.heap.size c' = w.alloc (.cells c' 60) := World.setRow_alloc_new w _ _ _
theorem wpList_store_dig {w : World} {ops : Array Oper} {rest : List Oper} {o : Oper} {a : Act} {Q : Exit → Act → World → Prop} (hgd : o.guard = none) (x y : Operand) (hop : o.op = .store 60 x y)
    (b : Nat) (hb : b = w.heap.size) (hx : a.eval x = .pointer (some ⟨b, 0, none⟩)) (l : List Int) (hl : l.length = 32) (hy : a.eval y = .agg (bvals l))
    (hK : ∀ w', Below w.heap.size w w' → BRow w' b 60 l → wpList Tryd.prog ops Q rest (a.put o.dst undef) w') : wpList Tryd.prog ops Q (o :: rest) a (w.alloc (.cells (bvals z32) 60)) := by
  subst hb
  refine wpList_store_row hgd 60 x y hop w.heap.size (bvals l) hx hy 60 _ (heap_alloc_new w _) (by rw [sizeD, bvals_size, hl]) (by rw [bvals_size, bvals_size, hl, z32_len]) (bvals_one l) ?_
  rw [putDig]
  exact hK _ ((Below.refl w.heap.size w).alloc (Nat.le_refl _) _) (BRow.new w _ l)
theorem load_dig {w : World} {b : Nat} {l : List Int} (h : BRow w b 60 l) (hl : l.length = 32) : (loadVar 60 ⟨b, 0, none⟩).run Tryd.prog w = .ok (.agg (bvals l)) w :=
  run_loadVar_row w b 60 60 _ (0, 0) _ h Tryd.underlying60 rfl (by rw [sizeD, bvals_size, hl])
theorem ix_str (s : ByteArray) (k : Nat) (hk : k < (nums s).length) (K : Int) (e : K = k) (w : World) : (Instr.index 9 (.string s) (.int .i64 K)).run Tryd.prog w = .ok (.int .u8 ((nums s).getD k 0)) w := by
  subst e
  have hs : k < s.size := by rw [nums_len] at hk; exact hk
  have hd : k < s.data.toList.length := by rw [Array.length_toList]; exact hs
  rw [run_index_string (P := Tryd.prog) w 9 s .i64 k Tryd.underlying9]
  simp [nums, List.getD, hs]
  rfl
theorem lessL_self' (xs : List Int) : lessL xs xs = false := lessL_self xs
theorem less_step {xs ys : List Int} {k : Nat} (h1 : k < xs.length) (h2 : k < ys.length) : lessL (xs.drop k) (ys.drop k) = (decide (xs.getD k 0 < ys.getD k 0) || (xs.getD k 0 == ys.getD k 0 && lessL (xs.drop (k + 1)) (ys.drop (k + 1)))) := by
  rw [drop_at h1, drop_at h2, lessL]
set_option maxHeartbeats 8000000 in
theorem rcless_any (a b : Cel) (w : World) (ha : a.s.size ≤ 300) (hb : b.s.size ≤ 300) : Calls Tryd.prog 33 #[a.v, b.v] w fun e w' => e = .returned (.bool (cless a b)) ∧ Below w.heap.size w w' := by
  have S0 := Lib.hid ((ClAt.new w a).old (.cells #[.int .i64 b.n, .int .i64 b.r, .string b.s] 32))
  have s1 := ClAt.new (w.alloc (.cells #[.int .i64 a.n, .int .i64 a.r, .string a.s] 32)) b
  rw [World.size_alloc] at s1
  have S1 := Lib.hid s1
  have HB := Lib.hid (((Below.refl w.heap.size w).alloc (Nat.le_refl _) (.cells #[.int .i64 a.n, .int .i64 a.r, .string a.s] 32)).alloc (by simp) (.cells #[.int .i64 b.n, .int .i64 b.r, .string b.s] 32))
  conv => congr; rfl; rfl; (unfold Cel.v)
  clear s1
  by_cases hst : a.n = b.n ∧ a.r = b.r
  · have hz := zeroD'
    have e1 : stLess a.n a.r b.n b.r = false := by rw [st_no]; omega
    have e2 : stLess b.n b.r a.n a.r = false := by rw [st_no]; omega
    have HV : Hid (cless a b = (if lessL (SH.sum (nums a.s)) (SH.sum (nums b.s)) then true else if lessL (SH.sum (nums b.s)) (SH.sum (nums a.s)) then false else lessL (nums a.s) (nums b.s))) := Lib.hid (by
      unfold cless
      rw [e1, e2]
      simp only [Bool.false_eq_true, if_false])
    have HOA := Lib.hid (fun (X : World) => rof_dig a.s X (by omega))
    have HOB := Lib.hid (fun (X : World) => rof_dig b.s X (by omega))
    unfold DSumPost at HOA HOB
    have LA := Lib.hid (SH.sum_len (nums a.s))
    have LB := Lib.hid (SH.sum_len (nums b.s))
    have hea := eq_dig (SH.sum_bytes (nums a.s)) (SH.sum_bytes (nums b.s)) LA.out LB.out
    have HRL := Lib.hid (fun (X : World) => rless_dig (SH.sum (nums a.s)) (SH.sum (nums b.s)) X (SH.sum_bytes _) (SH.sum_bytes _) LA.out LB.out)
    have hsn := @same_pair' a.n a.r b.n b.r
    rw [decide_eq_true hst] at hsn
    obtain ⟨x, hx⟩ : ∃ x, SH.sum (nums a.s) = x := ⟨_, rfl⟩
    obtain ⟨y, hy⟩ : ∃ y, SH.sum (nums b.s) = y := ⟨_, rfl⟩
    rw [hx] at HOA LA hea HRL HV
    rw [hy] at HOB LB hea HRL HV
    clear hst e1 e2 hx hy ha
    generalize cless a b = V at HV ⊢
    go_enter Tryd.func33, Tryd.ntmps33
    go_wp2_with fail
    refine (HOA.out _).mono ?_
    rintro e w1 ⟨rfl, hb1⟩
    have B1 := Lib.hid (HB.out.trans (hb1.mono HB.out.size))
    have P0 := Lib.hid (S0.out.below hb1 S0.out.lt)
    have P1 := Lib.hid (S1.out.below hb1 S1.out.lt)
    clear hb1
    go_wp2_with (first | ((with_reducible refine wpList_store_dig (o := ⟨none, .store 60 (.tmp 6) (.tmp 23), _, _, _, _⟩) (w := w1) ?e1 (.tmp 6) (.tmp 23) ?e2 w1.heap.size rfl ?e3 x LA.out ?e4 ?_); (case e1 => rfl); (case e2 => rfl); (case e3 => rfl); (case e4 => rfl); intro w2 hb2 hr2; have B2 := Lib.hid (B1.out.trans (hb2.mono B1.out.size)); have Q0 := Lib.hid (P0.out.below hb2 P0.out.lt); have Q1 := Lib.hid (P1.out.below hb2 P1.out.lt); have RX := Lib.hid hr2; have k2 := Q1.out.c2; clear hb2 hr2))
    refine (HOB.out _).mono ?_
    rintro e w3 ⟨rfl, hb3⟩
    have B3 := Lib.hid (B2.out.trans (hb3.mono B2.out.size))
    have R0 := Lib.hid (Q0.out.below hb3 Q0.out.lt)
    have R1 := Lib.hid (Q1.out.below hb3 Q1.out.lt)
    have RX3 := Lib.hid (RX.out.below hb3 RX.out.lt)
    clear hb3 k2
    cases hne : (x == y)
    · rw [hne] at hea
      have HT : Hid (V = lessL x y) := Lib.hid (by
        rw [HV.out]
        cases h1 : lessL x y
        · cases h2 : lessL y x
          · rw [lessL_total h1 h2] at hne
            simp at hne
          · rfl
        · rfl)
      clear hne
      go_wp2_with (first | ((with_reducible refine wpList_store_dig (o := ⟨none, .store 60 (.tmp 7) (.tmp 26), _, _, _, _⟩) (w := w3) ?e1 (.tmp 7) (.tmp 26) ?e2 w3.heap.size rfl ?e3 y LB.out ?e4 ?_); (case e1 => rfl); (case e2 => rfl); (case e3 => rfl); (case e4 => rfl); intro w4 hb4 hr4; have B4 := Lib.hid (B3.out.trans (hb4.mono B3.out.size)); have LX := Lib.hid (load_dig (RX3.out.below hb4 RX3.out.lt) LA.out); have LY := Lib.hid (load_dig hr4 LB.out); clear hb4 hr4) | ((with_reducible refine wpList_load_by (o := ⟨some 27, .load 60 (.tmp 6), _, _, _, _⟩) ?e1 60 (.tmp 6) ?e2 ⟨w1.heap.size, 0, none⟩ ?e3 _ LX.out ?_); (case e1 => rfl); (case e2 => rfl); (case e3 => rfl)) | ((with_reducible refine wpList_load_by (o := ⟨some 28, .load 60 (.tmp 7), _, _, _, _⟩) ?e1 60 (.tmp 7) ?e2 ⟨w3.heap.size, 0, none⟩ ?e3 _ LY.out ?_); (case e1 => rfl); (case e2 => rfl); (case e3 => rfl)) | ((with_reducible refine wpList_load_by (o := ⟨some 30, .load 60 (.tmp 6), _, _, _, _⟩) ?e1 60 (.tmp 6) ?e2 ⟨w1.heap.size, 0, none⟩ ?e3 _ LX.out ?_); (case e1 => rfl); (case e2 => rfl); (case e3 => rfl)) | ((with_reducible refine wpList_load_by (o := ⟨some 31, .load 60 (.tmp 7), _, _, _, _⟩) ?e1 60 (.tmp 7) ?e2 ⟨w3.heap.size, 0, none⟩ ?e3 _ LY.out ?_); (case e1 => rfl); (case e2 => rfl); (case e3 => rfl)))
      refine (HRL.out _).mono ?_
      rintro e w5 ⟨rfl, hb5⟩
      have B5 := Lib.hid (B4.out.trans (hb5.mono B4.out.size))
      clear hb5
      go_wp2
      go_ret
      exact ⟨by rw [HT.out]; rfl, B5.out⟩
    · rw [hne] at hea
      have hxy : x = y := by simpa using hne
      have HT : Hid (V = lessL ((nums a.s).drop 0) ((nums b.s).drop 0)) := Lib.hid (by
        rw [HV.out, hxy, lessL_self]
        rfl)
      clear hne hxy
      go_wp2_with (first | ((with_reducible refine wpList_store_dig (o := ⟨none, .store 60 (.tmp 7) (.tmp 26), _, _, _, _⟩) (w := w3) ?e1 (.tmp 7) (.tmp 26) ?e2 w3.heap.size rfl ?e3 y LB.out ?e4 ?_); (case e1 => rfl); (case e2 => rfl); (case e3 => rfl); (case e4 => rfl); intro w4 hb4 hr4; have B4 := Lib.hid (B3.out.trans (hb4.mono B3.out.size)); have U0 := Lib.hid (R0.out.below hb4 R0.out.lt); have U1 := Lib.hid (R1.out.below hb4 R1.out.lt); have LX := Lib.hid (load_dig (RX3.out.below hb4 RX3.out.lt) LA.out); have LY := Lib.hid (load_dig hr4 LB.out); clear hb4 hr4) | ((with_reducible refine wpList_load_by (o := ⟨some 27, .load 60 (.tmp 6), _, _, _, _⟩) ?e1 60 (.tmp 6) ?e2 ⟨w1.heap.size, 0, none⟩ ?e3 _ LX.out ?_); (case e1 => rfl); (case e2 => rfl); (case e3 => rfl)) | ((with_reducible refine wpList_load_by (o := ⟨some 28, .load 60 (.tmp 7), _, _, _, _⟩) ?e1 60 (.tmp 7) ?e2 ⟨w3.heap.size, 0, none⟩ ?e3 _ LY.out ?_); (case e1 => rfl); (case e2 => rfl); (case e3 => rfl)))
      have NA := nums_len a.s
      have NB := nums_len b.s
      have NBA := nums_bytes a.s
      have NBB := nums_bytes b.s
      have HNA := Lib.hid NA
      have HNB := Lib.hid NB
      clear NA NB
      go_loopw [9] (fun i wr => ∃ k : Nat, k ≤ b.s.size ∧ i = .int .i64 k ∧ ClAt wr w.heap.size a ∧ ClAt wr (w.heap.size + 1) b ∧ Below w.heap.size w wr ∧ V = lessL ((nums a.s).drop k) ((nums b.s).drop k)) (fun i _ => b.s.size - (intOf i).toNat)
      case atStart => exact ⟨0, Nat.zero_le _, rfl, U0.out, U1.out, B4.out, HT.out⟩
      case round =>
        obtain ⟨k, hk, rfl, h0, h1, hbw, hf⟩ := hrel
        have S0 := Lib.hid h0
        have S1 := Lib.hid h1
        have BW := Lib.hid hbw
        have a2 := h0.c2
        have b2 := h1.c2
        clear h0 h1 hbw
        by_cases hlt : k < b.s.size
        · have hkb : k < (nums b.s).length := by rw [HNB.out]; exact hlt
          by_cases hla : k < a.s.size
          · have hka : k < (nums a.s).length := by rw [HNA.out]; exact hla
            have IXA := Lib.hid (ix_str a.s k hka k rfl)
            have IXB := Lib.hid (ix_str b.s k hkb k rfl)
            rw [less_step hka hkb] at hf
            have t1 : ¬ (a.s.size : Int) ≤ (k : Int) := by omega
            clear hka hkb
            generalize (nums a.s).getD k 0 = p at IXA hf
            generalize (nums b.s).getD k 0 = q at IXB hf
            by_cases hpq : p = q
            · subst hpq
              have HXY := Lib.hid (rfl : p = p)
              have HF : Hid (V = lessL ((nums a.s).drop (k + 1)) ((nums b.s).drop (k + 1))) := Lib.hid (by rw [hf]; simp)
              clear hf
              go_wp2_with fail
              refine wp_region_G _ (by kernel_rfl) ?_
              refine wpG_take (i := 0) (oi := ⟨some 46, _, _, _, _, _⟩) (v := ?_) rfl (by kernel_rfl) (by kernel_rfl) (by kernel_rfl) (Or.inl ⟨by rfl, unib_val ?_⟩) ?_; rotate_left; (focus (intro w9 hSw; go_simp; try with_reducible rfl)); simp only [Act.put, List.setIfInBounds_toArray, List.set_cons_zero, List.set_cons_succ]
              refine wpG_take (i := 1) (oi := ⟨some 47, _, _, _, _, _⟩) (v := ?_) rfl (by kernel_rfl) (by kernel_rfl) (by kernel_rfl) (Or.inl ⟨by rfl, unib_val ?_⟩) ?_; rotate_left; (focus (intro w9 hSw; have q9 := S0.out.below hSw S0.out.lt; have q2 := q9.c2; go_simp; try with_reducible rfl)); simp only [Act.put, List.setIfInBounds_toArray, List.set_cons_zero, List.set_cons_succ]
              refine wpG_take (i := 2) (oi := ⟨some 48, _, _, _, _, _⟩) (v := ?_) rfl (by kernel_rfl) (by kernel_rfl) (by kernel_rfl) (Or.inl ⟨by rfl, unib_val ?_⟩) ?_; rotate_left; (focus (intro w9 hSw; go_simp; try with_reducible rfl)); simp only [Act.put, List.setIfInBounds_toArray, List.set_cons_zero, List.set_cons_succ]
              refine wpG_take (i := 3) (oi := ⟨some 49, _, _, _, _, _⟩) (v := ?_) rfl (by kernel_rfl) (by kernel_rfl) (by kernel_rfl) (Or.inl ⟨by rfl, unib_val ?_⟩) ?_; rotate_left; (focus (intro w9 hSw; have q0 := IXA.out w9; go_simp; try with_reducible rfl)); simp only [Act.put, List.setIfInBounds_toArray, List.set_cons_zero, List.set_cons_succ]
              refine wpG_take (i := 4) (oi := ⟨some 50, _, _, _, _, _⟩) (v := ?_) rfl (by kernel_rfl) (by kernel_rfl) (by kernel_rfl) (Or.inl ⟨by rfl, unib_val ?_⟩) ?_; rotate_left; (focus (intro w9 hSw; go_simp; try with_reducible rfl)); simp only [Act.put, List.setIfInBounds_toArray, List.set_cons_zero, List.set_cons_succ]
              refine wpG_take (i := 5) (oi := ⟨some 51, _, _, _, _, _⟩) (v := ?_) rfl (by kernel_rfl) (by kernel_rfl) (by kernel_rfl) (Or.inl ⟨by rfl, unib_val ?_⟩) ?_; rotate_left; (focus (intro w9 hSw; have q9 := S1.out.below hSw S1.out.lt; have q2 := q9.c2; go_simp; try with_reducible rfl)); simp only [Act.put, List.setIfInBounds_toArray, List.set_cons_zero, List.set_cons_succ]
              refine wpG_take (i := 6) (oi := ⟨some 52, _, _, _, _, _⟩) (v := ?_) rfl (by kernel_rfl) (by kernel_rfl) (by kernel_rfl) (Or.inl ⟨by rfl, unib_val ?_⟩) ?_; rotate_left; (focus (intro w9 hSw; go_simp; try with_reducible rfl)); simp only [Act.put, List.setIfInBounds_toArray, List.set_cons_zero, List.set_cons_succ]
              refine wpG_take (i := 7) (oi := ⟨some 53, _, _, _, _, _⟩) (v := ?_) rfl (by kernel_rfl) (by kernel_rfl) (by kernel_rfl) (Or.inl ⟨by rfl, unib_val ?_⟩) ?_; rotate_left; (focus (intro w9 hSw; have q0 := IXB.out w9; go_simp; try with_reducible rfl)); simp only [Act.put, List.setIfInBounds_toArray, List.set_cons_zero, List.set_cons_succ]
              refine wpG_take (i := 8) (oi := ⟨some 54, _, _, _, _, _⟩) (v := (.bool false)) rfl (by kernel_rfl) (by kernel_rfl) (by kernel_rfl) (Or.inl ⟨by rfl, unib_val ?_⟩) ?_; (focus (intro w9 hSw; have q0 := HXY.out; go_simp)); simp only [Act.put, List.setIfInBounds_toArray, List.set_cons_zero, List.set_cons_succ]
              refine wpG_done (by kernel_rfl) ?_ _
              intro w9 hSw _
              have T0 := Lib.hid (S0.out.below hSw S0.out.lt)
              have T1 := Lib.hid (S1.out.below hSw S1.out.lt)
              have B9 := Lib.hid (BW.out.trans (hSw.mono BW.out.size))
              clear hSw a2 b2
              go_wp2
              go_roundw
              case rel => exact ⟨k + 1, by omega, by go_num, T0.out, T1.out, B9.out, HF.out⟩
              case measure => simp [intOf]; omega
            · have HXY := Lib.hid hpq
              have HF : Hid (V = decide (p < q)) := Lib.hid (by rw [hf]; simp [hpq])
              clear hf
              go_wp2_with fail
              refine wp_region_G _ (by kernel_rfl) ?_
              refine wpG_take (i := 0) (oi := ⟨some 46, _, _, _, _, _⟩) (v := ?_) rfl (by kernel_rfl) (by kernel_rfl) (by kernel_rfl) (Or.inl ⟨by rfl, unib_val ?_⟩) ?_; rotate_left; (focus (intro w9 hSw; go_simp; try with_reducible rfl)); simp only [Act.put, List.setIfInBounds_toArray, List.set_cons_zero, List.set_cons_succ]
              refine wpG_take (i := 1) (oi := ⟨some 47, _, _, _, _, _⟩) (v := ?_) rfl (by kernel_rfl) (by kernel_rfl) (by kernel_rfl) (Or.inl ⟨by rfl, unib_val ?_⟩) ?_; rotate_left; (focus (intro w9 hSw; have q9 := S0.out.below hSw S0.out.lt; have q2 := q9.c2; go_simp; try with_reducible rfl)); simp only [Act.put, List.setIfInBounds_toArray, List.set_cons_zero, List.set_cons_succ]
              refine wpG_take (i := 2) (oi := ⟨some 48, _, _, _, _, _⟩) (v := ?_) rfl (by kernel_rfl) (by kernel_rfl) (by kernel_rfl) (Or.inl ⟨by rfl, unib_val ?_⟩) ?_; rotate_left; (focus (intro w9 hSw; go_simp; try with_reducible rfl)); simp only [Act.put, List.setIfInBounds_toArray, List.set_cons_zero, List.set_cons_succ]
              refine wpG_take (i := 3) (oi := ⟨some 49, _, _, _, _, _⟩) (v := ?_) rfl (by kernel_rfl) (by kernel_rfl) (by kernel_rfl) (Or.inl ⟨by rfl, unib_val ?_⟩) ?_; rotate_left; (focus (intro w9 hSw; have q0 := IXA.out w9; go_simp; try with_reducible rfl)); simp only [Act.put, List.setIfInBounds_toArray, List.set_cons_zero, List.set_cons_succ]
              refine wpG_take (i := 4) (oi := ⟨some 50, _, _, _, _, _⟩) (v := ?_) rfl (by kernel_rfl) (by kernel_rfl) (by kernel_rfl) (Or.inl ⟨by rfl, unib_val ?_⟩) ?_; rotate_left; (focus (intro w9 hSw; go_simp; try with_reducible rfl)); simp only [Act.put, List.setIfInBounds_toArray, List.set_cons_zero, List.set_cons_succ]
              refine wpG_take (i := 5) (oi := ⟨some 51, _, _, _, _, _⟩) (v := ?_) rfl (by kernel_rfl) (by kernel_rfl) (by kernel_rfl) (Or.inl ⟨by rfl, unib_val ?_⟩) ?_; rotate_left; (focus (intro w9 hSw; have q9 := S1.out.below hSw S1.out.lt; have q2 := q9.c2; go_simp; try with_reducible rfl)); simp only [Act.put, List.setIfInBounds_toArray, List.set_cons_zero, List.set_cons_succ]
              refine wpG_take (i := 6) (oi := ⟨some 52, _, _, _, _, _⟩) (v := ?_) rfl (by kernel_rfl) (by kernel_rfl) (by kernel_rfl) (Or.inl ⟨by rfl, unib_val ?_⟩) ?_; rotate_left; (focus (intro w9 hSw; go_simp; try with_reducible rfl)); simp only [Act.put, List.setIfInBounds_toArray, List.set_cons_zero, List.set_cons_succ]
              refine wpG_take (i := 7) (oi := ⟨some 53, _, _, _, _, _⟩) (v := ?_) rfl (by kernel_rfl) (by kernel_rfl) (by kernel_rfl) (Or.inl ⟨by rfl, unib_val ?_⟩) ?_; rotate_left; (focus (intro w9 hSw; have q0 := IXB.out w9; go_simp; try with_reducible rfl)); simp only [Act.put, List.setIfInBounds_toArray, List.set_cons_zero, List.set_cons_succ]
              refine wpG_take (i := 8) (oi := ⟨some 54, _, _, _, _, _⟩) (v := (.bool true)) rfl (by kernel_rfl) (by kernel_rfl) (by kernel_rfl) (Or.inl ⟨by rfl, unib_val ?_⟩) ?_; (focus (intro w9 hSw; have q0 := HXY.out; go_simp)); simp only [Act.put, List.setIfInBounds_toArray, List.set_cons_zero, List.set_cons_succ]
              refine wpG_done (by kernel_rfl) ?_ _
              intro w9 hSw _
              have S0 := Lib.hid (S0.out.below hSw S0.out.lt)
              have S1 := Lib.hid (S1.out.below hSw S1.out.lt)
              have BW := Lib.hid (BW.out.trans (hSw.mono BW.out.size))
              clear hSw a2 b2 hpq
              go_wp2_with fail
              refine wp_region_G _ (by kernel_rfl) ?_
              refine wpG_take (i := 0) (oi := ⟨some 55, _, _, _, _, _⟩) (v := ?_) rfl (by kernel_rfl) (by kernel_rfl) (by kernel_rfl) (Or.inl ⟨by rfl, unib_val ?_⟩) ?_; rotate_left; (focus (intro w9 hSw; go_simp; try with_reducible rfl)); simp only [Act.put, List.setIfInBounds_toArray, List.set_cons_zero, List.set_cons_succ]
              refine wpG_take (i := 1) (oi := ⟨some 56, _, _, _, _, _⟩) (v := ?_) rfl (by kernel_rfl) (by kernel_rfl) (by kernel_rfl) (Or.inl ⟨by rfl, unib_val ?_⟩) ?_; rotate_left; (focus (intro w9 hSw; have q9 := S0.out.below hSw S0.out.lt; have q2 := q9.c2; go_simp; try with_reducible rfl)); simp only [Act.put, List.setIfInBounds_toArray, List.set_cons_zero, List.set_cons_succ]
              refine wpG_take (i := 2) (oi := ⟨some 57, _, _, _, _, _⟩) (v := ?_) rfl (by kernel_rfl) (by kernel_rfl) (by kernel_rfl) (Or.inl ⟨by rfl, unib_val ?_⟩) ?_; rotate_left; (focus (intro w9 hSw; go_simp; try with_reducible rfl)); simp only [Act.put, List.setIfInBounds_toArray, List.set_cons_zero, List.set_cons_succ]
              refine wpG_take (i := 3) (oi := ⟨some 58, _, _, _, _, _⟩) (v := ?_) rfl (by kernel_rfl) (by kernel_rfl) (by kernel_rfl) (Or.inl ⟨by rfl, unib_val ?_⟩) ?_; rotate_left; (focus (intro w9 hSw; have q0 := IXA.out w9; go_simp; try with_reducible rfl)); simp only [Act.put, List.setIfInBounds_toArray, List.set_cons_zero, List.set_cons_succ]
              refine wpG_take (i := 4) (oi := ⟨some 59, _, _, _, _, _⟩) (v := ?_) rfl (by kernel_rfl) (by kernel_rfl) (by kernel_rfl) (Or.inl ⟨by rfl, unib_val ?_⟩) ?_; rotate_left; (focus (intro w9 hSw; go_simp; try with_reducible rfl)); simp only [Act.put, List.setIfInBounds_toArray, List.set_cons_zero, List.set_cons_succ]
              refine wpG_take (i := 5) (oi := ⟨some 60, _, _, _, _, _⟩) (v := ?_) rfl (by kernel_rfl) (by kernel_rfl) (by kernel_rfl) (Or.inl ⟨by rfl, unib_val ?_⟩) ?_; rotate_left; (focus (intro w9 hSw; have q9 := S1.out.below hSw S1.out.lt; have q2 := q9.c2; go_simp; try with_reducible rfl)); simp only [Act.put, List.setIfInBounds_toArray, List.set_cons_zero, List.set_cons_succ]
              refine wpG_take (i := 6) (oi := ⟨some 61, _, _, _, _, _⟩) (v := ?_) rfl (by kernel_rfl) (by kernel_rfl) (by kernel_rfl) (Or.inl ⟨by rfl, unib_val ?_⟩) ?_; rotate_left; (focus (intro w9 hSw; go_simp; try with_reducible rfl)); simp only [Act.put, List.setIfInBounds_toArray, List.set_cons_zero, List.set_cons_succ]
              refine wpG_take (i := 7) (oi := ⟨some 62, _, _, _, _, _⟩) (v := ?_) rfl (by kernel_rfl) (by kernel_rfl) (by kernel_rfl) (Or.inl ⟨by rfl, unib_val ?_⟩) ?_; rotate_left; (focus (intro w9 hSw; have q0 := IXB.out w9; go_simp; try with_reducible rfl)); simp only [Act.put, List.setIfInBounds_toArray, List.set_cons_zero, List.set_cons_succ]
              refine wpG_take (i := 8) (oi := ⟨some 63, _, _, _, _, _⟩) (v := ?_) rfl (by kernel_rfl) (by kernel_rfl) (by kernel_rfl) (Or.inl ⟨by rfl, unib_val ?_⟩) ?_; rotate_left; (focus (intro w9 hSw; go_simp; try with_reducible rfl)); simp only [Act.put, List.setIfInBounds_toArray, List.set_cons_zero, List.set_cons_succ]
              refine wpG_take (i := 9) (oi := ⟨some 4, _, _, _, _, _⟩) (v := ?_) rfl (by kernel_rfl) (by kernel_rfl) (by kernel_rfl) (Or.inl ⟨by rfl, unib_val ?_⟩) ?_; rotate_left; (focus (intro w9 hSw; go_simp; try with_reducible rfl)); simp only [Act.put, List.setIfInBounds_toArray, List.set_cons_zero, List.set_cons_succ]
              refine wpG_done (by kernel_rfl) ?_ _
              intro w10 hSw _
              have B9 := Lib.hid (BW.out.trans (hSw.mono BW.out.size))
              clear hSw
              go_wp2
              go_ret
              exact ⟨by rw [HF.out]; rfl, B9.out⟩
          · have t1 : (a.s.size : Int) ≤ (k : Int) := by omega
            have HF : Hid (V = true) := Lib.hid (by
              rw [hf, List.drop_eq_nil_of_le (by rw [HNA.out]; omega), drop_at hkb]
              rfl)
            clear hf hkb
            go_wp2
            go_ret
            exact ⟨by rw [HF.out]; rfl, BW.out⟩
        · obtain rfl : k = b.s.size := by omega
          have HF : Hid (V = false) := Lib.hid (by
            rw [hf, List.drop_eq_nil_of_le (show (nums b.s).length ≤ b.s.size by rw [HNB.out]; exact Nat.le_refl _)]
            cases (nums a.s).drop b.s.size <;> rfl)
          clear hf
          go_wp2
          go_ret
          exact ⟨by rw [HF.out]; rfl, BW.out⟩
  · have HV : Hid (cless a b = stLess a.n a.r b.n b.r) := Lib.hid (by
      unfold cless
      cases h1 : stLess a.n a.r b.n b.r
      · have h2 : stLess b.n b.r a.n a.r = true := by rw [st_no] at h1; rw [stLess_iff]; omega
        rw [h2]
        simp only [Bool.false_eq_true, if_false, if_true]
      · simp only [if_true])
    have HC := Lib.hid (rless_any a.n a.r b.n b.r)
    unfold st at HC
    have hsn := @same_pair' a.n a.r b.n b.r
    rw [decide_eq_false hst] at hsn
    clear ha hb hst
    go_enter Tryd.func33, Tryd.ntmps33
    go_wp2_with fail
    refine (HC.out _).mono ?_
    rintro e w1 ⟨rfl, hb1⟩
    have B1 := Lib.hid (HB.out.trans (hb1.mono HB.out.size))
    clear hb1
    go_wp2
    go_ret
    exact ⟨by rw [HV.out]; rfl, B1.out⟩
end Go.Proofs.YtcmknbdeafcknaaDoor

end
section
/-
  The document's own Join of cells.
-/
namespace Go.Proofs.YtcmknbdeafcknaaDoor
open Go.RowKit WM
set_option linter.unusedVariables false
set_option maxHeartbeats 1000000 in
theorem rcjoin_any (a b : Cel) (w : World) (ha : a.s.size ≤ 300) (hb : b.s.size ≤ 300) : Calls Tryd.prog 22 #[a.v, b.v] w fun e w' => e = .returned (cjoin a b).v ∧ Below w.heap.size w w' := by
  have S0 := Lib.hid (((ClAt.new w a).old (.cells #[.int .i64 b.n, .int .i64 b.r, .string b.s] 32)).old (.cells #[.int .i64 0, .int .i64 0, .string ⟨#[]⟩] 32))
  have s1 := (ClAt.new (w.alloc (.cells #[.int .i64 a.n, .int .i64 a.r, .string a.s] 32)) b).old (.cells #[.int .i64 0, .int .i64 0, .string ⟨#[]⟩] 32)
  rw [World.size_alloc] at s1
  have S1 := Lib.hid s1
  have s2 := ClAt.new ((w.alloc (.cells #[.int .i64 a.n, .int .i64 a.r, .string a.s] 32)).alloc (.cells #[.int .i64 b.n, .int .i64 b.r, .string b.s] 32)) ⟨0, 0, ⟨#[]⟩⟩
  rw [World.size_alloc, World.size_alloc] at s2
  have S2 := Lib.hid s2
  have hB := (((Below.refl w.heap.size w).alloc (Nat.le_refl _) (.cells #[.int .i64 a.n, .int .i64 a.r, .string a.s] 32)).alloc (by simp) (.cells #[.int .i64 b.n, .int .i64 b.r, .string b.s] 32)).alloc (by simp; omega) (.cells #[.int .i64 0, .int .i64 0, .string ⟨#[]⟩] 32)
  have B0 := Lib.hid hB
  have HL := Lib.hid (fun (X : World) (hX : Below w.heap.size w X) => rcless_any a b X ha hb)
  conv => congr; rfl; rfl; (unfold Cel.v)
  clear s1 s2 hB
  cases hl : cless a b
  · rw [hl] at HL
    have HV := Lib.hid (show cjoin a b = a by simp [cjoin, hl])
    clear hl
    unfold Cel.v at HL
    go_enter Tryd.func22, Tryd.ntmps22
    go_wp2_with fail
    refine (HL.out _ B0.out).mono ?_
    rintro e w1 ⟨rfl, hb1⟩
    have s0 := S0.out.below hb1 S0.out.lt
    have s1 := S1.out.below hb1 S1.out.lt
    have s2 := S2.out.below hb1 S2.out.lt
    have bw := B0.out.trans (hb1.mono B0.out.size)
    have a0 := s0.c0
    have a1 := s0.c1
    have a2 := s0.c2
    have b0 := s1.c0
    have b1 := s1.c1
    have b2 := s1.c2
    have c0 := s2.c0
    have c1 := s2.c1
    have c2 := s2.c2
    have f0 := s2.fz 0
    have f1 := s2.fz 1
    have f2 := s2.fz 2
    have S9 := Lib.hid (s2.put a)
    have B9 := Lib.hid (below_put3 bw (show w.heap.size ≤ w.heap.size + 1 + 1 by omega) (.int .i64 a.n) (.int .i64 a.r) (.string a.s))
    clear s0 s1 s2 hb1 bw
    go_wp2
    refine bodyPost_ret (v := a.v) ?_ rfl ⟨by rw [HV.out], ?_⟩
    · exact res_cl Tryd.results22 rfl S9.out
    · exact B9.out
  · rw [hl] at HL
    have HV := Lib.hid (show cjoin a b = b by simp [cjoin, hl])
    clear hl
    unfold Cel.v at HL
    go_enter Tryd.func22, Tryd.ntmps22
    go_wp2_with fail
    refine (HL.out _ B0.out).mono ?_
    rintro e w1 ⟨rfl, hb1⟩
    have s0 := S0.out.below hb1 S0.out.lt
    have s1 := S1.out.below hb1 S1.out.lt
    have s2 := S2.out.below hb1 S2.out.lt
    have bw := B0.out.trans (hb1.mono B0.out.size)
    have a0 := s0.c0
    have a1 := s0.c1
    have a2 := s0.c2
    have b0 := s1.c0
    have b1 := s1.c1
    have b2 := s1.c2
    have c0 := s2.c0
    have c1 := s2.c1
    have c2 := s2.c2
    have f0 := s2.fz 0
    have f1 := s2.fz 1
    have f2 := s2.fz 2
    have S9 := Lib.hid (s2.put b)
    have B9 := Lib.hid (below_put3 bw (show w.heap.size ≤ w.heap.size + 1 + 1 by omega) (.int .i64 b.n) (.int .i64 b.r) (.string b.s))
    clear s0 s1 s2 hb1 bw
    go_wp2
    refine bodyPost_ret (v := b.v) ?_ rfl ⟨by rw [HV.out], ?_⟩
    · exact res_cl Tryd.results22 rfl S9.out
    · exact B9.out
end Go.Proofs.YtcmknbdeafcknaaDoor

end
