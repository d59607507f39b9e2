import Derived.Test.YtlahjooofjbfbaaDoorSgOne
import Derived.Test.YtlahjooofjbfbaaDoorGMap
import Derived.Test.YtlahjooofjbfbaaDoorGUni
/-
  What sign.places and Find answer. Nothing that was there is written.
-/
namespace Go.Proofs.YtlahjooofjbfbaaDoor
open Go.RowKit WM
set_option linter.unusedVariables false
set_option maxRecDepth 100000
def mkSig : MKey Tryd.prog Sg := { t := 30, v := KSig.v, ok := Sg.Ok, key := fun h => key_sig h, inj := fun h => sig_inj h, law := sgLaw }
theorem sgFrom_append (x y : Sg) : ∀ (xs : List Sg) (k : Nat), sgFrom x k (xs ++ [y]) = if sgFrom x k xs = -1 then (if y = x then ((k + xs.length : Nat) : Int) else -1) else sgFrom x k xs
  | [], k => by simp [sgFrom]
  | z :: zs, k => by
    by_cases h : z = x
    · have h1 : ¬ ((k : Int) = -1) := by omega
      simp [sgFrom, h, h1]
    · have := sgFrom_append x y zs (k + 1)
      simp only [List.cons_append, sgFrom, h, if_false, this, List.length_cons]
      rw [show k + 1 + zs.length = k + (zs.length + 1) by omega]
/-- Where each block is first, of the first k. -/
def sgPl (l : List Sg) (k : Nat) : Sg → Option Value := fun x => if sgFrom x 0 (l.take k) = -1 then none else some (.int .i64 (sgFrom x 0 (l.take k)))
theorem sgPl_nil (l : List Sg) : sgPl l 0 = fun _ => none := by funext x; simp [sgPl, sgFrom]
theorem sgPl_there {l : List Sg} {k : Nat} (hk : k < l.length) (h : (sgPl l k (l.getD k sg0)).isSome = true) : sgPl l (k + 1) = sgPl l k := by
  have hd : l.take (k + 1) = l.take k ++ [l.getD k sg0] := by
    rw [List.take_succ_eq_append_getElem hk, List.getD_eq_getElem?_getD, List.getElem?_eq_getElem hk]
    rfl
  generalize l.getD k sg0 = y at *
  funext x
  have h1 : ¬ sgFrom y 0 (l.take k) = -1 := fun e => by simp [sgPl, e] at h
  unfold sgPl
  rw [hd, sgFrom_append]
  by_cases hx : sgFrom x 0 (l.take k) = -1
  · have hne : ¬ y = x := fun e => h1 (by rw [e]; exact hx)
    simp [hx, hne]
  · simp [hx]
theorem sgPl_new {l : List Sg} {k : Nat} (hk : k < l.length) (h : (sgPl l k (l.getD k sg0)).isSome = false) : sgPl l (k + 1) = fput (sgPl l k) (l.getD k sg0) (.int .i64 k) := by
  have hd : l.take (k + 1) = l.take k ++ [l.getD k sg0] := by
    rw [List.take_succ_eq_append_getElem hk, List.getD_eq_getElem?_getD, List.getElem?_eq_getElem hk]
    rfl
  generalize l.getD k sg0 = y at *
  funext x
  have h1 : sgFrom y 0 (l.take k) = -1 := Classical.byContradiction fun e => by simp [sgPl, e] at h
  have hl : (l.take k).length = k := by rw [List.length_take]; omega
  unfold sgPl fput
  rw [hd, sgFrom_append, hl]
  by_cases hx : y = x
  · subst hx
    have hk1 : ¬ ((k : Int) = -1) := by omega
    simp [h1, hk1]
  · have hx' : ¬ x = y := fun e => hx e.symm
    by_cases hy : sgFrom x 0 (l.take k) = -1 <;> simp [hy, hx, hx']
theorem sgPl_all (l : List Sg) : sgPl l l.length = fun x => if sgFrom x 0 l = -1 then none else some (.int .i64 (sgFrom x 0 l)) := by unfold sgPl; rw [List.take_length]
def PlPost (l : List Sg) (w : World) (e : Ending) (w' : World) : Prop := ∃ b n, e = .returned (.map (some b)) ∧ GMs mkSig w' b n (sgPl l l.length) (.int .i64 0) ∧ Below w.heap.size w w'
theorem zeroInt (w : World) : (zeroValue 3).run Tryd.prog w = .ok (.int .i64 0) w := (zero_of_info (show (Tryd.prog.info? 3).map (fun i => (i.zero, i.size)) = some (some (.int .i64 0), 1) by kernel_rfl)).1 w
set_option maxHeartbeats 4000000 in
theorem places_any (A : Option Addr) (c : Nat) (l : List Sg) (w : World) (h1 : KSig.row w A c l) (hl : l.length ≤ 1000000) : Calls Tryd.prog 20 #[.slice A l.length c] w (PlPost l w) := by
  have HB := Lib.hid (Below.refl w.heap.size w)
  have hmm := fun (n : Int) (w : World) => run_makeMap_hint (P := Tryd.prog) (t := 41) Tryd.underlying41 .i64 n w
  have H1 := Lib.hid h1
  have hc1 := h1.1
  have hm1 := h1.2.1
  simp only [maxLen] at hm1
  have R1 := Lib.hid (fun h => sig_row H1.out h)
  have M0 := Lib.hid (show GMs mkSig (w.alloc (.map #[] 0)) w.heap.size 0 (sgPl l 0) (.int .i64 0) by rw [sgPl_nil]; exact GMs.made _ _ _)
  have B0 := Lib.hid ((Below.refl w.heap.size w).alloc (Nat.le_refl _) (.map #[] 0))
  have HPT := Lib.hid (fun k (hk : k < l.length) => sgPl_there hk)
  have HPN := Lib.hid (fun k (hk : k < l.length) => sgPl_new hk)
  have HP : Hid (∀ b n w', GMs mkSig w' b n (sgPl l l.length) (.int .i64 0) → Below w.heap.size w w' → PlPost l w (.returned (.map (some b))) w') := Lib.hid (fun b n w' h1 h2 => ⟨b, n, rfl, h1, h2⟩)
  generalize PlPost l w = RR at *
  generalize hn1 : l.length = n at *
  have HL1 := Lib.hid hn1
  clear h1 hn1
  have hz := zeroSig
  rw [show KSig.v ⟨0, List.replicate 32 0⟩ = .agg (KSig.cs sgz).toArray from rfl] at hz
  have hzne : ¬ (KSig.cs sgz).toArray = #[] := by simp [KSig, Sg.cs]
  have hzs : (KSig.cs sgz).toArray.size = 33 := by decide
  go_enter Tryd.func20, Tryd.ntmps20
  go_wp2
  go_loopw [13] (fun i wr => ∃ k : Nat, k ≤ n ∧ i = .int .i64 k ∧ GMs mkSig wr w.heap.size k (sgPl l k) (.int .i64 0) ∧ Below w.heap.size w wr) (fun i _ => n - (intOf i).toNat)
  case atStart => exact ⟨0, Nat.zero_le _, rfl, M0.out, B0.out⟩
  case round =>
    obtain ⟨k, hk, rfl, hM, hb⟩ := hrel
    have HBB := Lib.hid hb
    have HM := Lib.hid hM
    by_cases hlt : k < n
    · have t1 : (k : Int) < (n : Int) := by omega
      obtain ⟨b1, off1, hA1, hb1w, hx1, hi1⟩ := R1.out (by omega)
      have ix1 := hi1 k hlt k rfl
      rw [← hA1] at ix1
      have Q1 := Lib.hid (hx1 k hlt)
      have X1 := Lib.hid (Kind.row_ok H1.out (i := k) (by rw [HL1.out]; exact hlt))
      change Hid (Sg.Ok (l.getD k sg0)) at X1
      have hpt := HPT.out k hlt
      have hpn := HPN.out k hlt
      have LD0 := Lib.hid (show ∀ w9, Below w.heap.size w w9 → (loadVar 30 ⟨b1, off1 + k * 33, none⟩).run Tryd.prog w9 = .ok (.agg (KSig.cs (l.getD k sg0)).toArray) w9 from fun w9 h9 => load_sigK (w := w) Q1.out X1.out h9 hb1w)
      generalize l.getD k sg0 = x at *
      have SZ := Lib.hid (sig_size X1.out)
      have SQ := Lib.hid (sig_same sgz_ok X1.out)
      have SO := Lib.hid (sig_ones x)
      obtain ⟨wa, hwa⟩ : ∃ wa, wa = wr.alloc (.cells (KSig.cs x).toArray 30) := ⟨_, rfl⟩
      have hba : Below wr.heap.size wr wa := by rw [hwa]; exact (Below.refl wr.heap.size wr).alloc (Nat.le_refl _) _
      have BA := Lib.hid (HBB.out.trans (hba.mono HBB.out.size))
      have XB := Lib.hid (show KSig.blk 30 wa wr.heap.size x by rw [hwa]; exact Kind.blk_new wr x _)
      have MA := Lib.hid (HM.out.below hba HM.out.lt)
      have LD1 := Lib.hid (show ∀ w9, w9.heap[wr.heap.size]? = wa.heap[wr.heap.size]? → (loadVar 30 ⟨wr.heap.size, 0, none⟩).run Tryd.prog w9 = .ok (.agg (KSig.cs x).toArray) w9 from fun w9 h9 => load_sig (Kind.at_blk (Kind.blk_same XB.out h9)) X1.out)
      have lk := MA.out.look (t := 41) Tryd.underlying41 zeroInt X1.out
      rw [show mkSig.v x = .agg (KSig.cs x).toArray from rfl] at lk
      have LDr := Lib.hid (LD0.out _ HBB.out)
      have LDa := Lib.hid (LD1.out wa rfl)
      have HWA := Lib.hid hwa
      clear hx1 hi1 hA1 hM hb hba hwa
      cases hs : (sgPl l k x).isSome
      · have HPN1 := Lib.hid (hpn hs)
        rw [hs] at lk
        generalize (sgPl l k x).getD (.int .i64 0) = v0 at lk
        clear hs hpn hpt
        go_wp2_with (first | ((with_reducible refine wpList_load_at (o := ⟨some 17, .load 30 (.tmp 16), _, _, _, _⟩) ?e1 30 (.tmp 16) ?e2 ⟨b1, off1 + k * 33, none⟩ ?e3 _ LDr.out ?_); (case e1 => rfl); (case e2 => rfl); (case e3 => rfl)) | ((with_reducible refine wpList_store_new (o := ⟨none, .store 30 (.tmp 5) (.tmp 17), _, _, _, _⟩) ?e1 30 (.tmp 5) (.tmp 17) ?e2 ?e3 (KSig.cs sgz).toArray (KSig.cs x).toArray ?e4 SZ.out SQ.out SO.out ?_); (case e1 => rfl); (case e2 => rfl); (case e3 => rfl); (case e4 => rfl); (rw [← HWA.out])) | ((with_reducible refine wpList_load_at (o := ⟨some 20, .load 30 (.tmp 5), _, _, _, _⟩) ?e1 30 (.tmp 5) ?e2 ⟨wr.heap.size, 0, none⟩ ?e3 _ LDa.out ?_); (case e1 => rfl); (case e2 => rfl); (case e3 => rfl)) | ((with_reducible refine wpList_load_at (o := ⟨some 27, .load 30 (.tmp 5), _, _, _, _⟩) ?e1 30 (.tmp 5) ?e2 ⟨wr.heap.size, 0, none⟩ ?e3 _ LDa.out ?_); (case e1 => rfl); (case e2 => rfl); (case e3 => rfl)) | (at_mapUpdate; refine wpList_mapUpdate_G (K := mkSig) rfl 41 _ _ _ rfl Tryd.underlying41 x (.int .i64 k) rfl rfl rfl MA.out (by omega) X1.out ?_; intro w5 hM5 hg5; have HM5 := Lib.hid hM5; have HB5 := Lib.hid (BA.out.grown hg5 BA.out.size (fun j e => by cases e; exact Nat.le_refl _)); clear hM5 hg5))
        go_roundw
        case rel => exact ⟨k + 1, by omega, by go_num, by rw [HPN1.out]; exact HM5.out, HB5.out⟩
        case measure => simp [intOf]; omega
      · have HPT1 := Lib.hid (hpt hs)
        rw [hs] at lk
        generalize (sgPl l k x).getD (.int .i64 0) = v0 at lk
        clear hs hpn hpt
        go_wp2_with (first | ((with_reducible refine wpList_load_at (o := ⟨some 17, .load 30 (.tmp 16), _, _, _, _⟩) ?e1 30 (.tmp 16) ?e2 ⟨b1, off1 + k * 33, none⟩ ?e3 _ LDr.out ?_); (case e1 => rfl); (case e2 => rfl); (case e3 => rfl)) | ((with_reducible refine wpList_store_new (o := ⟨none, .store 30 (.tmp 5) (.tmp 17), _, _, _, _⟩) ?e1 30 (.tmp 5) (.tmp 17) ?e2 ?e3 (KSig.cs sgz).toArray (KSig.cs x).toArray ?e4 SZ.out SQ.out SO.out ?_); (case e1 => rfl); (case e2 => rfl); (case e3 => rfl); (case e4 => rfl); (rw [← HWA.out])) | ((with_reducible refine wpList_load_at (o := ⟨some 20, .load 30 (.tmp 5), _, _, _, _⟩) ?e1 30 (.tmp 5) ?e2 ⟨wr.heap.size, 0, none⟩ ?e3 _ LDa.out ?_); (case e1 => rfl); (case e2 => rfl); (case e3 => rfl)) | ((with_reducible refine wpList_load_at (o := ⟨some 27, .load 30 (.tmp 5), _, _, _, _⟩) ?e1 30 (.tmp 5) ?e2 ⟨wr.heap.size, 0, none⟩ ?e3 _ LDa.out ?_); (case e1 => rfl); (case e2 => rfl); (case e3 => rfl)))
        go_roundw
        case rel => exact ⟨k + 1, by omega, by go_num, by rw [HPT1.out]; exact MA.out.more (by omega), BA.out⟩
        case measure => simp [intOf]; omega
    · obtain rfl : k = n := by omega
      have t1 : ¬ (k : Int) < (k : Int) := by omega
      clear hM hb
      go_wp2
      exact HP.out _ _ _ HM.out HBB.out
set_option maxHeartbeats 4000000 in
theorem find10_any (A : Option Addr) (c : Nat) (l : List Sg) (s : ByteArray) (w : World) (hlaid : Laid w) (h1 : KSig.row w A c l) (hl : l.length ≤ 1000000) (hs : s.size ≤ 1000000) : Calls Tryd.prog 14 #[.slice A l.length c, .string s] w fun e w' => e = .returned (.int .i64 (sgFind l (nums s))) ∧ Below w.heap.size w w' := by
  have HB := Lib.hid (Below.refl w.heap.size w)
  have HNS := nums_len s
  by_cases h8 : s.size = 8
  · have HV := Lib.hid (show sgFind l (nums s) = sgFrom (sgOne (nums s)) 0 l by unfold sgFind; rw [if_pos (by rw [HNS]; exact h8)])
    have HC := Lib.hid (fun X (hX : Below w.heap.size w X) => one_any s X (hlaid.below hX (Nat.le_refl _)) hs)
    have HXO := Lib.hid (sgOne_ok (nums s))
    have HPL := Lib.hid (places_any A c l w h1 hl)
    unfold PlPost at HPL
    rw [sgPl_all] at HPL
    rw [show KSig.v (sgOne (nums s)) = .agg (KSig.cs (sgOne (nums s))).toArray from rfl] at HC
    have hsg : sgFrom (sgOne (nums s)) 0 l = -1 ∨ 0 ≤ sgFrom (sgOne (nums s)) 0 l := by
      rcases sgFrom_cases (sgOne (nums s)) l 0 with ⟨h, _⟩ | ⟨i, _, h, _⟩
      · exact .inl h
      · right; rw [h]; omega
    generalize sgFind l (nums s) = V at *
    generalize hX : sgOne (nums s) = X at *
    generalize hr : sgFrom X 0 l = r at *
    have HR := Lib.hid hr
    generalize l.length = n at *
    clear hX hr HNS h1 hlaid
    go_enter Tryd.func14, Tryd.ntmps14
    go_wp2_with fail
    refine HPL.out.mono ?_
    rintro e w1 ⟨b, N, rfl, hM, hb1⟩
    have B1 := Lib.hid hb1
    have M1 := Lib.hid hM
    clear hM hb1
    go_wp2_with fail
    refine (HC.out _ B1.out).mono ?_
    rintro e w2 ⟨rfl, hb2⟩
    have B2 := Lib.hid (B1.out.trans (hb2.mono B1.out.size))
    have lk := (M1.out.below hb2 M1.out.lt).look (t := 41) Tryd.underlying41 zeroInt HXO.out
    rw [show mkSig.v X = .agg (KSig.cs X).toArray from rfl] at lk
    rw [HR.out] at lk
    clear hb2
    rcases hsg with h | h
    · rw [h] at lk HV
      simp only [if_true, Option.getD_none, Option.isSome_none] at lk
      clear h
      go_wp2
      first | exact ⟨by rw [HV.out], B2.out⟩ | (go_ret; exact ⟨by rw [HV.out]; try rfl, B2.out⟩)
    · rw [if_neg (by omega : ¬ r = -1)] at lk
      simp only [Option.getD_some, Option.isSome_some] at lk
      clear h
      go_wp2
      first | exact ⟨by rw [HV.out], B2.out⟩ | (go_ret; exact ⟨by rw [HV.out]; try rfl, B2.out⟩)
  · have HF := Lib.hid (show sgFind l (nums s) = -1 by unfold sgFind; rw [if_neg (by rw [HNS]; exact h8)])
    have t1 : ¬ (s.size : Int) = 8 := by omega
    go_enter Tryd.func14, Tryd.ntmps14
    go_wp2
    go_ret
    exact ⟨by rw [HF.out]; try rfl, HB.out⟩
end Go.Proofs.YtlahjooofjbfbaaDoor

