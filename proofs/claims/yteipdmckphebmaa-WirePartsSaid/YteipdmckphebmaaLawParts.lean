/-
  The law WireParts: for every list of numbers it answers true, and nothing that was there is written.
-/
import Derived.Test.YteipdmckphebmaaAwake
namespace Go.Proofs.Yteipdmckphebmaa
open Go.RowKit WM
set_option linter.unusedVariables false
def cat (l : List Int) : List Int := l.flatMap enc
theorem cat_snoc {l : List Int} {k : Nat} (hk : k < l.length) : cat (l.take (k + 1)) = cat (l.take k) ++ enc (l.getD k 0) := by
  unfold cat
  rw [List.take_succ_eq_append_getElem hk, List.flatMap_append, List.flatMap_singleton, List.getD, List.getElem?_eq_getElem hk, Option.getD_some]
theorem cat_drop {l : List Int} {k : Nat} (hk : k < l.length) : cat (l.drop k) = enc (l.getD k 0) ++ cat (l.drop (k + 1)) := by
  unfold cat
  rw [drop_at hk, List.flatMap_cons]
theorem cat_len (l : List Int) : (cat l).length ≤ 10 * l.length := by
  induction l with
  | nil => simp [cat]
  | cons x l ih =>
    have := (enc_len x).2
    unfold cat at ih ⊢
    rw [List.flatMap_cons, List.length_append, List.length_cons]
    omega
theorem cat_bytes (l : List Int) : AllBytes (cat l) := by
  intro z hz
  obtain ⟨x, _, hx⟩ := List.mem_flatMap.1 hz
  exact enc_bytes x z hx
/-- What stands in 'all' behind k rounds of the first loop. -/
def PartsInv (w : World) (l : List Int) (k : Nat) (v : Value) (wr : World) : Prop :=
  wr.ownsRow w.heap.size 5 1 v (cat (l.take k)).length ((cat (l.take k)).map (Value.int .u8)) ∧ Below w.heap.size w wr
/-- .. and of the second one. -/
def RestInv (w : World) (l : List Int) (k : Nat) (v : Value) : Prop :=
  ∃ A m c B, v = .slice A m c ∧ Byt w B A (cat (l.drop k)) ∧ (cat (l.drop k)).length = m ∧ m ≤ c ∧ c ≤ maxLen
set_option maxHeartbeats 1000000 in
theorem walk_wireParts (a0 : Option Addr) (len0 cap0 : Nat) (z0 : List Int) (w : World) (w0 : IsRow .u64 w a0 len0 cap0 z0) :
    Calls Try.prog 9 #[.slice a0 len0 cap0] w fun e w' => e = .returned (.bool true) ∧ Below w.heap.size w w' := by
  obtain ⟨hlc, hcm, hlen, hwf, hcell⟩ := w0.cells
  clear w0
  generalize z0.take len0 = l at hlen hwf hcell
  simp only [maxLen] at hcm
  have HL := Lib.hid hlen
  have HW := Lib.hid hwf
  have HC := Lib.hid hcell
  clear hlen hwf hcell
  by_cases h20 : len0 ≤ 20
  · obtain ⟨i0, hi, hz0, hz1, hz2⟩ := info_parts infoByte
    go_enter Try.func9, Try.ntmps9
    go_wp2_with fail
    refine (awake_any _).mono ?_
    rintro e w1 ⟨rfl, hb1⟩
    go_wp2
    go_loopw [4, 5] (fun v i wr => ∃ k : Nat, k ≤ len0 ∧ i = .int .i64 k ∧ PartsInv w l k v wr) (fun _ i _ => len0 - (intOf i).toNat)
    case atStart => exact ⟨0, Nat.zero_le _, rfl, World.ownsRow_nil _ _ _ _, hb1⟩
    case round =>
      obtain ⟨k, hk, rfl, hinv⟩ := hrel
      by_cases hlt : k < len0
      · obtain ⟨ho, hb⟩ := hinv
        obtain ⟨b, off, rfl, hbB, hc⟩ := HC.out (by omega)
        have hck := (hb.cell (p := ⟨b, off + k, none⟩) hbB).trans (hc k hlt)
        have hkl : k < l.length := by rw [HL.out]; exact hlt
        have hzb : 0 ≤ l.getD k 0 ∧ l.getD k 0 ≤ 18446744073709551615 := by
          have := bounds_u64 (HW.out _ (List.getElem_mem hkl))
          simpa [List.getD, List.getElem?_eq_getElem hkl] using this
        have hs := Lib.hid (cat_snoc hkl)
        have hcl := cat_len (l.take k)
        have hcl' : (l.take k).length ≤ k := List.length_take_le _ _
        have hsz := hb.size
        generalize l.getD k 0 = z at hck hzb hs
        clear hc hkl
        go_wp2_with fail
        refine (put_gives z _ hzb.1 hzb.2).mono ?_
        rintro e w2 ⟨A, L, c, rfl, hn, hnc, hcm', hown, hb2⟩
        have HN := Lib.hid hn
        have hLL := enc_len z
        rw [hn] at hLL
        have ho2 := own_below ho hb2
        have hby := Byt.own (zs := enc z) hown
        have hnil := own_nil hown
        have hbb := hb.trans (hb2.mono hsz)
        have hnl : (cat (l.take k)).length + L ≤ 1000 := by omega
        clear hn ho hb hown hcm'
        go_wp2_with (at_builtin; refine wpList_append_byt _ rfl _ _ 24 rfl w.heap.size 5 i0 Try.underlying24 hi hz0 hz1 hz2 _ _ _ rfl ho2 w2.heap.size A L c (enc z) rfl hby HN.out hnil (by omega) hbb.size ?_; intro v5 w5 ho5 hg5)
        go_roundw
        case rel =>
          refine ⟨k + 1, by omega, by go_num, ?_, hbb.grown hg5 hbb.size (fun g hg => own_base ho2 hg)⟩
          rw [hs.out, List.length_append, HN.out]
          exact ho5
        case measure => simp [intOf]; omega
      · obtain rfl : k = len0 := by omega
        obtain ⟨ho, hb⟩ := hinv
        rw [List.take_of_length_le (by rw [HL.out]; omega)] at ho
        have HO := Lib.hid ho
        clear ho
        go_wp2
        go_loop [4, 6] (fun v i => ∃ j : Nat, j ≤ k ∧ i = .int .i64 j ∧ RestInv wr l j v) (fun _ i => k - (intOf i).toNat)
        case atStart =>
          refine ⟨0, Nat.zero_le _, rfl, ?_⟩
          obtain ⟨A, n, c, hv, h1, h2, h3, h4, _⟩ := gives_own (w := w) HO.out hb
          injection hv with hv
          exact ⟨A, n, c, _, hv, Byt.own (by simpa using h4), by simpa using h1, h2, h3⟩
        case round =>
          obtain ⟨j, hj, rfl, A, m, c, B, rfl, hby, hm, hmc, hcM⟩ := hrel
          by_cases hlt : j < k
          · obtain ⟨b, off, rfl, hbB, hc⟩ := HC.out (by omega)
            have hcj := (hb.cell (p := ⟨b, off + j, none⟩) hbB).trans (hc j hlt)
            have hkl : j < l.length := by rw [HL.out]; exact hlt
            have hzb : 0 ≤ l.getD j 0 ∧ l.getD j 0 ≤ 18446744073709551615 := by
              have := bounds_u64 (HW.out _ (List.getElem_mem hkl))
              simpa [List.getD, List.getElem?_eq_getElem hkl] using this
            have hs := cat_drop hkl
            have hg := get_any A m c (cat (l.drop j)) wr hby hm (cat_bytes _) (by omega)
            have hd := hby.drop (k := (enc (l.getD j 0)).length) (cap := c) (by omega)
            rw [hs] at hg hd hm
            rw [dec_enc _ _ hzb.1 hzb.2] at hg
            simp only [getV] at hg
            rw [List.drop_left] at hd
            rw [List.length_append] at hm
            have hu := enc_len (l.getD j 0)
            have HG := Lib.hid hg
            generalize (enc (l.getD j 0)).length = u at hd hm hu HG
            generalize l.getD j 0 = z at hcj hzb HG
            have hum : u ≤ m := by omega
            have HM := Lib.hid (show (cat (l.drop (j + 1))).length = m - u by omega)
            simp only [maxLen] at hcM
            clear hc hkl hs hg hby hm
            by_cases hcu : c = u
            · rw [if_pos hcu] at hd
              have HD := Lib.hid hd
              clear hd
              subst hcu
              go_wp2_with (go_at_call 13; refine HG.out.mono ?_; rintro e w4 ⟨rfl, rfl⟩)
              go_round
              case rel => exact ⟨j + 1, by omega, by go_num, A, _, _, B, rfl, HD.out, HM.out.trans (by omega), by omega, by simp only [maxLen]; omega⟩
              case measure => simp [intOf]; omega
            · rw [if_neg hcu] at hd
              have HD := Lib.hid hd
              clear hd
              go_wp2_with (go_at_call 13; refine HG.out.mono ?_; rintro e w4 ⟨rfl, rfl⟩)
              go_round
              case rel => exact ⟨j + 1, by omega, by go_num, _, _, _, B, rfl, HD.out, HM.out, by omega, by simp only [maxLen]; omega⟩
              case measure => simp [intOf]; omega
          · obtain rfl : j = k := by omega
            have hm0 : m = 0 := by rw [← hm, List.drop_eq_nil_of_le (by rw [HL.out]; omega)]; rfl
            subst hm0
            clear hm hby
            go_wp2
            go_ret
            exact ⟨rfl, hb⟩
  · have h20' : 20 < len0 := by omega
    go_enter Try.func9, Try.ntmps9
    go_wp2_with (go_at_call 12; refine (awake_any _).mono ?_; rintro e w1 ⟨rfl, hb1⟩)
    go_ret
    exact ⟨rfl, hb1⟩
end Go.Proofs.Yteipdmckphebmaa
