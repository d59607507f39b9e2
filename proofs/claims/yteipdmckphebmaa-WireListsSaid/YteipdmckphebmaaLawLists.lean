/-
  The law WireLists: for every list of texts it answers true, and nothing that was there is written.
-/
import Derived.Test.YteipdmckphebmaaAwake
namespace Go.Proofs.Yteipdmckphebmaa
open Go.RowKit WM
set_option linter.unusedVariables false
def catT (l : List ByteArray) : List Int := l.flatMap txt
theorem catT_snoc {l : List ByteArray} {k : Nat} (hk : k < l.length) : catT (l.take (k + 1)) = catT (l.take k) ++ txt (l.getD k ByteArray.empty) := by
  unfold catT
  rw [List.take_succ_eq_append_getElem hk, List.flatMap_append, List.flatMap_singleton, List.getD, List.getElem?_eq_getElem hk, Option.getD_some]
theorem catT_drop {l : List ByteArray} {k : Nat} (hk : k < l.length) : catT (l.drop k) = txt (l.getD k ByteArray.empty) ++ catT (l.drop (k + 1)) := by
  unfold catT
  rw [List.drop_eq_getElem_cons hk, List.flatMap_cons, List.getD, List.getElem?_eq_getElem hk, Option.getD_some]
theorem txt_len (s : ByteArray) : (txt s).length ≤ s.size + 10 := by
  have e1 := nums_len s
  have e2 := enc_len s.size
  rw [txt, List.length_append]
  omega
theorem catT_len (l : List ByteArray) (h : ∀ s ∈ l, s.size ≤ 100) : (catT l).length ≤ 110 * l.length := by
  induction l with
  | nil => simp [catT]
  | cons x l ih =>
    have h1 := txt_len x
    have h2 := h x (by simp)
    have h3 := ih fun s hs => h s (by simp [hs])
    unfold catT at h3 ⊢
    rw [List.flatMap_cons, List.length_append, List.length_cons]
    omega
theorem catT_bytes (l : List ByteArray) : AllBytes (catT l) := by
  intro z hz
  obtain ⟨x, _, hx⟩ := List.mem_flatMap.1 hz
  exact txt_bytes x z hx
/-- What stands in 'all' behind k rounds of the first loop. -/
def ListsInv (w : World) (l : List ByteArray) (k : Nat) (v : Value) (wr : World) : Prop :=
  wr.ownsRow w.heap.size 5 1 v (catT (l.take k)).length ((catT (l.take k)).map (Value.int .u8)) ∧ Below w.heap.size w wr ∧ ∀ s ∈ l.take k, s.size ≤ 100
/-- .. and of the second one. -/
def ListsRest (w : World) (l : List ByteArray) (k : Nat) (v : Value) : Prop :=
  ∃ A m c B, v = .slice A m c ∧ Byt w B A (catT (l.drop k)) ∧ (catT (l.drop k)).length = m ∧ m ≤ c ∧ c ≤ maxLen
theorem take_small {l : List ByteArray} {k : Nat} (hk : k < l.length) (h : ∀ s ∈ l.take k, s.size ≤ 100) (hs : (l.getD k ByteArray.empty).size ≤ 100) : ∀ s ∈ l.take (k + 1), s.size ≤ 100 := fun s hs' => by
  rw [List.take_succ_eq_append_getElem hk] at hs'
  rcases List.mem_append.1 hs' with h1 | h1
  · exact h s h1
  · simp at h1
    subst h1
    simpa [List.getD, List.getElem?_eq_getElem hk] using hs
set_option maxHeartbeats 1000000 in
theorem walk_wireLists (a0 : Option Addr) (len0 cap0 : Nat) (z0 : List ByteArray) (w : World) (w0 : IsStrs w a0 len0 cap0 z0) :
    Calls Try.prog 11 #[.slice a0 len0 cap0] w fun e w' => e = .returned (.bool true) ∧ Below w.heap.size w w' := by
  obtain ⟨hlc, hcm, hlen, hwf, hcell⟩ := w0.cells
  clear w0
  generalize z0.take len0 = l at hlen hwf hcell
  simp only [maxLen] at hcm
  have HL := Lib.hid hlen
  have HW := Lib.hid hwf
  have HC := Lib.hid hcell
  clear hlen hwf hcell
  by_cases h20 : len0 ≤ 20
  · obtain ⟨i0, hi, hz0, hz1, hz2⟩ := info_parts infoByte
    go_enter Try.func11, Try.ntmps11
    go_wp2_with fail
    refine (awake_any _).mono ?_
    rintro e w1 ⟨rfl, hb1⟩
    go_wp2
    go_loopw [4, 5] (fun v i wr => ∃ k : Nat, k ≤ len0 ∧ i = .int .i64 k ∧ ListsInv w l k v wr) (fun _ i _ => len0 - (intOf i).toNat)
    case atStart => exact ⟨0, Nat.zero_le _, rfl, World.ownsRow_nil _ _ _ _, hb1, fun s hs => by simp at hs⟩
    case round =>
      obtain ⟨k, hk, rfl, hinv⟩ := hrel
      by_cases hlt : k < len0
      · obtain ⟨ho, hb, hsm⟩ := hinv
        obtain ⟨b, off, rfl, hbB, hc⟩ := HC.out (by omega)
        have hck := (hb.cell (p := ⟨b, off + k, none⟩) hbB).trans (hc k hlt)
        have hkl : k < l.length := by rw [HL.out]; exact hlt
        have hzb : (l.getD k ByteArray.empty).size ≤ 9223372036854775807 := by
          have := HW.out _ (List.getElem_mem hkl)
          simpa [List.getD, List.getElem?_eq_getElem hkl, maxLen] using this
        have hs := Lib.hid (catT_snoc hkl)
        have hts := Lib.hid (take_small hkl hsm)
        have hcl := catT_len (l.take k) hsm
        have hcl' : (l.take k).length ≤ k := List.length_take_le _ _
        have hsz := hb.size
        generalize l.getD k ByteArray.empty = z at hck hzb hs hts
        clear hc hkl hsm
        by_cases hz100 : z.size ≤ 100
        · go_wp2_with fail
          refine (text_gives z _ (by omega)).mono ?_
          rintro e w2 ⟨A, L, c, rfl, hn, hnc, hcm', hown, hb2⟩
          have HN := Lib.hid hn
          have hLL := txt_len z
          rw [hn] at hLL
          have ho2 := own_below ho hb2
          have hby := Byt.own (zs := txt z) hown
          have hnil := own_nil hown
          have hbb := hb.trans (hb2.mono hsz)
          have hnl : (catT (l.take k)).length + L ≤ 10000 := by omega
          clear hn ho hb hown hcm'
          go_wp2_with (at_builtin; refine wpList_append_byt _ rfl _ _ 24 rfl w.heap.size 5 i0 Try.underlying24 hi hz0 hz1 hz2 _ _ _ rfl ho2 w2.heap.size A L c (txt z) rfl hby HN.out hnil (by omega) hbb.size ?_; intro v5 w5 ho5 hg5)
          go_roundw
          case rel =>
            refine ⟨k + 1, by omega, by go_num, ?_, hbb.grown hg5 hbb.size (fun g hg => own_base ho2 hg), hts.out hz100⟩
            rw [hs.out, List.length_append, HN.out]
            exact ho5
          case measure => simp [intOf]; omega
        · have hz100' : 100 < z.size := by omega
          go_wp2
          go_ret
          exact ⟨rfl, hb⟩
      · obtain rfl : k = len0 := by omega
        obtain ⟨ho, hb, hsm⟩ := hinv
        rw [List.take_of_length_le (by rw [HL.out]; omega)] at ho hsm
        have HO := Lib.hid ho
        have HM := Lib.hid hsm
        clear ho hsm
        go_wp2
        go_loop [4, 6] (fun v i => ∃ j : Nat, j ≤ k ∧ i = .int .i64 j ∧ ListsRest wr l j v) (fun _ i => k - (intOf i).toNat)
        case atStart =>
          refine ⟨0, Nat.zero_le _, rfl, ?_⟩
          obtain ⟨A, n, c, hv, h1, h2, h3, h4, _⟩ := gives_own (w := w) HO.out hb
          injection hv with hv
          exact ⟨A, n, c, _, hv, Byt.own (by simpa using h4), by simpa using h1, h2, h3⟩
        case round =>
          obtain ⟨j, hj, rfl, A, m, c, B, rfl, hby, hm, hmc, hcM⟩ := hrel
          by_cases hlt : j < k
          · obtain ⟨b, off, rfl, hbB, hc⟩ := HC.out (by omega)
            have hcj := (hb.cell (p := ⟨b, off + j, none⟩) hbB).trans (hc j hlt)
            have hkl : j < l.length := by rw [HL.out]; exact hlt
            have hzb : (l.getD j ByteArray.empty).size ≤ 100 := by
              have := HM.out _ (List.getElem_mem hkl)
              simpa [List.getD, List.getElem?_eq_getElem hkl] using this
            have hs := catT_drop hkl
            have hg := read_any A m c (catT (l.drop j)) 100 wr hby hm (catT_bytes _) hmc hcM
            have hd := hby.drop (k := (txt (l.getD j ByteArray.empty)).length) (cap := c) (by omega)
            rw [hs] at hg hd hm
            rw [rd_txt _ _ _ (by omega), if_pos (by omega)] at hg
            simp only [readV, str_nums] at hg
            rw [List.drop_left] at hd
            rw [List.length_append] at hm
            have hu := txt_len (l.getD j ByteArray.empty)
            have HG := Lib.hid hg
            generalize (txt (l.getD j ByteArray.empty)).length = u at hd hm hu HG
            generalize l.getD j ByteArray.empty = z at hcj hzb HG hu
            have hum : u ≤ m := by omega
            have HM2 := Lib.hid (show (catT (l.drop (j + 1))).length = m - u by omega)
            simp only [maxLen] at hcM
            clear hc hkl hs hg hby hm
            by_cases hcu : c = u
            · rw [if_pos hcu] at hd
              have HD := Lib.hid hd
              clear hd
              subst hcu
              go_wp2_with (go_at_call 15; refine HG.out.mono ?_; rintro e w4 ⟨rfl, rfl⟩)
              go_round
              case rel => exact ⟨j + 1, by omega, by go_num, A, _, _, B, rfl, HD.out, HM2.out.trans (by omega), by omega, by simp only [maxLen]; omega⟩
              case measure => simp [intOf]; omega
            · rw [if_neg hcu] at hd
              have HD := Lib.hid hd
              clear hd
              go_wp2_with (go_at_call 15; refine HG.out.mono ?_; rintro e w4 ⟨rfl, rfl⟩)
              go_round
              case rel => exact ⟨j + 1, by omega, by go_num, _, _, _, B, rfl, HD.out, HM2.out, by omega, by simp only [maxLen]; omega⟩
              case measure => simp [intOf]; omega
          · obtain rfl : j = k := by omega
            have hm0 : m = 0 := by rw [← hm, List.drop_eq_nil_of_le (by rw [HL.out]; omega)]; rfl
            subst hm0
            clear hm hby
            go_wp2
            go_ret
            exact ⟨rfl, hb⟩
  · have h20' : 20 < len0 := by omega
    go_enter Try.func11, Try.ntmps11
    go_wp2_with (go_at_call 12; refine (awake_any _).mono ?_; rintro e w1 ⟨rfl, hb1⟩)
    go_ret
    exact ⟨rfl, hb1⟩
end Go.Proofs.Yteipdmckphebmaa
