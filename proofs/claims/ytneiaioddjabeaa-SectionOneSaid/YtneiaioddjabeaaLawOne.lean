/-
  The law SectionOne: for every kind, all bytes, every place and every byte it answers true, and nothing that was there is written.
-/
import Derived.Test.YtneiaioddjabeaaSecAwake
import Derived.Laws.OwnMore
namespace Go.Proofs.Ytneiaioddjabeaa
open Go.RowKit WM
set_option linter.unusedVariables false
/-- What one byte more, in another one's stead, does to a row of the call's own. -/
theorem own_set {w : World} {base g n c : Nat} {zs : List Int} (h : w.ownsRow base 5 1 (.slice (some ⟨g, 0, none⟩) n c) n (zs.map (Value.int .u8))) (i : Nat) (x : Int) :
    (w.setCell ⟨g, i, none⟩ (.int .u8 x)).ownsRow base 5 1 (.slice (some ⟨g, 0, none⟩) n c) n ((zs.set i x).map (Value.int .u8)) := by
  rw [List.map_set]
  exact (h.stored i _).1
theorem own_form {w : World} {base n : Nat} {v : Value} {zs : List Int} (h : w.ownsRow base 5 1 v n (zs.map (Value.int .u8))) (hn : 0 < n) : ∃ g c, v = .slice (some ⟨g, 0, none⟩) n c ∧ base ≤ g ∧ n ≤ c ∧ c ≤ maxLen := by
  rcases h.2 with ⟨_, h1⟩ | ⟨g, cap, cur, h1, h2, h3, h4, h5, _⟩
  · omega
  · exact ⟨g, cap, h1, h2, h4, h5⟩
set_option maxHeartbeats 2000000 in
theorem walk_sectionOne (k : Int) (a1 : Option Addr) (len1 cap1 : Nat) (z1 : List Int) (t q : Int) (w : World) (w0 : (Lit.int .i64 k).wf = true) (w1 : IsRow .u8 w a1 len1 cap1 z1) (w2 : (Lit.int .i64 t).wf = true) (w3 : (Lit.int .u8 q).wf = true) :
    Calls Try.prog 5 #[.int .i64 k, .slice a1 len1 cap1, .int .i64 t, .int .u8 q] w fun e w' => e = .returned (.bool true) ∧ Below w.heap.size w w' := by
  obtain ⟨m0, m1⟩ := bounds_i64 w0
  obtain ⟨t0, t1⟩ := bounds_i64 w2
  have hq := bounds_u8 w3
  obtain ⟨hby, hlen, hbs, hlc, hcm⟩ := w1.byt
  have hnil := row_nil w1
  simp only [maxLen] at hcm
  clear w0 w1 w2 w3
  generalize z1.take len1 = zs at hby hlen hbs
  have HY := Lib.hid hby
  have HL := Lib.hid hlen
  have HS := Lib.hid hbs
  have HN := Lib.hid hnil
  clear hby hlen hbs hnil
  by_cases hk : 0 ≤ k ∧ k ≤ 9
  · obtain ⟨h0, h9⟩ := hk
    by_cases hbig : 100000 < len1
    · go_enter Try.func5, Try.ntmps5
      go_wp2_with fail
      refine (awake_any _).mono ?_
      rintro e w1 ⟨rfl, hb1⟩
      go_wp2_with fail
      refine (pack_long k a1 len1 cap1 _ h0 h9 hbig (by simp only [maxLen]; omega)).mono ?_
      rintro e w2 ⟨rfl, rfl⟩
      go_wp2
      go_ret
      exact ⟨rfl, hb1⟩
    · have hp := fun (w' : World) (hw : Below w.heap.size w w') => pack_yes k a1 len1 cap1 zs w' h0 h9 (by omega) (HY.out.below hw) HL.out HS.out hw.size HN.out
      have HP := Lib.hid hp
      have HB := Lib.hid (pack_bytes h0 h9 HS.out)
      have HC := Lib.hid (fun (i : Nat) (c : Int) hc hi hne hat => opn_one (k := k) (b := zs) (i := i) (c := c) h0 h9 HS.out (by rw [HL.out]; omega) hc hi hne hat)
      have hel := enc_len (zs.length : Int)
      have hpl := pack_len k zs
      rw [HL.out] at hpl hel HC
      have HPL := Lib.hid hpl
      clear hp hpl
      by_cases h300 : 300 < len1
      · go_enter Try.func5, Try.ntmps5
        go_wp2_with fail
        refine (awake_any _).mono ?_
        rintro e w1 ⟨rfl, hb1⟩
        go_wp2_with fail
        refine (HP.out _ hb1).mono ?_
        rintro e w2 ⟨A, n, c, rfl, hn, hnc, hcm2, hown, hb2⟩
        clear hn hown
        go_wp2
        go_ret
        exact ⟨rfl, hb1.trans (hb2.mono hb1.size)⟩
      · generalize packL k zs = P at HP HB HC HPL
        generalize (enc len1).length = E at HPL hel
        go_enter Try.func5, Try.ntmps5
        go_wp2_with fail
        refine (awake_any _).mono ?_
        rintro e w1 ⟨rfl, hb1⟩
        go_wp2_with fail
        refine (HP.out _ hb1).mono ?_
        rintro e w2 ⟨A, n, c, rfl, hn, hnc, hcm2, hown, hb2⟩
        have bw := hb1.trans (hb2.mono hb1.size)
        have hnE : n = 1 + E + len1 + 4 := by rw [← hn]; exact HPL.out
        have hn6 : 6 ≤ n := by omega
        have hn9 : n ≤ 315 := by omega
        clear hnE
        have hy := Byt.own (zs := P) hown
        have hP0 : P ≠ [] := fun e => by rw [e] at hn; simp at hn; omega
        obtain ⟨b, off, rfl, hbb, hcell⟩ := hy hP0
        have HY2 := Lib.hid hy
        have HN2 := Lib.hid hn
        have HCE := Lib.hid hcell
        clear hn hown hb2 HP HN HY hy hcell hP0
        simp only [maxLen] at hcm2
        by_cases ht0 : t < 0
        · go_wp2
          go_ret
          exact ⟨rfl, bw⟩
        · obtain ⟨T, rfl⟩ : ∃ T : Nat, t = T := ⟨t.toNat, by omega⟩
          by_cases htn : n ≤ T
          · go_wp2
            go_ret
            exact ⟨rfl, bw⟩
          · have hc := HCE.out T (by rw [HN2.out]; omega)
            by_cases hx : P.getD T 0 = q
            · rw [hx] at hc
              go_wp2
              go_ret
              exact ⟨rfl, bw⟩
            · have hx' : (P.getD T 0 == q) = false := by simpa using hx
              have hcase0 := fun (hmid' : T = 0 ∨ n - 4 - len1 ≤ T) => HC.out T q hq (by rw [HN2.out]; omega) hx (by rw [HN2.out]; exact hmid')
              have HCA := Lib.hid hcase0
              clear hx hcase0 HC
              generalize P.getD T 0 = y at hc hx'
              by_cases hmid : 0 < T ∧ T < n - 4 - len1
              · obtain ⟨hm1, hm2⟩ := hmid
                have g2 : (T : Int) < (n : Int) - 4 - len1 := by omega
                go_wp2
                go_ret
                exact ⟨rfl, bw⟩
              · have hmid' : T = 0 ∨ n - 4 - len1 ≤ T := by omega
                have hcase := HCA.out hmid'
                have HB2 := Lib.hid (show AllBytes (P.set T q) from fun z hz => by
                  rcases List.mem_or_eq_of_mem_set hz with h1 | h1
                  · exact HB.out z h1
                  · rw [h1]; exact hq)
                obtain ⟨i0, hi, hz0, hz1, hz2⟩ := info_parts infoByte
                clear hmid HCA
                by_cases hT0 : T = 0
                · have g1 : ¬ 0 < (T : Int) := by omega
                  have g3 : ((T : Int) == 0) = true := by simp; omega
                  clear hT0
                  rcases hcase with hcase | ⟨hT, hcase⟩
                  · have HO := Lib.hid hcase
                    clear hcase hmid'
                    go_wp2_with (at_builtin; refine wpList_append_byt (o := ⟨some 72, _, _, _, _, _⟩) _ rfl _ _ 22 rfl w2.heap.size 5 i0 Try.underlying22 hi hz0 hz1 hz2 _ 0 [] rfl (World.ownsRow_nil _ _ _ _) w2.heap.size (some ⟨b, off, none⟩) n c P rfl HY2.out HN2.out (fun e => by cases e) (by omega) (Nat.le_refl _) ?_; intro v3 w3 ho3 hg3; rw [Nat.zero_add, List.nil_append] at ho3; obtain ⟨g, c3, rfl, hgb, hnc3, hcm3⟩ := own_form ho3 (by omega); have b3 := bw.grown hg3 bw.size (fun g hg => by cases hg); have hcl := ho3.cellAt T (by omega); rw [List.getElem?_map, List.getElem?_eq_getElem (show T < P.length by rw [HN2.out]; omega), Option.map_some] at hcl; have hfr := ho3.frozenAt T; have ho4 := own_set ho3 T q; have b4 := b3.setCell (p := ⟨g, T, none⟩) (Nat.le_trans bw.size hgb) (.int .u8 q); have hob := open_any (some ⟨g, 0, none⟩) n c3 (P.set T q) _ (Byt.own ho4) (Nat.le_refl _) (by rw [List.length_set]; exact HN2.out) HB2.out hnc3 hcm3; rw [HO.out] at hob; have HOB := Lib.hid hob; clear hob ho3 ho4 hg3 b3; simp only [maxLen] at hcm3)
                    refine HOB.out.mono ?_
                    rintro e w5 ⟨rfl, hb5⟩
                    go_wp2
                    go_ret
                    exact ⟨rfl, b4.trans (hb5.mono b4.size)⟩
                  · have HO := Lib.hid hcase
                    clear hcase hmid' hT
                    go_wp2_with (at_builtin; refine wpList_append_byt (o := ⟨some 72, _, _, _, _, _⟩) _ rfl _ _ 22 rfl w2.heap.size 5 i0 Try.underlying22 hi hz0 hz1 hz2 _ 0 [] rfl (World.ownsRow_nil _ _ _ _) w2.heap.size (some ⟨b, off, none⟩) n c P rfl HY2.out HN2.out (fun e => by cases e) (by omega) (Nat.le_refl _) ?_; intro v3 w3 ho3 hg3; rw [Nat.zero_add, List.nil_append] at ho3; obtain ⟨g, c3, rfl, hgb, hnc3, hcm3⟩ := own_form ho3 (by omega); have b3 := bw.grown hg3 bw.size (fun g hg => by cases hg); have hcl := ho3.cellAt T (by omega); rw [List.getElem?_map, List.getElem?_eq_getElem (show T < P.length by rw [HN2.out]; omega), Option.map_some] at hcl; have hfr := ho3.frozenAt T; have ho4 := own_set ho3 T q; have b4 := b3.setCell (p := ⟨g, T, none⟩) (Nat.le_trans bw.size hgb) (.int .u8 q); have hob := open_any (some ⟨g, 0, none⟩) n c3 (P.set T q) _ (Byt.own ho4) (Nat.le_refl _) (by rw [List.length_set]; exact HN2.out) HB2.out hnc3 hcm3; rw [HO.out] at hob; have HOB := Lib.hid hob; clear hob ho3 ho4 hg3 b3; simp only [maxLen] at hcm3)
                    refine HOB.out.mono ?_
                    rintro e w5 ⟨rfl, hb5⟩
                    go_wp2
                    go_ret
                    exact ⟨rfl, b4.trans (hb5.mono b4.size)⟩
                · have hcase' : opn (P.set T q) = .check := hcase.resolve_right (fun h => hT0 h.1)
                  have HO := Lib.hid hcase'
                  have g1 : 0 < (T : Int) := by omega
                  have g2 : ¬ (T : Int) < (n : Int) - 4 - len1 := by omega
                  clear hcase hcase' hmid'
                  go_wp2_with (at_builtin; refine wpList_append_byt (o := ⟨some 72, _, _, _, _, _⟩) _ rfl _ _ 22 rfl w2.heap.size 5 i0 Try.underlying22 hi hz0 hz1 hz2 _ 0 [] rfl (World.ownsRow_nil _ _ _ _) w2.heap.size (some ⟨b, off, none⟩) n c P rfl HY2.out HN2.out (fun e => by cases e) (by omega) (Nat.le_refl _) ?_; intro v3 w3 ho3 hg3; rw [Nat.zero_add, List.nil_append] at ho3; obtain ⟨g, c3, rfl, hgb, hnc3, hcm3⟩ := own_form ho3 (by omega); have b3 := bw.grown hg3 bw.size (fun g hg => by cases hg); have hcl := ho3.cellAt T (by omega); rw [List.getElem?_map, List.getElem?_eq_getElem (show T < P.length by rw [HN2.out]; omega), Option.map_some] at hcl; have hfr := ho3.frozenAt T; have ho4 := own_set ho3 T q; have b4 := b3.setCell (p := ⟨g, T, none⟩) (Nat.le_trans bw.size hgb) (.int .u8 q); have hob := open_any (some ⟨g, 0, none⟩) n c3 (P.set T q) _ (Byt.own ho4) (Nat.le_refl _) (by rw [List.length_set]; exact HN2.out) HB2.out hnc3 hcm3; rw [HO.out] at hob; have HOB := Lib.hid hob; clear hob ho3 ho4 hg3 b3; simp only [maxLen] at hcm3)
                  refine HOB.out.mono ?_
                  rintro e w5 ⟨rfl, hb5⟩
                  go_wp2
                  go_ret
                  exact ⟨rfl, b4.trans (hb5.mono b4.size)⟩
  · have hk' : k < 0 ∨ 9 < k := by omega
    go_enter Try.func5, Try.ntmps5
    go_wp2_with fail
    refine (awake_any _).mono ?_
    rintro e w1 ⟨rfl, hb1⟩
    go_wp2_with fail
    refine (pack_kind k a1 len1 cap1 _ hk' m0 m1).mono ?_
    rintro e w2 ⟨rfl, rfl⟩
    go_wp2
    go_ret
    exact ⟨rfl, hb1⟩
end Go.Proofs.Ytneiaioddjabeaa
