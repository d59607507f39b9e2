/-
  The law WireCut: for every number, text and place it answers true, and nothing that was there is written.
-/
import Derived.Test.YteipdmckphebmaaAwake
namespace Go.Proofs.Yteipdmckphebmaa
open Go.RowKit WM
set_option linter.unusedVariables false
theorem dec_cut {n : Int} {k : Nat} (h0 : 0 ≤ n) (h1 : n ≤ 18446744073709551615) (hk : k < (enc n).length) : dec ((enc n).take k) = none := by
  match hd : dec ((enc n).take k) with
  | none => rfl
  | some (m, j) =>
    obtain ⟨j1, j2, j3, j4, j5⟩ := dec_some (fun z hz => enc_bytes n z (List.mem_of_mem_take hz)) hd
    rw [List.length_take] at j2
    rw [List.take_take, Nat.min_eq_left (by omega)] at j3
    have e1 := dec_enc n [] h0 h1
    have e2 := dec_enc m ((enc n).drop j) j4 j5
    rw [j3, List.take_append_drop] at e2
    rw [List.append_nil, e2] at e1
    simp only [Option.some.injEq, Prod.mk.injEq, List.length_take] at e1
    omega
theorem dec_zero (l : List Int) : dec (128 :: l) = none := by unfold dec; rw [decR]; simp
theorem rd_cut {s : ByteArray} {k : Nat} (hs : s.size ≤ 100) (hk : k < (txt s).length) : rd ((txt s).take k) 100 = none := by
  match hd : rd ((txt s).take k) 100 with
  | none => rfl
  | some (t, j) =>
    obtain ⟨j1, j2, j3, j4, j5⟩ := rd_some (fun z hz => txt_bytes s z (List.mem_of_mem_take hz)) hd
    rw [List.length_take] at j1
    rw [List.take_take, Nat.min_eq_left (by omega)] at j3
    have hts : (strOfNums t).size ≤ 100 := by rw [strOfNums_size]; omega
    have e1 := rd_txt s [] 100 (by omega)
    have e2 := rd_txt (strOfNums t) ((txt s).drop j) 100 (by omega)
    rw [j3, List.take_append_drop] at e2
    rw [List.append_nil, e2, if_pos (by omega), if_pos (by omega)] at e1
    simp only [Option.some.injEq, Prod.mk.injEq, List.length_take] at e1
    omega

theorem own_nil {w : World} {base n c : Nat} {e : TypeId} {A : Option Addr} {xs : List Value} (h : w.ownsRow base e 1 (.slice A n c) n xs) (hA : A = none) : c = 0 := by
  rcases h.2 with ⟨h1, _⟩ | ⟨g, cap, cur, h1, _⟩
  · injection h1
  · injection h1 with h1; rw [hA] at h1; cases h1

theorem get128 {w w5 : World} {v : Value} {n : Nat} {zs : List Int} (ho : w5.ownsRow w.heap.size 5 1 v n (([128] ++ zs).map (Value.int .u8))) (hb : AllBytes zs) (hl : n ≤ 1000) : ∃ A n' c, v = .slice A n' c ∧
    Hid (Calls Try.prog 13 #[.slice A n' c] w5 fun e w' => e = .returned (.tuple #[.int .u64 0, .int .i64 0, .bool false]) ∧ w5 = w') := by
  have hn : ([128] ++ zs).length = n := by simpa using ho.1
  rcases ho.2 with ⟨rfl, rfl⟩ | ⟨g, cap, cur, rfl, _⟩
  · simp at hn
  · refine ⟨_, _, _, rfl, Lib.hid ?_⟩
    have := get_any _ n cap ([128] ++ zs) w5 (Byt.own ho) hn (fun z hz => by
      rcases List.mem_append.1 hz with h | h
      · simp at h; omega
      · exact hb z h) (by simp only [maxLen]; omega)
    rwa [List.singleton_append, dec_zero] at this
set_option maxHeartbeats 1000000 in
theorem walk_wireCut (n : Int) (s : ByteArray) (a2 : Int) (w0 : (Lit.int .u64 n).wf = true) (w1 : s.size ≤ maxLen) (w2 : (Lit.int .i64 a2).wf = true) (w : World) :
    Calls Try.prog 8 #[.int .u64 n, .string s, .int .i64 a2] w fun e w' => e = .returned (.bool true) ∧ Below w.heap.size w w' := by
  obtain ⟨h0, h1⟩ := bounds_u64 w0
  obtain ⟨h2, h3⟩ := bounds_i64 w2
  simp only [maxLen] at w1
  clear w0 w2
  by_cases hs : s.size ≤ 100
  · by_cases ha : 0 ≤ a2
    · obtain ⟨k, rfl⟩ : ∃ k : Nat, a2 = k := ⟨a2.toNat, by omega⟩
      obtain ⟨i0, hi, hz0, hz1, hz2⟩ := info_parts infoByte
      go_enter Try.func8, Try.ntmps8
      go_wp2_with fail
      refine (awake_any _).mono ?_
      rintro e w1 ⟨rfl, hb1⟩
      go_wp2_with fail
      refine (put_gives n _ h0 h1).mono ?_
      rintro e w2 ⟨A, L, c, rfl, hn, hnc, hcm, hown, hb2⟩
      have HN := Lib.hid hn
      have hLL := enc_len n
      rw [hn] at hLL
      have hbel := hb1.trans (hb2.mono hb1.size)
      have hby := Lib.hid (Byt.own (zs := enc n) hown)
      have hnil := Lib.hid (own_nil hown)
      clear hn hb1 hb2 hown
      go_wp2_with fail
      refine (text_gives s _ (by omega)).mono ?_
      rintro e w3 ⟨A3, L3, c3, rfl, hn3, hnc3, hcm3, hown3, hb3⟩
      have HN3 := Lib.hid hn3
      have hby3 := Lib.hid (Byt.own (zs := txt s) hown3)
      have hby' := Lib.hid (hby.out.below hb3)
      have hL3 : L3 ≤ 200 := by
        have e1 := nums_len s
        have e2 := enc_len s.size
        rw [← hn3, txt, List.length_append]
        omega
      have hbel3 := hbel.trans (hb3.mono hbel.size)
      have hsz := hb3.size
      have bel5 : ∀ {o : Obj} {w5 : World}, (w3.alloc o).grownBy w5 (some w3.heap.size) → Below w3.heap.size w3 w5 := fun hg =>
        ((Below.refl _ _).alloc (Nat.le_refl _) _).grown hg (by simp) (fun g hg => by simp at hg; omega)
      clear hn3 hb3 hown3 hby hbel
      have G1 : k < L → Calls Try.prog 13 #[.slice A k c] w3 fun e w' => e = .returned (.tuple #[.int .u64 0, .int .i64 0, .bool false]) ∧ w3 = w' := fun hk => by
        have := get_any A k c ((enc n).take k) w3 (hby'.out.take k) (by rw [List.length_take, HN.out]; omega) (fun z hz => enc_bytes n z (List.mem_of_mem_take hz)) (by omega)
        rwa [dec_cut h0 h1 (by rw [HN.out]; exact hk)] at this
      have G2 : k < L3 → Calls Try.prog 15 #[.slice A3 k c3, .int .i64 100] w3 fun e w' => e = .returned (.tuple #[.string ⟨#[]⟩, .int .i64 0, .bool false]) ∧ w3 = w' := fun hk => by
        have := read_any A3 k c3 ((txt s).take k) 100 w3 (hby3.out.take k) (by rw [List.length_take, HN3.out]; omega) (fun z hz => txt_bytes s z (List.mem_of_mem_take hz)) (by omega) hcm3
        rwa [rd_cut hs (by rw [HN3.out]; exact hk)] at this
      have H1 := Lib.hid G1
      have H2 := Lib.hid G2
      clear G1 G2
      simp only [maxLen] at hcm hcm3
      by_cases hk1 : k < L <;> by_cases hk2 : k < L3
      all_goals
        go_wp2_with (first
          | (go_at_call 15; ((with_reducible refine (H2.out hk2).mono ?_); rintro e w4 ⟨rfl, rfl⟩))
          | (at_builtin; refine wpList_append_byt _ rfl _ _ 24 rfl w3.heap.size 5 i0 Try.underlying24 hi hz0 hz1 hz2 _ 1 [128] rfl (own_new w3 w3.heap.size (Nat.le_refl _) 5 [128] (by decide)) w2.heap.size A L c (enc n) rfl (hby'.out.move (fun p hp => World.cell?_alloc_lt w3 _ p (Nat.lt_of_lt_of_le hp hsz))) HN.out hnil.out (by omega) (by simp) ?_; intro v5 w5 ho5 hg5; have hb5 := bel5 hg5; obtain ⟨A5, n5, c5, rfl, H5⟩ := get128 ho5 (enc_bytes n) (by omega); clear ho5 hg5)
          | (go_at_call 13; ((with_reducible refine (H1.out hk1).mono ?_); rintro e w4 ⟨rfl, rfl⟩))
          | (go_at_call 13; ((with_reducible refine H5.out.mono ?_); rintro e w4 ⟨rfl, rfl⟩)))
        go_ret
        exact ⟨rfl, hbel3.trans (hb5.mono hbel3.size)⟩
    · have hb : a2 < 0 := by omega
      go_enter Try.func8, Try.ntmps8
      go_wp2_with (go_at_call 12; refine (awake_any _).mono ?_; rintro e w1 ⟨rfl, hb1⟩)
      go_ret
      exact ⟨rfl, hb1⟩
  · have hs' : 100 < s.size := by omega
    go_enter Try.func8, Try.ntmps8
    go_wp2_with (go_at_call 12; refine (awake_any _).mono ?_; rintro e w1 ⟨rfl, hb1⟩)
    go_ret
    exact ⟨rfl, hb1⟩
end Go.Proofs.Yteipdmckphebmaa
