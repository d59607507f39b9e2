/-
  The law WireTells: for every number, text and word, all bytes and every bound it answers true, and nothing that was there is written.
-/
import Derived.Test.YteipdmckphebmaaAwake
import Derived.Test.YteipdmckphebmaaRef01
namespace Go.Proofs.Yteipdmckphebmaa
open Go.RowKit WM
set_option linter.unusedVariables false
theorem getV_form (x : Option (Int × Nat)) : ∃ (y u : Int) (t : Bool), getV x = .tuple #[.int .u64 y, .int .i64 u, .bool t] := by
  cases x with
  | none => exact ⟨_, _, _, rfl⟩
  | some p => exact ⟨_, _, _, rfl⟩
theorem readV_form (x : Option (List Int × Nat)) : ∃ (s : ByteArray) (u : Int) (t : Bool), readV x = .tuple #[.string s, .int .i64 u, .bool t] := by
  cases x with
  | none => exact ⟨_, _, _, rfl⟩
  | some p => exact ⟨_, _, _, rfl⟩
theorem four_form {B : Nat} (A : Option Addr) (len cap : Nat) (zs : List Int) (h : ∀ w : World, True) (hl : zs.length = len) (hb : AllBytes zs) (hm : len ≤ maxLen) : ∃ (y : Int) (t : Bool), ∀ w : World, Byt w B A zs →
    (Calls Try.prog 17 #[.slice A len cap] w fun e w' => e = .returned (.tuple #[.int .u32 y, .bool t]) ∧ w = w') ∧
    (Calls Try.prog 18 #[.slice A len cap] w fun e w' => e = .returned (.tuple #[.int .u32 y, .bool t]) ∧ Below w.heap.size w w') := by
  by_cases h4 : len = 4
  · subst h4
    exact ⟨unword zs, true, fun w hw => ⟨four_yes A cap zs w hw hl hb, rfour_yes A cap zs w hw hl hb⟩⟩
  · refine ⟨0, false, fun w hw => ⟨four_no A len cap w h4 hm, (rfour_no A len cap w h4 hm).mono ?_⟩⟩
    rintro e w' ⟨rfl, rfl⟩
    exact ⟨rfl, Below.refl _ _⟩
set_option maxHeartbeats 2000000 in
theorem walk_wireTells (n : Int) (s : ByteArray) (q : Int) (a3 : Option Addr) (len3 cap3 : Nat) (z3 : List Int) (most : Int) (w : World) (w0 : (Lit.int .u64 n).wf = true) (w1 : s.size ≤ maxLen) (w2 : (Lit.int .u32 q).wf = true) (w3 : IsRow .u8 w a3 len3 cap3 z3) (w4 : (Lit.int .i64 most).wf = true) :
    Calls Try.prog 3 #[.int .u64 n, .string s, .int .u32 q, .slice a3 len3 cap3, .int .i64 most] w fun e w' => e = .returned (.bool true) ∧ Below w.heap.size w w' := by
  obtain ⟨h0, h1⟩ := bounds_u64 w0
  have hq := bounds_u32 w2
  obtain ⟨m0, m1⟩ := bounds_i64 w4
  obtain ⟨hby, hlen, hbs, hlc, hcm⟩ := w3.byt
  simp only [maxLen] at w1
  clear w0 w2 w3 w4
  generalize z3.take len3 = zs at hby hlen hbs
  by_cases h300 : s.size ≤ 300 ∧ len3 ≤ 300
  · obtain ⟨hs300, hl300⟩ := h300
    obtain ⟨F, cv, hF⟩ := cvt_ex
    obtain ⟨gy, gu, gt, hgv⟩ := getV_form (dec zs)
    obtain ⟨ry, ru, rt, hrv⟩ := readV_form (rd zs most)
    obtain ⟨fy, ft, hfv⟩ := four_form (B := w.heap.size) a3 len3 cap3 zs (fun _ => trivial) hlen hbs (by omega)
    have c1 : ∀ w' : World, Byt w' w.heap.size a3 zs → Calls Try.prog 13 #[.slice a3 len3 cap3] w' fun e w'' => e = .returned (.tuple #[.int .u64 gy, .int .i64 gu, .bool gt]) ∧ w' = w'' := fun w' hw => by
      rw [← hgv]; exact get_any a3 len3 cap3 zs w' hw hlen hbs (by omega)
    have c2 : ∀ w' : World, Byt w' w.heap.size a3 zs → w.heap.size ≤ w'.heap.size → Calls Try.prog 14 #[.slice a3 len3 cap3] w' fun e w'' => e = .returned (.tuple #[.int .u64 gy, .int .i64 gu, .bool gt]) ∧ Below w'.heap.size w' w'' := fun w' hw hs => by
      rw [← hgv]; exact rget_any a3 len3 cap3 zs w' hw hlen hbs hlc hcm hs
    have c3 : ∀ w' : World, Byt w' w.heap.size a3 zs → Calls Try.prog 15 #[.slice a3 len3 cap3, .int .i64 most] w' fun e w'' => e = .returned (.tuple #[.string ry, .int .i64 ru, .bool rt]) ∧ w' = w'' := fun w' hw => by
      rw [← hrv]; exact read_any a3 len3 cap3 zs most w' hw hlen hbs hlc hcm
    have c4 : ∀ w' : World, Byt w' w.heap.size a3 zs → w.heap.size ≤ w'.heap.size → Calls Try.prog 16 #[.slice a3 len3 cap3, .int .i64 most] w' fun e w'' => e = .returned (.tuple #[.string ry, .int .i64 ru, .bool rt]) ∧ Below w'.heap.size w' w'' := fun w' hw hs => by
      rw [← hrv]; exact rread_any a3 len3 cap3 zs most w' hw hlen hbs hlc hcm hs m0 m1
    have C1 := Lib.hid c1
    have C2 := Lib.hid c2
    have C3 := Lib.hid c3
    have C4 := Lib.hid c4
    have C5 := Lib.hid hfv
    have HF := Lib.hid hF
    have HB := Lib.hid hby
    have CV := Lib.hid cv
    clear c1 c2 c3 c4 hfv hF hby cv hgv hrv hlen hbs
    go_enter Try.func3, Try.ntmps3
    go_wp2_with fail
    refine (awake_any _).mono ?_
    rintro e w1 ⟨rfl, hb1⟩
    go_wp2_with fail
    refine (C1.out _ (HB.out.below hb1)).mono ?_
    rintro e w2 ⟨rfl, rfl⟩
    go_wp2_with fail
    refine (C2.out _ (HB.out.below hb1) hb1.size).mono ?_
    rintro e w2 ⟨rfl, hb2⟩
    have b2 := hb1.trans (hb2.mono hb1.size)
    go_wp2_with fail
    refine (C3.out _ (HB.out.below b2)).mono ?_
    rintro e w3 ⟨rfl, rfl⟩
    go_wp2_with fail
    refine (C4.out _ (HB.out.below b2) b2.size).mono ?_
    rintro e w4 ⟨rfl, hb4⟩
    have b4 := b2.trans (hb4.mono b2.size)
    go_wp2_with fail
    refine (C5.out _ (HB.out.below b4)).1.mono ?_
    rintro e w5 ⟨rfl, rfl⟩
    go_wp2_with fail
    refine (C5.out _ (HB.out.below b4)).2.mono ?_
    rintro e w6 ⟨rfl, hb6⟩
    have b6 := b4.trans (hb6.mono b4.size)
    clear hb1 hb2 hb4 hb6 b2 b4 C1 C2 C3 C4 C5
    go_wp2_with fail
    have cv := CV.out
    refine wp_region_held_drew (S := fun w' => Below w6.drew.heap.size w6.drew w') (by kernel_rfl) (Below.refl _ _) (fun hS => ?_)
    refine wpAnyH_take (i := 0) (oi := ⟨some 79, _, _, _, _, _⟩) (v := ?_) rfl (by kernel_rfl) (by kernel_rfl) (by kernel_rfl) (fun _ _ _ h => h) (Or.inl ⟨by rfl, ?_⟩) hS ?_; rotate_left; (focus (intro w9 hSw; (try dsimp only at hSw); go_simp; try with_reducible rfl)); simp only [Act.put, List.setIfInBounds_toArray, List.set_cons_zero, List.set_cons_succ]
    refine wpAnyH_take (i := 3) (oi := ⟨some 82, _, _, _, _, _⟩) (v := ?_) rfl (by kernel_rfl) (by kernel_rfl) (by kernel_rfl) (fun _ _ _ h => h) (Or.inl ⟨by rfl, ?_⟩) hS ?_; rotate_left; (focus (intro w9 hSw; (try dsimp only at hSw); go_simp; try with_reducible rfl)); simp only [Act.put, List.setIfInBounds_toArray, List.set_cons_zero, List.set_cons_succ]
    refine wpAnyH_ready (rs := [1]) (by kernel_rfl) (by simp) (AllReadyH.cons (o := ⟨some 80, _, _, _, _, _⟩) rfl (fun K hK => ?_) AllReadyH.nil)
    go_simp
    refine (put_gives n _ h0 h1).mono ?_
    rintro e x0 ⟨A0, n0, c0, rfl, hn0, _, _, hown0, hb0⟩
    have bk0 := ((Below.refl w6.heap.size w6).drew).trans (hb0.mono (Nat.le_refl _))
    have by0 := Lib.hid (Byt.own (zs := enc n) hown0)
    have HN0 := Lib.hid hn0
    clear hS hown0 hn0
    refine hK.out _ _ hb0 (fun _ => ?_)
    clear hK K
    refine wpAnyH_sub (S' := fun w' => Below x0.heap.size x0 w') (fun _ h => hb0.trans (h.mono hb0.size)) ?_
    have hS := Below.refl x0.heap.size x0
    refine wpAnyH_take (i := 2) (oi := ⟨some 81, _, _, _, _, _⟩) (v := ?_) rfl (by kernel_rfl) (by kernel_rfl) (by kernel_rfl) (fun _ _ _ h => h) (Or.inl ⟨by rfl, ?_⟩) hS ?_; rotate_left; (focus (intro w9 hSw; (try dsimp only at hSw); have t9 := HF.out w9 _ _ _ (by0.out.below hSw) n0 c0 HN0.out; go_simp; try with_reducible rfl)); simp only [Act.put, List.setIfInBounds_toArray, List.set_cons_zero, List.set_cons_succ]
    refine wpAnyH_ready (rs := [4]) (by kernel_rfl) (by simp) (AllReadyH.cons (o := ⟨some 83, _, _, _, _, _⟩) rfl (fun K hK => ?_) AllReadyH.nil)
    go_simp
    refine (rput_any n _ h0 h1).mono ?_
    rintro e x1 ⟨A1, n1, c1, rfl, hn1, _, _, hown1, hb1⟩
    have bk1 := bk0.trans (hb1.mono bk0.size)
    have by1 := Lib.hid (Byt.own (zs := enc n) hown1)
    have HN1 := Lib.hid hn1
    clear hS hown1 hn1
    refine hK.out _ _ hb1 (fun _ => ?_)
    clear hK K
    refine wpAnyH_sub (S' := fun w' => Below x1.heap.size x1 w') (fun _ h => hb1.trans (h.mono hb1.size)) ?_
    have hS := Below.refl x1.heap.size x1
    refine wpAnyH_take (i := 5) (oi := ⟨some 84, _, _, _, _, _⟩) (v := ?_) rfl (by kernel_rfl) (by kernel_rfl) (by kernel_rfl) (fun _ _ _ h => h) (Or.inl ⟨by rfl, ?_⟩) hS ?_; rotate_left; (focus (intro w9 hSw; (try dsimp only at hSw); have t9 := HF.out w9 _ _ _ (by1.out.below hSw) n1 c1 HN1.out; go_simp; try with_reducible rfl)); simp only [Act.put, List.setIfInBounds_toArray, List.set_cons_zero, List.set_cons_succ]
    refine wpAnyH_take (i := 6) (oi := ⟨some 85, _, _, _, _, _⟩) (v := ?_) rfl (by kernel_rfl) (by kernel_rfl) (by kernel_rfl) (fun _ _ _ h => h) (Or.inl ⟨by rfl, ?_⟩) hS ?_; rotate_left; (focus (intro w9 hSw; (try dsimp only at hSw); go_simp; try with_reducible rfl)); simp only [Act.put, List.setIfInBounds_toArray, List.set_cons_zero, List.set_cons_succ]
    refine wpAnyH_take (i := 7) (oi := ⟨some 86, _, _, _, _, _⟩) (v := ?_) rfl (by kernel_rfl) (by kernel_rfl) (by kernel_rfl) (fun _ _ _ h => h) (Or.inl ⟨by rfl, ?_⟩) hS ?_; rotate_left; (focus (intro w9 hSw; (try dsimp only at hSw); go_simp; try with_reducible rfl)); simp only [Act.put, List.setIfInBounds_toArray, List.set_cons_zero, List.set_cons_succ]
    refine wpAnyH_take (i := 8) (oi := ⟨some 87, _, _, _, _, _⟩) (v := ?_) rfl (by kernel_rfl) (by kernel_rfl) (by kernel_rfl) (fun _ _ _ h => h) (Or.inl ⟨by rfl, ?_⟩) hS ?_; rotate_left; (focus (intro w9 hSw; (try dsimp only at hSw); go_simp; try with_reducible rfl)); simp only [Act.put, List.setIfInBounds_toArray, List.set_cons_zero, List.set_cons_succ]
    refine wpAnyH_take (i := 11) (oi := ⟨some 90, _, _, _, _, _⟩) (v := ?_) rfl (by kernel_rfl) (by kernel_rfl) (by kernel_rfl) (fun _ _ _ h => h) (Or.inl ⟨by rfl, ?_⟩) hS ?_; rotate_left; (focus (intro w9 hSw; (try dsimp only at hSw); go_simp; try with_reducible rfl)); simp only [Act.put, List.setIfInBounds_toArray, List.set_cons_zero, List.set_cons_succ]
    refine wpAnyH_ready (rs := [9]) (by kernel_rfl) (by simp) (AllReadyH.cons (o := ⟨some 88, _, _, _, _, _⟩) rfl (fun K hK => ?_) AllReadyH.nil)
    go_simp
    refine (text_gives s _ (by omega)).mono ?_
    rintro e x2 ⟨A2, n2, c2, rfl, hn2, _, _, hown2, hb2⟩
    have bk2 := bk1.trans (hb2.mono bk1.size)
    have by2 := Lib.hid (Byt.own (zs := txt s) hown2)
    have HN2 := Lib.hid hn2
    clear hS hown2 hn2
    refine hK.out _ _ hb2 (fun _ => ?_)
    clear hK K
    refine wpAnyH_sub (S' := fun w' => Below x2.heap.size x2 w') (fun _ h => hb2.trans (h.mono hb2.size)) ?_
    have hS := Below.refl x2.heap.size x2
    refine wpAnyH_take (i := 10) (oi := ⟨some 89, _, _, _, _, _⟩) (v := ?_) rfl (by kernel_rfl) (by kernel_rfl) (by kernel_rfl) (fun _ _ _ h => h) (Or.inl ⟨by rfl, ?_⟩) hS ?_; rotate_left; (focus (intro w9 hSw; (try dsimp only at hSw); have t9 := HF.out w9 _ _ _ (by2.out.below hSw) n2 c2 HN2.out; go_simp; try with_reducible rfl)); simp only [Act.put, List.setIfInBounds_toArray, List.set_cons_zero, List.set_cons_succ]
    refine wpAnyH_ready (rs := [12]) (by kernel_rfl) (by simp) (AllReadyH.cons (o := ⟨some 91, _, _, _, _, _⟩) rfl (fun K hK => ?_) AllReadyH.nil)
    go_simp
    refine (rtext_gives s _ (by omega)).mono ?_
    rintro e x3 ⟨A3, n3, c3, rfl, hn3, _, _, hown3, hb3⟩
    have bk3 := bk2.trans (hb3.mono bk2.size)
    have by3 := Lib.hid (Byt.own (zs := txt s) hown3)
    have HN3 := Lib.hid hn3
    clear hS hown3 hn3
    refine hK.out _ _ hb3 (fun _ => ?_)
    clear hK K
    refine wpAnyH_sub (S' := fun w' => Below x3.heap.size x3 w') (fun _ h => hb3.trans (h.mono hb3.size)) ?_
    have hS := Below.refl x3.heap.size x3
    refine wpAnyH_take (i := 13) (oi := ⟨some 92, _, _, _, _, _⟩) (v := ?_) rfl (by kernel_rfl) (by kernel_rfl) (by kernel_rfl) (fun _ _ _ h => h) (Or.inl ⟨by rfl, ?_⟩) hS ?_; rotate_left; (focus (intro w9 hSw; (try dsimp only at hSw); have t9 := HF.out w9 _ _ _ (by3.out.below hSw) n3 c3 HN3.out; go_simp; try with_reducible rfl)); simp only [Act.put, List.setIfInBounds_toArray, List.set_cons_zero, List.set_cons_succ]
    refine wpAnyH_take (i := 14) (oi := ⟨some 93, _, _, _, _, _⟩) (v := ?_) rfl (by kernel_rfl) (by kernel_rfl) (by kernel_rfl) (fun _ _ _ h => h) (Or.inl ⟨by rfl, ?_⟩) hS ?_; rotate_left; (focus (intro w9 hSw; (try dsimp only at hSw); go_simp; try with_reducible rfl)); simp only [Act.put, List.setIfInBounds_toArray, List.set_cons_zero, List.set_cons_succ]
    refine wpAnyH_take (i := 15) (oi := ⟨some 94, _, _, _, _, _⟩) (v := ?_) rfl (by kernel_rfl) (by kernel_rfl) (by kernel_rfl) (fun _ _ _ h => h) (Or.inl ⟨by rfl, ?_⟩) hS ?_; rotate_left; (focus (intro w9 hSw; (try dsimp only at hSw); go_simp; try with_reducible rfl)); simp only [Act.put, List.setIfInBounds_toArray, List.set_cons_zero, List.set_cons_succ]
    refine wpAnyH_take (i := 16) (oi := ⟨some 95, _, _, _, _, _⟩) (v := ?_) rfl (by kernel_rfl) (by kernel_rfl) (by kernel_rfl) (fun _ _ _ h => h) (Or.inl ⟨by rfl, ?_⟩) hS ?_; rotate_left; (focus (intro w9 hSw; (try dsimp only at hSw); go_simp; try with_reducible rfl)); simp only [Act.put, List.setIfInBounds_toArray, List.set_cons_zero, List.set_cons_succ]
    refine wpAnyH_take (i := 17) (oi := ⟨some 96, _, _, _, _, _⟩) (v := ?_) rfl (by kernel_rfl) (by kernel_rfl) (by kernel_rfl) (fun _ _ _ h => h) (Or.inl ⟨by rfl, ?_⟩) hS ?_; rotate_left; (focus (intro w9 hSw; (try dsimp only at hSw); go_simp; try with_reducible rfl)); simp only [Act.put, List.setIfInBounds_toArray, List.set_cons_zero, List.set_cons_succ]
    refine wpAnyH_take (i := 20) (oi := ⟨some 99, _, _, _, _, _⟩) (v := ?_) rfl (by kernel_rfl) (by kernel_rfl) (by kernel_rfl) (fun _ _ _ h => h) (Or.inl ⟨by rfl, ?_⟩) hS ?_; rotate_left; (focus (intro w9 hSw; (try dsimp only at hSw); go_simp; try with_reducible rfl)); simp only [Act.put, List.setIfInBounds_toArray, List.set_cons_zero, List.set_cons_succ]
    refine wpAnyH_ready (rs := [18]) (by kernel_rfl) (by simp) (AllReadyH.cons (o := ⟨some 97, _, _, _, _, _⟩) rfl (fun K hK => ?_) AllReadyH.nil)
    go_simp
    refine (word_gives q _ hq.1 hq.2).mono ?_
    rintro e x4 ⟨A4, n4, c4, rfl, hn4, _, _, hown4, hb4⟩
    have bk4 := bk3.trans (hb4.mono bk3.size)
    have by4 := Lib.hid (Byt.own (zs := word q) hown4)
    have HN4 := Lib.hid hn4
    clear hS hown4 hn4
    refine hK.out _ _ hb4 (fun _ => ?_)
    clear hK K
    refine wpAnyH_sub (S' := fun w' => Below x4.heap.size x4 w') (fun _ h => hb4.trans (h.mono hb4.size)) ?_
    have hS := Below.refl x4.heap.size x4
    refine wpAnyH_take (i := 19) (oi := ⟨some 98, _, _, _, _, _⟩) (v := ?_) rfl (by kernel_rfl) (by kernel_rfl) (by kernel_rfl) (fun _ _ _ h => h) (Or.inl ⟨by rfl, ?_⟩) hS ?_; rotate_left; (focus (intro w9 hSw; (try dsimp only at hSw); have t9 := HF.out w9 _ _ _ (by4.out.below hSw) n4 c4 HN4.out; go_simp; try with_reducible rfl)); simp only [Act.put, List.setIfInBounds_toArray, List.set_cons_zero, List.set_cons_succ]
    refine wpAnyH_ready (rs := [21]) (by kernel_rfl) (by simp) (AllReadyH.cons (o := ⟨some 100, _, _, _, _, _⟩) rfl (fun K hK => ?_) AllReadyH.nil)
    go_simp
    refine (rword_gives q _ hq.1 hq.2).mono ?_
    rintro e x5 ⟨A5, n5, c5, rfl, hn5, _, _, hown5, hb5⟩
    have bk5 := bk4.trans (hb5.mono bk4.size)
    have by5 := Lib.hid (Byt.own (zs := word q) hown5)
    have HN5 := Lib.hid hn5
    clear hS hown5 hn5
    refine hK.out _ _ hb5 (fun _ => ?_)
    clear hK K
    refine wpAnyH_sub (S' := fun w' => Below x5.heap.size x5 w') (fun _ h => hb5.trans (h.mono hb5.size)) ?_
    have hS := Below.refl x5.heap.size x5
    refine wpAnyH_take (i := 22) (oi := ⟨some 101, _, _, _, _, _⟩) (v := ?_) rfl (by kernel_rfl) (by kernel_rfl) (by kernel_rfl) (fun _ _ _ h => h) (Or.inl ⟨by rfl, ?_⟩) hS ?_; rotate_left; (focus (intro w9 hSw; (try dsimp only at hSw); have t9 := HF.out w9 _ _ _ (by5.out.below hSw) n5 c5 HN5.out; go_simp; try with_reducible rfl)); simp only [Act.put, List.setIfInBounds_toArray, List.set_cons_zero, List.set_cons_succ]
    refine wpAnyH_take (i := 23) (oi := ⟨some 102, _, _, _, _, _⟩) (v := ?_) rfl (by kernel_rfl) (by kernel_rfl) (by kernel_rfl) (fun _ _ _ h => h) (Or.inl ⟨by rfl, ?_⟩) hS ?_; rotate_left; (focus (intro w9 hSw; (try dsimp only at hSw); go_simp; try with_reducible rfl)); simp only [Act.put, List.setIfInBounds_toArray, List.set_cons_zero, List.set_cons_succ]
    refine wpAnyH_take (i := 24) (oi := ⟨some 103, _, _, _, _, _⟩) (v := ?_) rfl (by kernel_rfl) (by kernel_rfl) (by kernel_rfl) (fun _ _ _ h => h) (Or.inl ⟨by rfl, ?_⟩) hS ?_; rotate_left; (focus (intro w9 hSw; (try dsimp only at hSw); go_simp; try with_reducible rfl)); simp only [Act.put, List.setIfInBounds_toArray, List.set_cons_zero, List.set_cons_succ]
    refine wpAnyH_take (i := 25) (oi := ⟨some 28, _, _, _, _, _⟩) (v := ?_) rfl (by kernel_rfl) (by kernel_rfl) (by kernel_rfl) (fun _ _ _ h => h) (Or.inl ⟨by rfl, ?_⟩) hS ?_; rotate_left; (focus (intro w9 hSw; (try dsimp only at hSw); go_simp; try with_reducible rfl)); simp only [Act.put, List.setIfInBounds_toArray, List.set_cons_zero, List.set_cons_succ]
    refine wpAnyH_done (by kernel_rfl) ?_ _
    clear cv hS
    go_wp2
    go_ret
    exact ⟨rfl, b6.trans (bk5.mono b6.size)⟩
  · simp only [maxLen] at hcm
    have h300' : 300 < s.size ∨ (s.size ≤ 300 ∧ 300 < len3) := by omega
    rcases h300' with h | ⟨h, h'⟩
    · go_enter Try.func3, Try.ntmps3
      go_wp2_with (go_at_call 12; refine (awake_any _).mono ?_; rintro e w1 ⟨rfl, hb1⟩)
      go_ret
      exact ⟨rfl, hb1⟩
    · go_enter Try.func3, Try.ntmps3
      go_wp2_with (go_at_call 12; refine (awake_any _).mono ?_; rintro e w1 ⟨rfl, hb1⟩)
      go_ret
      exact ⟨rfl, hb1⟩
end Go.Proofs.Yteipdmckphebmaa
