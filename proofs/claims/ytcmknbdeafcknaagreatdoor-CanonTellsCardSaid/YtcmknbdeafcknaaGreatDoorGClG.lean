import Derived.Test.YtcmknbdeafcknaaGreatDoorGBase
section
/-
  What wire.Text answers.
-/
namespace Go.Proofs.YtcmknbdeafcknaaGreatDoor
open Go.RowKit WM
set_option linter.unusedVariables false

set_option maxHeartbeats 400000 in
theorem text_gives (s : ByteArray) (w : World) (hs : s.size ≤ 140737488355000) : Calls Tryz.prog 119 #[.string s] w (Gives w (txt s)) := by
  obtain ⟨i0, hi, hz0, hz1, hz2⟩ := info_parts infoByte
  have hel := enc_len s.size
  go_enter Tryz.func119, Tryz.ntmps119
  go_wp2_with (first
    | (go_at_call 57; refine (put_gives _ _ (by omega) (by omega)).mono ?_; rintro e w1 ⟨A, n, c, rfl, hn, hnc, hcm, hown, hbel⟩; have HN := Lib.hid hn; clear hn)
    | (at_builtin; refine Lib.wpList_append_own_string _ rfl _ _ 46 9 rfl w.heap.size 5 i0 Tryz.underlying46 Tryz.underlying9 hi hz0 hz1 hz2 (.slice A n c) n _ rfl hown s rfl ?h1 ?h2 hbel.size ?_; rotate_right; intro v2 w2 ho2 hg2 _))
  case h1 => have := HN.out; unfold maxLen; omega
  case h2 => have := HN.out; omega
  go_ret
  refine gives_own (n := n + s.size) ?_ (hbel.grown hg2 hbel.size (fun g hg => own_base hown hg))
  rw [txt, List.map_append, nums_cells]
  exact ho2
end Go.Proofs.YtcmknbdeafcknaaGreatDoor

end
section
/-
  What wire.Read answers.
-/
namespace Go.Proofs.YtcmknbdeafcknaaGreatDoor
open Go.RowKit WM
set_option linter.unusedVariables false
set_option maxRecDepth 20000

theorem read_none {B : Nat} (A : Option Addr) (len cap : Nat) (zs : List Int) (most : Int) (w : World) (h : Byt w B A zs) (hl : zs.length = len) (hb : AllBytes zs) (hm : len ≤ maxLen) (hd : dec zs = none) :
    Calls Tryz.prog 151 #[.slice A len cap, .int .i64 most] w fun e w' => e = .returned (.tuple #[.string ⟨#[]⟩, .int .i64 0, .bool false]) ∧ w = w' := by
  have hg := get_any A len cap zs w h hl hb hm
  rw [hd] at hg
  simp only [getV] at hg
  have HG := Lib.hid hg
  clear hg hd hl hb h
  simp only [maxLen] at hm
  go_enter Tryz.func151, Tryz.ntmps151
  go_wp2_with (go_at_call 120; refine HG.out.mono ?_; rintro e w1 ⟨rfl, rfl⟩)
  go_ret3
  exact ⟨rfl, rfl⟩
theorem read_short {B : Nat} (A : Option Addr) (len cap : Nat) (zs : List Int) (most : Int) (w : World) (n : Int) (k : Nat) (h : Byt w B A zs) (hl : zs.length = len) (hb : AllBytes zs) (hm : len ≤ maxLen) (hd : dec zs = some (n, k)) (hn : (len : Int) - k < n) :
    Calls Tryz.prog 151 #[.slice A len cap, .int .i64 most] w fun e w' => e = .returned (.tuple #[.string ⟨#[]⟩, .int .i64 0, .bool false]) ∧ w = w' := by
  have hg := get_any A len cap zs w h hl hb hm
  rw [hd] at hg
  simp only [getV] at hg
  have HG := Lib.hid hg
  have hk := dec_some hb hd
  obtain ⟨k1, k2, _, k4, k5⟩ := hk
  rw [hl] at k2
  clear hg hd hl hb h
  simp only [maxLen] at hm
  go_enter Tryz.func151, Tryz.ntmps151
  go_wp2_with (go_at_call 120; refine HG.out.mono ?_; rintro e w1 ⟨rfl, rfl⟩)
  go_ret3
  exact ⟨rfl, rfl⟩
theorem read_long {B : Nat} (A : Option Addr) (len cap : Nat) (zs : List Int) (most : Int) (w : World) (n : Int) (k : Nat) (h : Byt w B A zs) (hl : zs.length = len) (hb : AllBytes zs) (hm : len ≤ maxLen) (hd : dec zs = some (n, k)) (hn : n ≤ (len : Int) - k) (hmo : most < n) :
    Calls Tryz.prog 151 #[.slice A len cap, .int .i64 most] w fun e w' => e = .returned (.tuple #[.string ⟨#[]⟩, .int .i64 0, .bool false]) ∧ w = w' := by
  have hg := get_any A len cap zs w h hl hb hm
  rw [hd] at hg
  simp only [getV] at hg
  have HG := Lib.hid hg
  have hk := dec_some hb hd
  obtain ⟨k1, k2, _, k4, k5⟩ := hk
  rw [hl] at k2
  clear hg hd hl hb h
  simp only [maxLen] at hm
  go_enter Tryz.func151, Tryz.ntmps151
  go_wp2_with (go_at_call 120; refine HG.out.mono ?_; rintro e w1 ⟨rfl, rfl⟩)
  go_ret3
  exact ⟨rfl, rfl⟩
theorem read_yes {B : Nat} (A : Option Addr) (len cap : Nat) (zs : List Int) (most : Int) (w : World) (n : Nat) (k : Nat) (h : Byt w B A zs) (hl : zs.length = len) (hb : AllBytes zs) (hlc : len ≤ cap) (hm : cap ≤ maxLen) (hd : dec zs = some ((n : Int), k)) (hn : k + n ≤ len) (hmo : (n : Int) ≤ most) :
    Calls Tryz.prog 151 #[.slice A len cap, .int .i64 most] w fun e w' => e = .returned (.tuple #[.string (strOfNums ((zs.drop k).take n)), .int .i64 (k + n : Nat), .bool true]) ∧ w = w' := by
  have hg := get_any A len cap zs w h hl hb (by omega)
  rw [hd] at hg
  simp only [getV] at hg
  have HG := Lib.hid hg
  have hk := dec_some hb hd
  obtain ⟨k1, k2, _, k4, k5⟩ := hk
  rw [hl] at k2
  have ht := (h.drop (k := k) (cap := cap) (by omega)).take n
  have hlen : ((zs.drop k).take n).length = n := by rw [List.length_take, List.length_drop]; omega
  generalize (zs.drop k).take n = S at ht hlen ⊢
  clear hg hd hb h hl
  simp only [maxLen] at hm
  by_cases hck : cap = k
  · rw [if_pos hck] at ht
    have tA := ht.text (P := Tryz.prog) (cap := 0) hlen 46 5 9 Tryz.underlying46 Tryz.underlying5 Tryz.underlying9
    subst hck
    clear ht hlen
    go_enter Tryz.func151, Tryz.ntmps151
    go_wp2_with (go_at_call 120; refine HG.out.mono ?_; rintro e w1 ⟨rfl, rfl⟩)
    go_ret3
    exact ⟨ret3 rfl (by go_num) rfl, rfl⟩
  · rw [if_neg hck] at ht
    have tA := ht.text (P := Tryz.prog) (cap := cap - k) hlen 46 5 9 Tryz.underlying46 Tryz.underlying5 Tryz.underlying9
    clear ht hlen
    go_enter Tryz.func151, Tryz.ntmps151
    go_wp2_with (go_at_call 120; refine HG.out.mono ?_; rintro e w1 ⟨rfl, rfl⟩)
    go_ret3
    exact ⟨ret3 rfl (by go_num) rfl, rfl⟩

/-! ### Read, in one -/
def rd (zs : List Int) (most : Int) : Option (List Int × Nat) :=
  match dec zs with
  | none => none
  | some (n, k) => if (zs.length : Int) - k < n then none else if most < n then none else some ((zs.drop k).take n.toNat, k + n.toNat)
def readV : Option (List Int × Nat) → Value
  | none => .tuple #[.string ⟨#[]⟩, .int .i64 0, .bool false]
  | some (t, k) => .tuple #[.string (strOfNums t), .int .i64 k, .bool true]
theorem read_any {B : Nat} (A : Option Addr) (len cap : Nat) (zs : List Int) (most : Int) (w : World) (h : Byt w B A zs) (hl : zs.length = len) (hb : AllBytes zs) (hlc : len ≤ cap) (hm : cap ≤ maxLen) :
    Calls Tryz.prog 151 #[.slice A len cap, .int .i64 most] w fun e w' => e = .returned (readV (rd zs most)) ∧ w = w' := by
  unfold rd
  match hd : dec zs with
  | none => exact read_none A len cap zs most w h hl hb (by omega) hd
  | some (n, k) =>
    obtain ⟨k1, k2, _, k4, k5⟩ := dec_some hb hd
    by_cases h1 : (zs.length : Int) - k < n
    · simp only [if_pos h1]
      exact read_short A len cap zs most w n k h hl hb (by omega) hd (by omega)
    · simp only [if_neg h1]
      by_cases h2 : most < n
      · simp only [if_pos h2]
        exact read_long A len cap zs most w n k h hl hb (by omega) hd (by omega) h2
      · simp only [if_neg h2]
        obtain ⟨n, rfl⟩ : ∃ m : Nat, n = m := ⟨n.toNat, by omega⟩
        exact read_yes A len cap zs most w n k h hl hb hlc hm hd (by omega) (by omega)
theorem rd_txt (s : ByteArray) (t : List Int) (most : Int) (hs : s.size ≤ 140737488355000) : rd (txt s ++ t) most = if (s.size : Int) ≤ most then some (nums s, (txt s).length) else none := by
  have hn := nums_len s
  unfold rd txt
  rw [List.append_assoc, dec_enc _ _ (by omega) (by omega)]
  simp only [List.length_append, hn]
  rw [if_neg (by omega)]
  by_cases h : (s.size : Int) ≤ most
  · rw [if_neg (by omega), if_pos h, List.drop_left, Int.toNat_natCast, List.take_left' hn]
  · rw [if_pos (by omega), if_neg h]
theorem rd_some {zs : List Int} {most : Int} {t : List Int} {k : Nat} (hb : AllBytes zs) (h : rd zs most = some (t, k)) : k ≤ zs.length ∧ (t.length : Int) ≤ most ∧ txt (strOfNums t) = zs.take k ∧ AllBytes t ∧ 1 ≤ k := by
  unfold rd at h
  match hd : dec zs with
  | none => rw [hd] at h; cases h
  | some (n, j) =>
    rw [hd] at h
    obtain ⟨k1, k2, k3, k4, k5⟩ := dec_some hb hd
    by_cases h1 : (zs.length : Int) - j < n
    · simp only [if_pos h1] at h; cases h
    · simp only [if_neg h1] at h
      by_cases h2 : most < n
      · simp only [if_pos h2] at h; cases h
      · simp only [if_neg h2, Option.some.injEq, Prod.mk.injEq] at h
        obtain ⟨rfl, rfl⟩ := h
        have hl : ((zs.drop j).take n.toNat).length = n.toNat := by rw [List.length_take, List.length_drop]; omega
        have hbt : AllBytes ((zs.drop j).take n.toNat) := fun z hz => hb z (List.mem_of_mem_drop (List.mem_of_mem_take hz))
        refine ⟨by omega, by omega, ?_, hbt, by omega⟩
        rw [txt, nums_str hbt, strOfNums_size, hl, show ((n.toNat : Nat) : Int) = n by omega, k3, List.take_add]
theorem read_own {w : World} {base : Nat} {v : Value} {n : Nat} {zs : List Int} (ho : w.ownsRow base 5 1 v n (zs.map (Value.int .u8))) (hb : AllBytes zs) (most : Int) {x : Option (List Int × Nat)} (hx : rd zs most = x) : ∃ A c, v = .slice A n c ∧ n ≤ c ∧ c ≤ maxLen ∧
    Hid (Calls Tryz.prog 151 #[.slice A n c, .int .i64 most] w fun e w' => e = .returned (readV x) ∧ w = w') := by
  subst hx
  have hn : zs.length = n := by simpa using ho.1
  rcases ho.2 with ⟨rfl, rfl⟩ | ⟨g, cap, cur, rfl, _, _, h1, h2, _⟩
  · exact ⟨_, _, rfl, by omega, by decide, Lib.hid (read_any _ 0 0 zs most w (Byt.own ho) hn hb (by omega) (by decide))⟩
  · exact ⟨_, _, rfl, h1, h2, Lib.hid (read_any _ n cap zs most w (Byt.own ho) hn hb h1 h2)⟩
theorem readV_cases (zs : List Int) (most : Int) : (rd zs most = none ∧ readV (rd zs most) = .tuple #[.string ⟨#[]⟩, .int .i64 0, .bool false]) ∨ ∃ t k, rd zs most = some (t, k) ∧ readV (rd zs most) = .tuple #[.string (strOfNums t), .int .i64 k, .bool true] := by
  match h : rd zs most with
  | none => exact .inl ⟨rfl, rfl⟩
  | some (t, k) => exact .inr ⟨t, k, rfl, rfl⟩
end Go.Proofs.YtcmknbdeafcknaaGreatDoor

end
section
/-
  What cell.Put answers. Nothing that was there is written.
-/
namespace Go.Proofs.YtcmknbdeafcknaaGreatDoor
open Go.RowKit WM
set_option linter.unusedVariables false
/-- A cell's bytes. -/
def cenc (c : Cel) : List Int := enc (c.n * 8 + c.r) ++ txt c.s
theorem cenc_bytes (c : Cel) : AllBytes (cenc c) := all_append (enc_bytes _) (txt_bytes _)
theorem cenc_len (c : Cel) (h : c.s.size ≤ 200) : (cenc c).length ≤ 220 ∧ 2 ≤ (cenc c).length := by
  have h1 := enc_len (c.n * 8 + c.r)
  have h2 := enc_len c.s.size
  have h3 := nums_len c.s
  unfold cenc txt
  rw [List.length_append, List.length_append]
  omega
def CPutPost (w : World) (c : Cel) (e : Ending) (w' : World) : Prop :=
  if cmay c then GivesT w (cenc c) e w' else e = .returned (.tuple #[.slice none 0 0, .bool false]) ∧ Below w.heap.size w w'
set_option maxHeartbeats 1000000 in
theorem cput_any (c : Cel) (w : World) : Calls Tryz.prog 94 #[c.v] w (CPutPost w c) := by
  obtain ⟨i0, hi, hz0, hz1, hz2⟩ := info_parts infoByte
  have S0 := Lib.hid (ClAt.new w c)
  have B0 := Lib.hid ((((Below.refl w.heap.size w).alloc (Nat.le_refl _) (.cells #[.int .i64 c.n, .int .i64 c.r, .string c.s] 57))))
  have HP := Lib.hid (stPut_any c.n c.r)
  have HM := Lib.hid (cmay_any c)
  cases hm : cmay c
  · have HN : Hid (∀ e w', e = .returned (.tuple #[.slice none 0 0, .bool false]) → Below w.heap.size w w' → CPutPost w c e w') := Lib.hid (fun e w' h1 h2 => by unfold CPutPost; rw [hm]; exact ⟨h1, h2⟩)
    rw [hm] at HM
    unfold StPutPost at HP
    clear hm
    cases hs : may c.n c.r
    · rw [hs] at HP
      simp only [Bool.false_eq_true, if_false] at HP
      unfold st at HP
      unfold Cel.v
      clear hs
      go_enter Tryz.func94, Tryz.ntmps94
      go_wp2_with fail
      refine (HP.out _).mono ?_
      rintro e w1 ⟨rfl, hb⟩
      have B1 := Lib.hid (B0.out.trans (hb.mono B0.out.size))
      clear hb
      go_wp2
      go_ret2
      exact HN.out _ _ rfl B1.out
    · rw [hs] at HP
      simp only [if_true] at HP
      unfold st at HP
      unfold Cel.v at HM ⊢
      clear hs
      go_enter Tryz.func94, Tryz.ntmps94
      go_wp2_with fail
      refine (HP.out _).mono ?_
      rintro e w1 ⟨A, n, k, rfl, hn, hnk, hkm, hown, hb⟩
      have B1 := Lib.hid (B0.out.trans (hb.mono B0.out.size))
      have s0 := S0.out.below hb S0.out.lt
      have a0 := s0.c0
      have a1 := s0.c1
      have a2 := s0.c2
      clear hb s0 hn hnk hkm hown
      go_wp2_with fail
      refine (HM.out _).mono ?_
      rintro e w2 ⟨rfl, hb⟩
      have B2 := Lib.hid (B1.out.trans (hb.mono B1.out.size))
      clear hb a0 a1 a2
      go_wp2
      go_ret2
      exact HN.out _ _ rfl B2.out
  · have HN : Hid (∀ e w', GivesT w (cenc c) e w' → CPutPost w c e w') := Lib.hid (fun e w' h1 => by unfold CPutPost; rw [hm]; exact h1)
    rw [hm] at HM
    obtain ⟨hs, hn1, hsz⟩ := cmay_iff.1 hm
    have HT := Lib.hid (fun w => text_gives c.s w (by omega))
    have hlen := cenc_len c hsz
    unfold cenc at hlen HN
    rw [List.length_append] at hlen
    unfold StPutPost at HP
    rw [hs] at HP
    simp only [if_true] at HP
    generalize enc (c.n * 8 + c.r) = E at *
    generalize txt c.s = F at *
    unfold st at HP
    unfold Cel.v at HM ⊢
    clear hs hm hn1 hsz
    go_enter Tryz.func94, Tryz.ntmps94
    go_wp2_with fail
    refine (HP.out _).mono ?_
    rintro e w1 ⟨A, n, k, rfl, hn, hnk, hkm, hown, hb⟩
    have B1 := Lib.hid (B0.out.trans (hb.mono B0.out.size))
    have O1 := Lib.hid (own_wide hown B0.out.size)
    have S1 := Lib.hid (S0.out.below hb S0.out.lt)
    have a0 := S1.out.c0
    have a1 := S1.out.c1
    have a2 := S1.out.c2
    have HL1 := Lib.hid hn
    clear hb hn hnk hkm hown
    go_wp2_with fail
    refine (HM.out _).mono ?_
    rintro e w2 ⟨rfl, hb⟩
    have B2 := Lib.hid (B1.out.trans (hb.mono B1.out.size))
    have O2 := Lib.hid (own_below O1.out hb)
    have S2 := Lib.hid (S1.out.below hb S1.out.lt)
    clear hb a0 a1 a2
    have a2 := S2.out.c2
    go_wp2_with fail
    refine (HT.out _).mono ?_
    rintro e w3 ⟨A3, n3, k3, rfl, hn3, hnk3, hkm3, hown3, hb⟩
    have B3 := Lib.hid (B2.out.trans (hb.mono B2.out.size))
    have O3 := Lib.hid (own_below O2.out hb)
    have hnil := Lib.hid (own_nil hown3)
    have hby := Lib.hid (Byt.own hown3)
    have HL3 := Lib.hid hn3
    have hlen3 : n + n3 ≤ 140737488355328 := by have := HL1.out; omega
    clear hb a2 hn3 hnk3 hkm3 hown3 hlen
    go_wp2_with (at_builtin; refine wpList_append_byt _ rfl _ _ 46 rfl w.heap.size 5 i0 Tryz.underlying46 hi hz0 hz1 hz2 _ n E rfl O3.out w3.heap.size A3 n3 k3 F rfl hby.out HL3.out hnil.out hlen3 B3.out.size ?_; intro v4 w4 ho4 hg4; have G4 := Lib.hid (HN.out _ _ (givesT_own ho4 (B3.out.grown hg4 B3.out.size (fun g hg => own_base O3.out hg)))); clear ho4 hg4)
    go_ret2
    exact G4.out
end Go.Proofs.YtcmknbdeafcknaaGreatDoor

end
section
/-
  What cell.Get answers. Nothing that was there is written.
-/
namespace Go.Proofs.YtcmknbdeafcknaaGreatDoor
open Go.RowKit WM
set_option linter.unusedVariables false
def cget (zs : List Int) : Option (Cel × Nat) :=
  match stGet zs with
  | none => none
  | some (n, r, k) =>
    match rd (zs.drop k) 200 with
    | none => none
    | some (t, j) => if cmay ⟨n, r, strOfNums t⟩ then some (⟨n, r, strOfNums t⟩, k + j) else none
def cel0 : Cel := ⟨0, 0, ⟨#[]⟩⟩
def cgetV : Option (Cel × Nat) → Value
  | none => .tuple #[cel0.v, .int .i64 0, .bool false]
  | some (c, k) => .tuple #[c.v, .int .i64 k, .bool true]
set_option maxHeartbeats 2000000 in
theorem cget_any {B : Nat} (A : Option Addr) (len cap : Nat) (zs : List Int) (w : World) (h : Byt w B A zs) (hB : B ≤ w.heap.size) (hl : zs.length = len) (hb : AllBytes zs) (hlc : len ≤ cap) (hm : cap ≤ maxLen) :
    Calls Tryz.prog 136 #[.slice A len cap] w fun e w' => e = .returned (cgetV (cget zs)) ∧ Below w.heap.size w w' := by
  have HG := Lib.hid (stGet_any A len cap zs (w.alloc (.cells #[.int .i64 0, .int .i64 0, .string ⟨#[]⟩] 57)) ((h.wide hB).below ((Below.refl _ _).alloc (Nat.le_refl _) _)) (by simp) hl hb (by omega))
  have HK := Lib.hid (fun n r k => stGet_some (n := n) (r := r) (k := k) hb)
  have S2 := Lib.hid (ClAt.new w cel0)
  have B0 := Lib.hid ((((Below.refl w.heap.size w).alloc (Nat.le_refl _) (.cells #[.int .i64 0, .int .i64 0, .string ⟨#[]⟩] 57))))
  have hgv : cget zs = cget zs := rfl
  conv at hgv => rhs; unfold cget
  dsimp only [cel0] at S2
  cases hd : stGet zs with
  | none =>
    rw [hd] at HG hgv
    have HV := Lib.hid hgv
    unfold stGetV st at HG
    clear hd hgv h hB hl hb hlc hm HK
    go_enter Tryz.func136, Tryz.ntmps136
    go_wp2_with fail
    refine HG.out.mono ?_
    rintro e w1 ⟨rfl, hb⟩
    have s2 := S2.out.below hb S2.out.lt
    have s2' := s2.old (.cells #[.int .i64 0, .int .i64 0] 30)
    have a0 := s2'.c0
    have a1 := s2'.c1
    have a2 := s2'.c2
    have f0 := s2'.fz 0
    have f1 := s2'.fz 1
    have f2 := s2'.fz 2
    have b1 := B0.out.trans (hb.mono B0.out.size)
    have S9 := Lib.hid (s2'.put cel0)
    have B9 := Lib.hid (below_put3 (b1.alloc b1.size (.cells #[.int .i64 0, .int .i64 0] 30)) (Nat.le_refl w.heap.size) (.int .i64 0) (.int .i64 0) (.string ⟨#[]⟩))
    dsimp only [cel0] at S9
    clear hb s2 s2' b1
    go_wp2
    refine bodyPost_ret (v := cgetV none) ?_ rfl ⟨by rw [HV.out], ?_⟩
    · exact res_cl3 Tryz.results136 rfl S9.out
    · exact B9.out
  | some p =>
    obtain ⟨n, r, k⟩ := p
    rw [hd] at HG hgv
    obtain ⟨m1, m2, m3⟩ := HK.out n r k hd
    simp only at hgv
    unfold stGetV st at HG
    have hkl : k ≤ len := by omega
    have hsl := sl_l A len cap k hkl (k : Int) rfl
    have hR := h.drop (k := k) (cap := cap) (by omega)
    have HR := Lib.hid (fun (X : World) (hX : Below w.heap.size w X) => read_any (if cap = k then A else A.map (·.add k)) (len - k) (cap - k) (zs.drop k) 200 X ((hR.wide hB).below hX) (by rw [List.length_drop, hl]) (all_drop hb k) (by omega) (by omega))
    have hRS := fun t j => rd_some (zs := zs.drop k) (most := 200) (t := t) (k := j) (all_drop hb k)
    have hdl : (zs.drop k).length = len - k := by rw [List.length_drop, hl]
    simp only [maxLen] at hm
    generalize (if cap = k then A else A.map (·.add k)) = A2 at hsl HR
    clear hd h hB hl hb HK m3 hR
    cases hr : rd (zs.drop k) 200 with
    | none =>
      rw [hr] at HR hgv
      have HV := Lib.hid hgv
      unfold readV at HR
      clear hgv hr hRS hdl
      go_enter Tryz.func136, Tryz.ntmps136
      go_wp2_with fail
      refine HG.out.mono ?_
      rintro e w1 ⟨rfl, hb⟩
      have s2 := Lib.hid (S2.out.below hb S2.out.lt)
      have b1 := Lib.hid (B0.out.trans (hb.mono B0.out.size))
      have b2 := Lib.hid (b1.out.alloc b1.out.size (.cells #[.int .i64 n, .int .i64 r] 30))
      have s3 := Lib.hid (s2.out.old (.cells #[.int .i64 n, .int .i64 r] 30))
      have s4 := Lib.hid (s3.out.old (.cells #[.int .i64 n, .int .i64 r, .string ⟨#[]⟩] 57))
      have b3 := Lib.hid (b2.out.alloc b2.out.size (.cells #[.int .i64 n, .int .i64 r, .string ⟨#[]⟩] 57))
      clear hb
      go_wp2_with fail
      refine (HR.out _ b2.out).mono ?_
      rintro e w2 ⟨rfl, rfl⟩
      have a0 := s4.out.c0
      have a1 := s4.out.c1
      have a2 := s4.out.c2
      have f0 := s4.out.fz 0
      have f1 := s4.out.fz 1
      have f2 := s4.out.fz 2
      have S9 := Lib.hid (s4.out.put cel0)
      have B9 := Lib.hid (below_put3 b3.out (Nat.le_refl w.heap.size) (.int .i64 0) (.int .i64 0) (.string ⟨#[]⟩))
      dsimp only [cel0] at S9
      go_wp2
      refine bodyPost_ret (v := cgetV none) ?_ rfl ⟨by rw [HV.out], ?_⟩
      · exact res_cl3 Tryz.results136 rfl S9.out
      · exact B9.out
    | some q =>
      obtain ⟨t, j⟩ := q
      rw [hr] at HR hgv
      obtain ⟨q1, q2, q3, q4, q5⟩ := hRS t j hr
      rw [hdl] at q1
      simp only at hgv
      unfold readV at HR
      have hw : IntKind.i64.wrap ((k : Int) + (j : Int)) = (k : Int) + (j : Int) := IntWalk.i64_in _ (by omega)
      dsimp only at HR
      generalize strOfNums t = s at *
      have HM := Lib.hid (cmay_any ⟨n, r, s⟩)
      clear hr hRS hdl q1 q2 q3 q4 q5
      cases hc : cmay ⟨n, r, s⟩
      · rw [hc] at HM hgv
        have HV := Lib.hid (show cget zs = none by rw [hgv]; rfl)
        dsimp only [Cel.v] at HM
        clear hgv hc
        go_enter Tryz.func136, Tryz.ntmps136
        go_wp2_with fail
        refine HG.out.mono ?_
        rintro e w1 ⟨rfl, hb⟩
        have s2 := Lib.hid (S2.out.below hb S2.out.lt)
        have b1 := Lib.hid (B0.out.trans (hb.mono B0.out.size))
        have b2 := Lib.hid (b1.out.alloc b1.out.size (.cells #[.int .i64 n, .int .i64 r] 30))
        have s3 := Lib.hid (s2.out.old (.cells #[.int .i64 n, .int .i64 r] 30))
        have s4 := Lib.hid (s3.out.old (.cells #[.int .i64 n, .int .i64 r, .string s] 57))
        have b3 := Lib.hid (b2.out.alloc b2.out.size (.cells #[.int .i64 n, .int .i64 r, .string s] 57))
        clear hb
        go_wp2_with fail
        refine (HR.out _ b2.out).mono ?_
        rintro e w2 ⟨rfl, rfl⟩
        go_wp2_with fail
        refine (HM.out _).mono ?_
        rintro e w3 ⟨rfl, hb⟩
        have s5 := s4.out.below hb s4.out.lt
        have b4 := b3.out.trans (hb.mono b3.out.size)
        have a0 := s5.c0
        have a1 := s5.c1
        have a2 := s5.c2
        have f0 := s5.fz 0
        have f1 := s5.fz 1
        have f2 := s5.fz 2
        have S9 := Lib.hid (s5.put cel0)
        have B9 := Lib.hid (below_put3 b4 (Nat.le_refl w.heap.size) (.int .i64 0) (.int .i64 0) (.string ⟨#[]⟩))
        dsimp only [cel0] at S9
        clear hb s5 b4
        go_wp2
        refine bodyPost_ret (v := cgetV none) ?_ rfl ⟨by rw [HV.out], ?_⟩
        · exact res_cl3 Tryz.results136 rfl S9.out
        · exact B9.out
      · rw [hc] at HM hgv
        have HV := Lib.hid (show cget zs = some (⟨n, r, s⟩, k + j) by rw [hgv]; rfl)
        dsimp only [Cel.v] at HM
        clear hgv hc
        go_enter Tryz.func136, Tryz.ntmps136
        go_wp2_with fail
        refine HG.out.mono ?_
        rintro e w1 ⟨rfl, hb⟩
        have s2 := Lib.hid (S2.out.below hb S2.out.lt)
        have b1 := Lib.hid (B0.out.trans (hb.mono B0.out.size))
        have b2 := Lib.hid (b1.out.alloc b1.out.size (.cells #[.int .i64 n, .int .i64 r] 30))
        have s3 := Lib.hid (s2.out.old (.cells #[.int .i64 n, .int .i64 r] 30))
        have s4 := Lib.hid (s3.out.old (.cells #[.int .i64 n, .int .i64 r, .string s] 57))
        have b3 := Lib.hid (b2.out.alloc b2.out.size (.cells #[.int .i64 n, .int .i64 r, .string s] 57))
        have n4 := ClAt.new (w1.alloc (.cells #[.int .i64 n, .int .i64 r] 30)) ⟨n, r, s⟩
        rw [World.size_alloc] at n4
        have N4 := Lib.hid n4
        clear hb n4
        go_wp2_with fail
        refine (HR.out _ b2.out).mono ?_
        rintro e w2 ⟨rfl, rfl⟩
        go_wp2_with fail
        refine (HM.out _).mono ?_
        rintro e w3 ⟨rfl, hb⟩
        have s5 := s4.out.below hb s4.out.lt
        have n5 := N4.out.below hb N4.out.lt
        have b4 := b3.out.trans (hb.mono b3.out.size)
        have a0 := s5.c0
        have a1 := s5.c1
        have a2 := s5.c2
        have e0 := n5.c0
        have e1 := n5.c1
        have e2 := n5.c2
        have f0 := s5.fz 0
        have f1 := s5.fz 1
        have f2 := s5.fz 2
        have S9 := Lib.hid (s5.put ⟨n, r, s⟩)
        have B9 := Lib.hid (below_put3 b4 (Nat.le_refl w.heap.size) (.int .i64 n) (.int .i64 r) (.string s))
        clear hb s5 b4 n5
        go_wp2
        refine bodyPost_ret (v := cgetV (some (⟨n, r, s⟩, k + j))) ?_ rfl ⟨by rw [HV.out], ?_⟩
        · exact res_cl3 Tryz.results136 rfl S9.out
        · exact B9.out
end Go.Proofs.YtcmknbdeafcknaaGreatDoor

end
section
/-
  Cells' bytes: what is put is got, whatever stands behind; what is got is put as the same bytes; a beginning is none.
-/
namespace Go.Proofs.YtcmknbdeafcknaaGreatDoor
open Go.RowKit WM
set_option linter.unusedVariables false
theorem cget_put (c : Cel) (t : List Int) (h : cmay c = true) : cget (cenc c ++ t) = some (c, (cenc c).length) := by
  obtain ⟨h1, h2, h3⟩ := cmay_iff.1 h
  unfold cget cenc
  rw [List.append_assoc, stGet_put _ h1]
  dsimp only
  rw [List.drop_left, rd_txt _ _ _ (by omega), if_pos (by omega)]
  dsimp only
  rw [str_nums]
  have hc : cmay ⟨c.n, c.r, c.s⟩ = true := h
  rw [hc, List.length_append]
  rfl
theorem cget_some {zs : List Int} {c : Cel} {k : Nat} (hb : AllBytes zs) (h : cget zs = some (c, k)) : cmay c = true ∧ k ≤ zs.length ∧ cenc c = zs.take k := by
  unfold cget at h
  split at h
  · cases h
  · rename_i n r j hs
    obtain ⟨m1, m2, m3⟩ := stGet_some hb hs
    split at h
    · cases h
    · rename_i t i hr
      obtain ⟨q1, q2, q3, q4, q5⟩ := rd_some (all_drop hb j) hr
      rw [List.length_drop] at q1
      split at h
      · rename_i hm
        simp only [Option.some.injEq, Prod.mk.injEq] at h
        obtain ⟨rfl, rfl⟩ := h
        refine ⟨hm, by omega, ?_⟩
        unfold cenc
        dsimp only
        rw [m3, q3, List.take_add]
      · cases h
theorem cget_cut (c : Cel) (k : Nat) (h : cmay c = true) (hk : k < (cenc c).length) : cget ((cenc c).take k) = none := by
  cases hg : cget ((cenc c).take k) with
  | none => rfl
  | some p =>
    obtain ⟨d, j⟩ := p
    obtain ⟨m1, m2, m3⟩ := cget_some (all_take (cenc_bytes c) k) hg
    rw [List.length_take] at m2
    rw [List.take_take] at m3
    have e : cenc c = cenc d ++ (cenc c).drop (min j k) := by rw [m3, List.take_append_drop]
    have g1 := cget_put c [] h
    rw [List.append_nil] at g1
    have g2 := cget_put d ((cenc c).drop (min j k)) m1
    rw [← e, g1] at g2
    simp only [Option.some.injEq, Prod.mk.injEq] at g2
    have := g2.2
    rw [m3, List.length_take] at this
    omega
end Go.Proofs.YtcmknbdeafcknaaGreatDoor

end
