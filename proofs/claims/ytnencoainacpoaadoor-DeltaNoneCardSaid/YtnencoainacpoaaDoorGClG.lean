import Derived.Test.YtnencoainacpoaaDoorGBase
section
/-
  What wire.Text answers.
-/
namespace Go.Proofs.YtnencoainacpoaaDoor
open Go.RowKit WM
set_option linter.unusedVariables false

set_option maxHeartbeats 400000 in
theorem text_gives (s : ByteArray) (w : World) (hs : s.size ≤ 140737488355000) : Calls Tryd.prog 52 #[.string s] w (Gives w (txt s)) := by
  obtain ⟨i0, hi, hz0, hz1, hz2⟩ := info_parts infoByte
  have hel := enc_len s.size
  go_enter Tryd.func52, Tryd.ntmps52
  go_wp2_with (first
    | (go_at_call 36; refine (put_gives _ _ (by omega) (by omega)).mono ?_; rintro e w1 ⟨A, n, c, rfl, hn, hnc, hcm, hown, hbel⟩; have HN := Lib.hid hn; clear hn)
    | (at_builtin; refine Lib.wpList_append_own_string _ rfl _ _ 31 9 rfl w.heap.size 5 i0 Tryd.underlying31 Tryd.underlying9 hi hz0 hz1 hz2 (.slice A n c) n _ rfl hown s rfl ?h1 ?h2 hbel.size ?_; rotate_right; intro v2 w2 ho2 hg2 _))
  case h1 => have := HN.out; unfold maxLen; omega
  case h2 => have := HN.out; omega
  go_ret
  refine gives_own (n := n + s.size) ?_ (hbel.grown hg2 hbel.size (fun g hg => own_base hown hg))
  rw [txt, List.map_append, nums_cells]
  exact ho2
end Go.Proofs.YtnencoainacpoaaDoor

end
section
/-
  What wire.Read answers.
-/
namespace Go.Proofs.YtnencoainacpoaaDoor
open Go.RowKit WM
set_option linter.unusedVariables false
set_option maxRecDepth 20000

theorem read_none {B : Nat} (A : Option Addr) (len cap : Nat) (zs : List Int) (most : Int) (w : World) (h : Byt w B A zs) (hl : zs.length = len) (hb : AllBytes zs) (hm : len ≤ maxLen) (hd : dec zs = none) :
    Calls Tryd.prog 68 #[.slice A len cap, .int .i64 most] w fun e w' => e = .returned (.tuple #[.string ⟨#[]⟩, .int .i64 0, .bool false]) ∧ w = w' := by
  have hg := get_any A len cap zs w h hl hb hm
  rw [hd] at hg
  simp only [getV] at hg
  have HG := Lib.hid hg
  clear hg hd hl hb h
  simp only [maxLen] at hm
  go_enter Tryd.func68, Tryd.ntmps68
  go_wp2_with (go_at_call 53; refine HG.out.mono ?_; rintro e w1 ⟨rfl, rfl⟩)
  go_ret3
  exact ⟨rfl, rfl⟩
theorem read_short {B : Nat} (A : Option Addr) (len cap : Nat) (zs : List Int) (most : Int) (w : World) (n : Int) (k : Nat) (h : Byt w B A zs) (hl : zs.length = len) (hb : AllBytes zs) (hm : len ≤ maxLen) (hd : dec zs = some (n, k)) (hn : (len : Int) - k < n) :
    Calls Tryd.prog 68 #[.slice A len cap, .int .i64 most] w fun e w' => e = .returned (.tuple #[.string ⟨#[]⟩, .int .i64 0, .bool false]) ∧ w = w' := by
  have hg := get_any A len cap zs w h hl hb hm
  rw [hd] at hg
  simp only [getV] at hg
  have HG := Lib.hid hg
  have hk := dec_some hb hd
  obtain ⟨k1, k2, _, k4, k5⟩ := hk
  rw [hl] at k2
  clear hg hd hl hb h
  simp only [maxLen] at hm
  go_enter Tryd.func68, Tryd.ntmps68
  go_wp2_with (go_at_call 53; refine HG.out.mono ?_; rintro e w1 ⟨rfl, rfl⟩)
  go_ret3
  exact ⟨rfl, rfl⟩
theorem read_long {B : Nat} (A : Option Addr) (len cap : Nat) (zs : List Int) (most : Int) (w : World) (n : Int) (k : Nat) (h : Byt w B A zs) (hl : zs.length = len) (hb : AllBytes zs) (hm : len ≤ maxLen) (hd : dec zs = some (n, k)) (hn : n ≤ (len : Int) - k) (hmo : most < n) :
    Calls Tryd.prog 68 #[.slice A len cap, .int .i64 most] w fun e w' => e = .returned (.tuple #[.string ⟨#[]⟩, .int .i64 0, .bool false]) ∧ w = w' := by
  have hg := get_any A len cap zs w h hl hb hm
  rw [hd] at hg
  simp only [getV] at hg
  have HG := Lib.hid hg
  have hk := dec_some hb hd
  obtain ⟨k1, k2, _, k4, k5⟩ := hk
  rw [hl] at k2
  clear hg hd hl hb h
  simp only [maxLen] at hm
  go_enter Tryd.func68, Tryd.ntmps68
  go_wp2_with (go_at_call 53; refine HG.out.mono ?_; rintro e w1 ⟨rfl, rfl⟩)
  go_ret3
  exact ⟨rfl, rfl⟩
theorem read_yes {B : Nat} (A : Option Addr) (len cap : Nat) (zs : List Int) (most : Int) (w : World) (n : Nat) (k : Nat) (h : Byt w B A zs) (hl : zs.length = len) (hb : AllBytes zs) (hlc : len ≤ cap) (hm : cap ≤ maxLen) (hd : dec zs = some ((n : Int), k)) (hn : k + n ≤ len) (hmo : (n : Int) ≤ most) :
    Calls Tryd.prog 68 #[.slice A len cap, .int .i64 most] w fun e w' => e = .returned (.tuple #[.string (strOfNums ((zs.drop k).take n)), .int .i64 (k + n : Nat), .bool true]) ∧ w = w' := by
  have hg := get_any A len cap zs w h hl hb (by omega)
  rw [hd] at hg
  simp only [getV] at hg
  have HG := Lib.hid hg
  have hk := dec_some hb hd
  obtain ⟨k1, k2, _, k4, k5⟩ := hk
  rw [hl] at k2
  have ht := (h.drop (k := k) (cap := cap) (by omega)).take n
  have hlen : ((zs.drop k).take n).length = n := by rw [List.length_take, List.length_drop]; omega
  generalize (zs.drop k).take n = S at ht hlen ⊢
  clear hg hd hb h hl
  simp only [maxLen] at hm
  by_cases hck : cap = k
  · rw [if_pos hck] at ht
    have tA := ht.text (P := Tryd.prog) (cap := 0) hlen 31 5 9 Tryd.underlying31 Tryd.underlying5 Tryd.underlying9
    subst hck
    clear ht hlen
    go_enter Tryd.func68, Tryd.ntmps68
    go_wp2_with (go_at_call 53; refine HG.out.mono ?_; rintro e w1 ⟨rfl, rfl⟩)
    go_ret3
    exact ⟨ret3 rfl (by go_num) rfl, rfl⟩
  · rw [if_neg hck] at ht
    have tA := ht.text (P := Tryd.prog) (cap := cap - k) hlen 31 5 9 Tryd.underlying31 Tryd.underlying5 Tryd.underlying9
    clear ht hlen
    go_enter Tryd.func68, Tryd.ntmps68
    go_wp2_with (go_at_call 53; refine HG.out.mono ?_; rintro e w1 ⟨rfl, rfl⟩)
    go_ret3
    exact ⟨ret3 rfl (by go_num) rfl, rfl⟩

/-! ### Read, in one -/
def rd (zs : List Int) (most : Int) : Option (List Int × Nat) :=
  match dec zs with
  | none => none
  | some (n, k) => if (zs.length : Int) - k < n then none else if most < n then none else some ((zs.drop k).take n.toNat, k + n.toNat)
def readV : Option (List Int × Nat) → Value
  | none => .tuple #[.string ⟨#[]⟩, .int .i64 0, .bool false]
  | some (t, k) => .tuple #[.string (strOfNums t), .int .i64 k, .bool true]
theorem read_any {B : Nat} (A : Option Addr) (len cap : Nat) (zs : List Int) (most : Int) (w : World) (h : Byt w B A zs) (hl : zs.length = len) (hb : AllBytes zs) (hlc : len ≤ cap) (hm : cap ≤ maxLen) :
    Calls Tryd.prog 68 #[.slice A len cap, .int .i64 most] w fun e w' => e = .returned (readV (rd zs most)) ∧ w = w' := by
  unfold rd
  match hd : dec zs with
  | none => exact read_none A len cap zs most w h hl hb (by omega) hd
  | some (n, k) =>
    obtain ⟨k1, k2, _, k4, k5⟩ := dec_some hb hd
    by_cases h1 : (zs.length : Int) - k < n
    · simp only [if_pos h1]
      exact read_short A len cap zs most w n k h hl hb (by omega) hd (by omega)
    · simp only [if_neg h1]
      by_cases h2 : most < n
      · simp only [if_pos h2]
        exact read_long A len cap zs most w n k h hl hb (by omega) hd (by omega) h2
      · simp only [if_neg h2]
        obtain ⟨n, rfl⟩ : ∃ m : Nat, n = m := ⟨n.toNat, by omega⟩
        exact read_yes A len cap zs most w n k h hl hb hlc hm hd (by omega) (by omega)
theorem rd_txt (s : ByteArray) (t : List Int) (most : Int) (hs : s.size ≤ 140737488355000) : rd (txt s ++ t) most = if (s.size : Int) ≤ most then some (nums s, (txt s).length) else none := by
  have hn := nums_len s
  unfold rd txt
  rw [List.append_assoc, dec_enc _ _ (by omega) (by omega)]
  simp only [List.length_append, hn]
  rw [if_neg (by omega)]
  by_cases h : (s.size : Int) ≤ most
  · rw [if_neg (by omega), if_pos h, List.drop_left, Int.toNat_natCast, List.take_left' hn]
  · rw [if_pos (by omega), if_neg h]
theorem rd_some {zs : List Int} {most : Int} {t : List Int} {k : Nat} (hb : AllBytes zs) (h : rd zs most = some (t, k)) : k ≤ zs.length ∧ (t.length : Int) ≤ most ∧ txt (strOfNums t) = zs.take k ∧ AllBytes t ∧ 1 ≤ k := by
  unfold rd at h
  match hd : dec zs with
  | none => rw [hd] at h; cases h
  | some (n, j) =>
    rw [hd] at h
    obtain ⟨k1, k2, k3, k4, k5⟩ := dec_some hb hd
    by_cases h1 : (zs.length : Int) - j < n
    · simp only [if_pos h1] at h; cases h
    · simp only [if_neg h1] at h
      by_cases h2 : most < n
      · simp only [if_pos h2] at h; cases h
      · simp only [if_neg h2, Option.some.injEq, Prod.mk.injEq] at h
        obtain ⟨rfl, rfl⟩ := h
        have hl : ((zs.drop j).take n.toNat).length = n.toNat := by rw [List.length_take, List.length_drop]; omega
        have hbt : AllBytes ((zs.drop j).take n.toNat) := fun z hz => hb z (List.mem_of_mem_drop (List.mem_of_mem_take hz))
        refine ⟨by omega, by omega, ?_, hbt, by omega⟩
        rw [txt, nums_str hbt, strOfNums_size, hl, show ((n.toNat : Nat) : Int) = n by omega, k3, List.take_add]
theorem read_own {w : World} {base : Nat} {v : Value} {n : Nat} {zs : List Int} (ho : w.ownsRow base 5 1 v n (zs.map (Value.int .u8))) (hb : AllBytes zs) (most : Int) {x : Option (List Int × Nat)} (hx : rd zs most = x) : ∃ A c, v = .slice A n c ∧ n ≤ c ∧ c ≤ maxLen ∧
    Hid (Calls Tryd.prog 68 #[.slice A n c, .int .i64 most] w fun e w' => e = .returned (readV x) ∧ w = w') := by
  subst hx
  have hn : zs.length = n := by simpa using ho.1
  rcases ho.2 with ⟨rfl, rfl⟩ | ⟨g, cap, cur, rfl, _, _, h1, h2, _⟩
  · exact ⟨_, _, rfl, by omega, by decide, Lib.hid (read_any _ 0 0 zs most w (Byt.own ho) hn hb (by omega) (by decide))⟩
  · exact ⟨_, _, rfl, h1, h2, Lib.hid (read_any _ n cap zs most w (Byt.own ho) hn hb h1 h2)⟩
theorem readV_cases (zs : List Int) (most : Int) : (rd zs most = none ∧ readV (rd zs most) = .tuple #[.string ⟨#[]⟩, .int .i64 0, .bool false]) ∨ ∃ t k, rd zs most = some (t, k) ∧ readV (rd zs most) = .tuple #[.string (strOfNums t), .int .i64 k, .bool true] := by
  match h : rd zs most with
  | none => exact .inl ⟨rfl, rfl⟩
  | some (t, k) => exact .inr ⟨t, k, rfl, rfl⟩
end Go.Proofs.YtnencoainacpoaaDoor

end
section
/-
  What cell.Put answers. Nothing that was there is written.
-/
namespace Go.Proofs.YtnencoainacpoaaDoor
open Go.RowKit WM
set_option linter.unusedVariables false
/-- A cell's bytes. -/
def cenc (c : Cel) : List Int := enc (c.n * 8 + c.r) ++ txt c.s
theorem cenc_bytes (c : Cel) : AllBytes (cenc c) := all_append (enc_bytes _) (txt_bytes _)
theorem cenc_len (c : Cel) (h : c.s.size ≤ 200) : (cenc c).length ≤ 220 ∧ 2 ≤ (cenc c).length := by
  have h1 := enc_len (c.n * 8 + c.r)
  have h2 := enc_len c.s.size
  have h3 := nums_len c.s
  unfold cenc txt
  rw [List.length_append, List.length_append]
  omega
def CPutPost (w : World) (c : Cel) (e : Ending) (w' : World) : Prop :=
  if cmay c then GivesT w (cenc c) e w' else e = .returned (.tuple #[.slice none 0 0, .bool false]) ∧ Below w.heap.size w w'
end Go.Proofs.YtnencoainacpoaaDoor

end
section
/-
  What cell.Get answers. Nothing that was there is written.
-/
namespace Go.Proofs.YtnencoainacpoaaDoor
open Go.RowKit WM
set_option linter.unusedVariables false
def cget (zs : List Int) : Option (Cel × Nat) :=
  match stGet zs with
  | none => none
  | some (n, r, k) =>
    match rd (zs.drop k) 200 with
    | none => none
    | some (t, j) => if cmay ⟨n, r, strOfNums t⟩ then some (⟨n, r, strOfNums t⟩, k + j) else none
def cel0 : Cel := ⟨0, 0, ⟨#[]⟩⟩
def cgetV : Option (Cel × Nat) → Value
  | none => .tuple #[cel0.v, .int .i64 0, .bool false]
  | some (c, k) => .tuple #[c.v, .int .i64 k, .bool true]
end Go.Proofs.YtnencoainacpoaaDoor

end
section
/-
  Cells' bytes: what is put is got, whatever stands behind; what is got is put as the same bytes; a beginning is none.
-/
namespace Go.Proofs.YtnencoainacpoaaDoor
open Go.RowKit WM
set_option linter.unusedVariables false
theorem cget_put (c : Cel) (t : List Int) (h : cmay c = true) : cget (cenc c ++ t) = some (c, (cenc c).length) := by
  obtain ⟨h1, h2, h3⟩ := cmay_iff.1 h
  unfold cget cenc
  rw [List.append_assoc, stGet_put _ h1]
  dsimp only
  rw [List.drop_left, rd_txt _ _ _ (by omega), if_pos (by omega)]
  dsimp only
  rw [str_nums]
  have hc : cmay ⟨c.n, c.r, c.s⟩ = true := h
  rw [hc, List.length_append]
  rfl
theorem cget_some {zs : List Int} {c : Cel} {k : Nat} (hb : AllBytes zs) (h : cget zs = some (c, k)) : cmay c = true ∧ k ≤ zs.length ∧ cenc c = zs.take k := by
  unfold cget at h
  split at h
  · cases h
  · rename_i n r j hs
    obtain ⟨m1, m2, m3⟩ := stGet_some hb hs
    split at h
    · cases h
    · rename_i t i hr
      obtain ⟨q1, q2, q3, q4, q5⟩ := rd_some (all_drop hb j) hr
      rw [List.length_drop] at q1
      split at h
      · rename_i hm
        simp only [Option.some.injEq, Prod.mk.injEq] at h
        obtain ⟨rfl, rfl⟩ := h
        refine ⟨hm, by omega, ?_⟩
        unfold cenc
        dsimp only
        rw [m3, q3, List.take_add]
      · cases h
theorem cget_cut (c : Cel) (k : Nat) (h : cmay c = true) (hk : k < (cenc c).length) : cget ((cenc c).take k) = none := by
  cases hg : cget ((cenc c).take k) with
  | none => rfl
  | some p =>
    obtain ⟨d, j⟩ := p
    obtain ⟨m1, m2, m3⟩ := cget_some (all_take (cenc_bytes c) k) hg
    rw [List.length_take] at m2
    rw [List.take_take] at m3
    have e : cenc c = cenc d ++ (cenc c).drop (min j k) := by rw [m3, List.take_append_drop]
    have g1 := cget_put c [] h
    rw [List.append_nil] at g1
    have g2 := cget_put d ((cenc c).drop (min j k)) m1
    rw [← e, g1] at g2
    simp only [Option.some.injEq, Prod.mk.injEq] at g2
    have := g2.2
    rw [m3, List.length_take] at this
    omega
end Go.Proofs.YtnencoainacpoaaDoor

end
