import Derived.Test.YtnencoainacpoaaDoorSgMath
import Derived.Test.YtnencoainacpoaaDoorGBase
import Derived.Test.YtnencoainacpoaaDoorGClG
import Derived.Test.YtnencoainacpoaaDoorGRl
section
/-
  What makes a value out of another one, as lists of pieces. No walk.
-/
namespace Go.Proofs.YtnencoainacpoaaDoor
open Go.RowKit WM
set_option linter.unusedVariables false
/-- A piece: a copy, or a text. -/
structure Pc where
  cp : Bool
  fr : Int
  ln : Int
  lit : ByteArray
deriving DecidableEq
def pc0 : Pc := ⟨false, 0, 0, ⟨#[]⟩⟩
def pcGood (p : Pc) : Bool := if p.cp then decide (0 ≤ p.fr ∧ p.fr ≤ 200 ∧ 1 ≤ p.ln ∧ p.ln ≤ 200 ∧ p.lit.size = 0) else decide (p.fr = 0 ∧ p.ln = 0 ∧ 1 ≤ p.lit.size ∧ p.lit.size ≤ 200)
def pcSize (p : Pc) : Int := p.ln + p.lit.size
def pcAll : List Pc → Int
  | [] => 0
  | p :: l => pcSize p + pcAll l
theorem pcAll_append (a b : List Pc) : pcAll (a ++ b) = pcAll a + pcAll b := by
  induction a with
  | nil => simp [pcAll]
  | cons p a ih => simp only [List.cons_append, pcAll, ih]; omega
def pmay (l : List Pc) : Bool := l.all pcGood && (decide (l.length ≤ 60) && decide (pcAll l ≤ 200))
theorem pcGood_size {p : Pc} (h : pcGood p = true) : 1 ≤ pcSize p ∧ pcSize p ≤ 200 ∧ 0 ≤ p.ln ∧ p.ln ≤ 200 ∧ 0 ≤ p.fr ∧ p.fr ≤ 200 ∧ p.lit.size ≤ 200 := by
  unfold pcGood at h
  unfold pcSize
  split at h <;> simp only [decide_eq_true_eq] at h <;> omega
theorem pcAll_nonneg {l : List Pc} (h : l.all pcGood = true) : (l.length : Int) ≤ pcAll l ∧ pcAll l ≤ 200 * l.length := by
  induction l with
  | nil => simp [pcAll]
  | cons p l ih =>
    rw [List.all_cons, Bool.and_eq_true] at h
    have h1 := pcGood_size h.1
    have h2 := ih h.2
    simp only [pcAll, List.length_cons]
    omega
theorem pmay_iff {l : List Pc} : pmay l = true ↔ (∀ p ∈ l, pcGood p = true) ∧ l.length ≤ 60 ∧ pcAll l ≤ 200 := by
  simp [pmay, List.all_eq_true]
/-! ### what is made of a value -/
def pap (base : ByteArray) : List Pc → ByteArray → Option ByteArray
  | [], acc => some acc
  | p :: l, acc => if p.cp then (if (base.size : Int) < p.fr + p.ln then none else pap base l (acc ++ base.extract p.fr.toNat (p.fr + p.ln).toNat)) else pap base l (acc ++ p.lit)
def papply (base : ByteArray) (l : List Pc) : Option ByteArray := if pmay l then pap base l ⟨#[]⟩ else none
theorem ba_append_assoc (a b c : ByteArray) : a ++ b ++ c = a ++ (b ++ c) := by
  apply ByteArray.ext
  simp [ByteArray.data_append, Array.append_assoc]
theorem ba_empty_append (a : ByteArray) : (⟨#[]⟩ : ByteArray) ++ a = a := by
  apply ByteArray.ext
  simp [ByteArray.data_append]
theorem ba_append_empty (a : ByteArray) : a ++ (⟨#[]⟩ : ByteArray) = a := by
  apply ByteArray.ext
  simp [ByteArray.data_append]
theorem pap_acc (base : ByteArray) : ∀ (l : List Pc) (acc : ByteArray), pap base l acc = (pap base l ⟨#[]⟩).map (acc ++ ·)
  | [], acc => by simp [pap, ba_append_empty]
  | p :: l, acc => by
    simp only [pap]
    split
    · split
      · rfl
      · rw [pap_acc base l (acc ++ _), pap_acc base l (⟨#[]⟩ ++ _), Option.map_map]
        congr 1
        funext x
        simp [ba_empty_append, ba_append_assoc]
    · rw [pap_acc base l (acc ++ _), pap_acc base l (⟨#[]⟩ ++ _), Option.map_map]
      congr 1
      funext x
      simp [ba_empty_append, ba_append_assoc]
theorem pap_append (base : ByteArray) : ∀ (a b : List Pc) (acc : ByteArray), pap base (a ++ b) acc = (pap base a acc).bind (pap base b)
  | [], b, acc => rfl
  | p :: a, b, acc => by
    simp only [List.cons_append, pap]
    split
    · split
      · rfl
      · exact pap_append base a b _
    · exact pap_append base a b _
end Go.Proofs.YtnencoainacpoaaDoor

end
section
/-
  How a value is made out of blocks, as lists of pieces. No walk.
-/
namespace Go.Proofs.YtnencoainacpoaaDoor
open Go.RowKit WM
set_option linter.unusedVariables false
/-- Where the next eight bytes are among the blocks. -/
def pfind (sig : List Sg) (s : ByteArray) (at' : Nat) : Int := if at' + 8 ≤ s.size then sgFind sig (nums (s.extract at' (at' + 8))) else -1
def pcNew (i : Int) : Pc := ⟨true, 8 * i, 8, ⟨#[]⟩⟩
def pcTxt (c : ByteArray) : Pc := ⟨false, 0, 0, c⟩
/-- A block more; bytes of a text more. -/
def pcopy (out : List Pc) (i : Int) : List Pc :=
  match out.getLast? with
  | some p => if p.cp = true ∧ p.fr + p.ln = 8 * i then out.dropLast ++ [⟨p.cp, p.fr, p.ln + 8, p.lit⟩] else out ++ [pcNew i]
  | none => out ++ [pcNew i]
def ptext (out : List Pc) (c : ByteArray) : List Pc :=
  match out.getLast? with
  | some p => if p.cp = false then out.dropLast ++ [⟨p.cp, p.fr, p.ln, p.lit ++ c⟩] else out ++ [pcTxt c]
  | none => out ++ [pcTxt c]
theorem pcopy_nil (i : Int) : pcopy [] i = [pcNew i] := rfl
theorem pcopy_on {a : List Pc} {p : Pc} {i : Int} (h : p.cp = true ∧ p.fr + p.ln = 8 * i) : pcopy (a ++ [p]) i = a ++ [⟨p.cp, p.fr, p.ln + 8, p.lit⟩] := by simp [pcopy, h]
theorem pcopy_new {a : List Pc} {p : Pc} {i : Int} (h : ¬ (p.cp = true ∧ p.fr + p.ln = 8 * i)) : pcopy (a ++ [p]) i = a ++ [p] ++ [pcNew i] := by
  simp only [pcopy, List.getLast?_append, List.getLast?_singleton, Option.some_or]
  rw [if_neg h]
theorem ptext_nil (c : ByteArray) : ptext [] c = [pcTxt c] := rfl
theorem ptext_on {a : List Pc} {p : Pc} {c : ByteArray} (h : p.cp = false) : ptext (a ++ [p]) c = a ++ [⟨p.cp, p.fr, p.ln, p.lit ++ c⟩] := by simp [ptext, h]
theorem ptext_new {a : List Pc} {p : Pc} {c : ByteArray} (h : p.cp = true) : ptext (a ++ [p]) c = a ++ [p] ++ [pcTxt c] := by simp [ptext, h]
def pmkF (sig : List Sg) (s : ByteArray) : Nat → Nat → List Pc → List Pc
  | 0, _, out => out
  | f + 1, a, out => if a < s.size then (if 0 ≤ pfind sig s a then pmkF sig s f (a + 8) (pcopy out (pfind sig s a)) else pmkF sig s f (a + 1) (ptext out (s.extract a (a + 1)))) else out
theorem pmkF_more (sig : List Sg) (s : ByteArray) : ∀ (f a : Nat) (out : List Pc), s.size ≤ a + f → ∀ g, f ≤ g → pmkF sig s g a out = pmkF sig s f a out
  | 0, a, out, h, g, _ => by
    cases g with
    | zero => rfl
    | succ g => simp only [pmkF]; rw [if_neg (by omega)]
  | f + 1, a, out, h, g, hg => by
    obtain ⟨g, rfl⟩ : ∃ g', g = g' + 1 := ⟨g - 1, by omega⟩
    simp only [pmkF]
    split
    · split
      · exact pmkF_more sig s f (a + 8) _ (by omega) g (by omega)
      · exact pmkF_more sig s f (a + 1) _ (by omega) g (by omega)
    · rfl
/-- From a place on. -/
def pmk (sig : List Sg) (s : ByteArray) (a : Nat) (out : List Pc) : List Pc := pmkF sig s s.size a out
def pmake (sig : List Sg) (s : ByteArray) : List Pc := pmk sig s 0 []
theorem pmk_end {sig : List Sg} {s : ByteArray} {a : Nat} {out : List Pc} (h : s.size ≤ a) : pmk sig s a out = out := by
  unfold pmk
  rw [pmkF_more sig s 0 a out (by omega) _ (Nat.zero_le _)]
  rfl
theorem pmk_copy {sig : List Sg} {s : ByteArray} {a : Nat} {out : List Pc} (h : a < s.size) (hi : 0 ≤ pfind sig s a) : pmk sig s a out = pmk sig s (a + 8) (pcopy out (pfind sig s a)) := by
  unfold pmk
  rw [pmkF_more sig s (s.size - 1) (a + 8) _ (by omega) s.size (by omega)]
  obtain ⟨f, hf⟩ : ∃ f, s.size = f + 1 := ⟨s.size - 1, by omega⟩
  rw [hf, Nat.add_sub_cancel]
  simp only [pmkF]
  rw [if_pos (by omega), if_pos hi]
theorem pmk_text {sig : List Sg} {s : ByteArray} {a : Nat} {out : List Pc} (h : a < s.size) (hi : ¬ 0 ≤ pfind sig s a) : pmk sig s a out = pmk sig s (a + 1) (ptext out (s.extract a (a + 1))) := by
  unfold pmk
  rw [pmkF_more sig s (s.size - 1) (a + 1) _ (by omega) s.size (by omega)]
  obtain ⟨f, hf⟩ : ∃ f, s.size = f + 1 := ⟨s.size - 1, by omega⟩
  rw [hf, Nat.add_sub_cancel]
  simp only [pmkF]
  rw [if_pos (by omega), if_neg hi]
/-- How great things are. -/
def PFits (M a : Nat) (out : List Pc) : Prop := out.length ≤ a ∧ ∀ p ∈ out, 0 ≤ p.fr ∧ p.fr ≤ 8 * M ∧ 0 ≤ p.ln ∧ p.ln ≤ a ∧ p.lit.size ≤ a
theorem PFits.nil (M : Nat) : PFits M 0 [] := ⟨Nat.le_refl _, fun p h => by cases h⟩
theorem pfind_range {sig : List Sg} {s : ByteArray} {a M : Nat} (hM : sig.length ≤ M) (h : 0 ≤ pfind sig s a) : a + 8 ≤ s.size ∧ ∃ i : Nat, pfind sig s a = i ∧ i < sig.length ∧ i ≤ M := by
  unfold pfind at h ⊢
  split at h
  · rename_i h8
    refine ⟨h8, ?_⟩
    rw [if_pos h8]
    unfold sgFind at h ⊢
    split at h
    · rename_i h1
      rw [if_pos h1]
      rcases sgFrom_cases (sgOne (nums (s.extract a (a + 8)))) sig 0 with ⟨h2, _⟩ | ⟨i, h2, h3, _⟩
      · rw [h2] at h; omega
      · exact ⟨i, by rw [h3]; omega, h2, by omega⟩
    · omega
  · omega
theorem PFits.copy {M a : Nat} {out : List Pc} {i : Int} (h : PFits M a out) (h0 : 0 ≤ i) (h1 : i ≤ M) : PFits M (a + 8) (pcopy out i) := by
  obtain ⟨hl, hp⟩ := h
  rcases List.eq_nil_or_concat out with rfl | ⟨b, p, rfl⟩
  · rw [pcopy_nil]
    refine ⟨by simp, fun p hp => ?_⟩
    obtain rfl := List.mem_singleton.1 hp
    simp only [pcNew]
    exact ⟨by omega, by omega, by omega, by omega, Nat.zero_le _⟩
  · rw [List.concat_eq_append] at hl hp ⊢
    have hpp := hp p (by simp)
    by_cases hc : p.cp = true ∧ p.fr + p.ln = 8 * i
    · rw [pcopy_on hc]
      refine ⟨by simp at hl ⊢; omega, fun q hq => ?_⟩
      rcases List.mem_append.1 hq with hq | hq
      · have := hp q (by simp [hq]); omega
      · obtain rfl := List.mem_singleton.1 hq
        dsimp only
        omega
    · rw [pcopy_new hc]
      refine ⟨by simp at hl ⊢; omega, fun q hq => ?_⟩
      rcases List.mem_append.1 hq with hq | hq
      · have := hp q hq; omega
      · obtain rfl := List.mem_singleton.1 hq
        simp only [pcNew]
        exact ⟨by omega, by omega, by omega, by omega, Nat.zero_le _⟩
theorem PFits.text {M a : Nat} {out : List Pc} {c : ByteArray} (h : PFits M a out) (hc : c.size ≤ 1) : PFits M (a + 1) (ptext out c) := by
  obtain ⟨hl, hp⟩ := h
  have new : 0 ≤ (pcTxt c).fr ∧ (pcTxt c).fr ≤ 8 * M ∧ 0 ≤ (pcTxt c).ln ∧ (pcTxt c).ln ≤ ((a + 1 : Nat) : Int) ∧ (pcTxt c).lit.size ≤ a + 1 := by simp only [pcTxt]; omega
  rcases List.eq_nil_or_concat out with rfl | ⟨b, p, rfl⟩
  · rw [ptext_nil]
    refine ⟨by simp, fun p hp => ?_⟩
    obtain rfl := List.mem_singleton.1 hp
    exact new
  · rw [List.concat_eq_append] at hl hp ⊢
    have hpp := hp p (by simp)
    cases hcp : p.cp
    · rw [ptext_on hcp]
      refine ⟨by simp at hl ⊢; omega, fun q hq => ?_⟩
      rcases List.mem_append.1 hq with hq | hq
      · have := hp q (by simp [hq]); omega
      · obtain rfl := List.mem_singleton.1 hq
        dsimp only
        have := ByteArray.size_append (a := p.lit) (b := c)
        omega
    · rw [ptext_new hcp]
      refine ⟨by simp at hl ⊢; omega, fun q hq => ?_⟩
      rcases List.mem_append.1 hq with hq | hq
      · have := hp q hq; omega
      · obtain rfl := List.mem_singleton.1 hq
        exact new
end Go.Proofs.YtnencoainacpoaaDoor

end
section
/-
  Pieces as bytes, as lists. No walk.
-/
namespace Go.Proofs.YtnencoainacpoaaDoor
open Go.RowKit WM
set_option linter.unusedVariables false
def pcB (p : Pc) : List Int := if p.cp then [1] ++ enc p.fr ++ enc p.ln else [0] ++ txt p.lit
def pputB (l : List Pc) : List Int := enc l.length ++ l.flatMap pcB
theorem pcB_len {p : Pc} (h : pcGood p = true) : (pcB p).length ≤ 220 := by
  have h1 := pcGood_size h
  have h2 := enc_len p.fr
  have h3 := enc_len p.ln
  have h4 := enc_len p.lit.size
  unfold pcB txt
  split <;> simp only [List.length_append, List.length_cons, List.length_nil, nums_len] <;> omega
end Go.Proofs.YtnencoainacpoaaDoor

end
section
/-
  Pieces out of bytes, as lists. No walk.
-/
namespace Go.Proofs.YtnencoainacpoaaDoor
open Go.RowKit WM
set_option linter.unusedVariables false
/-- One piece, from place a on. -/
def pg1 (zs : List Int) (a : Nat) : Option (Pc × Nat) :=
  if a < zs.length ∧ zs.getD a 0 ≤ 1 then
    if zs.getD a 0 = 1 then
      match dec (zs.drop (a + 1)) with
      | none => none
      | some (f, k1) =>
        match dec (zs.drop (a + 1 + k1)) with
        | none => none
        | some (q, k2) => if f ≤ 200 ∧ q ≤ 200 then some (⟨true, f, q, ⟨#[]⟩⟩, a + 1 + k1 + k2) else none
    else
      match rd (zs.drop (a + 1)) 200 with
      | none => none
      | some (t, k) => some (⟨false, 0, 0, strOfNums t⟩, a + 1 + k)
  else none
def pgN (zs : List Int) : Nat → Nat → List Pc → Option (List Pc × Nat)
  | 0, a, l => some (l, a)
  | n + 1, a, l => match pg1 zs a with
    | none => none
    | some (p, a') => pgN zs n a' (l ++ [p])
def pgM (o : Option (List Pc × Nat)) : Option (List Pc × Nat) := match o with
  | none => none
  | some (l, a) => if pmay l then some (l, a) else none
def pget (zs : List Int) : Option (List Pc × Nat) := match dec zs with
  | none => none
  | some (n, k) => if n ≤ 60 then pgM (pgN zs n.toNat k []) else none
theorem all_drop' {zs : List Int} (h : AllBytes zs) (k : Nat) : AllBytes (zs.drop k) := fun z hz => h z (List.mem_of_mem_drop hz)
theorem pg1_some {zs : List Int} (hb : AllBytes zs) {a a' : Nat} {p : Pc} (h : pg1 zs a = some (p, a')) : a < a' ∧ a' ≤ zs.length ∧ 0 ≤ p.fr ∧ p.fr ≤ 200 ∧ 0 ≤ p.ln ∧ p.ln ≤ 200 ∧ p.lit.size ≤ 200 := by
  unfold pg1 at h
  split at h
  · rename_i h1
    split at h
    · split at h
      · cases h
      · rename_i f k1 hd1
        split at h
        · cases h
        · rename_i q k2 hd2
          split at h
          · rename_i hfq
            obtain ⟨a1, a2, _, a4, _⟩ := dec_some (all_drop' hb _) hd1
            obtain ⟨b1, b2, _, b4, _⟩ := dec_some (all_drop' hb _) hd2
            rw [List.length_drop] at a2 b2
            simp only [Option.some.injEq, Prod.mk.injEq] at h
            obtain ⟨rfl, rfl⟩ := h
            dsimp only
            exact ⟨by omega, by omega, by omega, by omega, by omega, by omega, Nat.zero_le _⟩
          · cases h
    · split at h
      · cases h
      · rename_i t k hd
        obtain ⟨a1, a2, _, _, a5⟩ := rd_some (all_drop' hb _) hd
        rw [List.length_drop] at a1
        simp only [Option.some.injEq, Prod.mk.injEq] at h
        obtain ⟨rfl, rfl⟩ := h
        dsimp only
        have := strOfNums_size t
        exact ⟨by omega, by omega, by omega, by omega, by omega, by omega, by omega⟩
  · cases h
section
variable {zs : List Int} {a : Nat}
theorem pg1_far (h : ¬ (a < zs.length ∧ zs.getD a 0 ≤ 1)) : pg1 zs a = none := if_neg h
theorem pg1_c0 (ha : a < zs.length) (hz : zs.getD a 0 = 1) (h : dec (zs.drop (a + 1)) = none) : pg1 zs a = none := by
  unfold pg1
  rw [if_pos ⟨ha, by omega⟩, if_pos hz, h]
theorem pg1_c1 (ha : a < zs.length) (hz : zs.getD a 0 = 1) {f : Int} {k1 : Nat} (h : dec (zs.drop (a + 1)) = some (f, k1)) (h2 : dec (zs.drop (a + 1 + k1)) = none) : pg1 zs a = none := by
  unfold pg1
  rw [if_pos ⟨ha, by omega⟩, if_pos hz, h]
  simp only [h2]
theorem pg1_c2 (ha : a < zs.length) (hz : zs.getD a 0 = 1) {f q : Int} {k1 k2 : Nat} (h : dec (zs.drop (a + 1)) = some (f, k1)) (h2 : dec (zs.drop (a + 1 + k1)) = some (q, k2)) : pg1 zs a = if f ≤ 200 ∧ q ≤ 200 then some (⟨true, f, q, ⟨#[]⟩⟩, a + 1 + k1 + k2) else none := by
  unfold pg1
  rw [if_pos ⟨ha, by omega⟩, if_pos hz, h]
  simp only [h2]
theorem pg1_t (ha : a < zs.length) (hz : zs.getD a 0 = 0) : pg1 zs a = match rd (zs.drop (a + 1)) 200 with | none => none | some (t, k) => some (⟨false, 0, 0, strOfNums t⟩, a + 1 + k) := by
  unfold pg1
  rw [if_pos ⟨ha, by omega⟩, if_neg (by omega)]
end
theorem pgN_none {zs : List Int} {n a : Nat} {l : List Pc} (h : pg1 zs a = none) : pgM (pgN zs (n + 1) a l) = none := by simp only [pgN, h, pgM]
theorem pgN_some {zs : List Int} {n a a' : Nat} {l : List Pc} {p : Pc} (h : pg1 zs a = some (p, a')) : pgM (pgN zs (n + 1) a l) = pgM (pgN zs n a' (l ++ [p])) := by simp only [pgN, h]
end Go.Proofs.YtnencoainacpoaaDoor

end
section
/-
  The program's reader of pieces, as lists: what it takes, part by part; and that this is what the document says. No walk.
-/
namespace Go.Proofs.YtnencoainacpoaaDoor
open Go.RowKit WM
set_option linter.unusedVariables false
/-- What is still to be read, and whether all was there. -/
abbrev RS := List Int × Bool
def nm (most : Int) (s : RS) : Int × RS := match dec s.1 with
  | some (n, k) => if n ≤ most then (n, (s.1.drop k, s.2)) else (0, ([], false))
  | none => (0, ([], false))
def txr (s : RS) : Pc × RS := match rd s.1 200 with
  | some (t, k) => (⟨false, 0, 0, strOfNums t⟩, (s.1.drop k, s.2))
  | none => (⟨false, 0, 0, ⟨#[]⟩⟩, ([], false))
def cpr (s : RS) : Pc × RS := (⟨true, (nm 200 s).1, (nm 200 (nm 200 s).2).1, ⟨#[]⟩⟩, (nm 200 (nm 200 s).2).2)
def pcr (s : RS) : Pc × RS := if (nm 1 s).1 = 1 then cpr (nm 1 s).2 else txr (nm 1 s).2
def pcrN : Nat → RS → List Pc → List Pc × RS
  | 0, s, l => (l, s)
  | n + 1, s, l => pcrN n (pcr s).2 (l ++ [(pcr s).1])
def rget (zs : List Int) (x : List Pc × RS) : Option (List Pc × Nat) := if x.2.2 = true ∧ pmay x.1 = true then some (x.1, zs.length - x.2.1.length) else none
theorem dec_nil : dec [] = none := by decide
theorem dec_small (z : Int) (t : List Int) (h0 : 0 ≤ z) (h1 : z ≤ 127) : dec (z :: t) = some (z, 1) := by
  have h := dec_enc z t h0 (by omega)
  have he : enc z = [z] := by
    unfold enc
    rw [show z / 128 = 0 by omega, encH_zero, show z % 128 = z by omega]
    rfl
  rw [he] at h
  exact h
theorem nm_dead (m : Int) : nm m ([], false) = (0, ([], false)) := by simp [nm, dec_nil]
theorem txr_dead : txr ([], false) = (⟨false, 0, 0, ⟨#[]⟩⟩, ([], false)) := by simp [txr, rd, dec_nil]
theorem pcr_dead : pcr ([], false) = (⟨false, 0, 0, ⟨#[]⟩⟩, ([], false)) := by
  unfold pcr
  rw [nm_dead]
  exact txr_dead
theorem pcrN_dead : ∀ (n : Nat) (l : List Pc), (pcrN n ([], false) l).2 = ([], false)
  | 0, l => rfl
  | n + 1, l => by unfold pcrN; rw [pcr_dead]; exact pcrN_dead n _
theorem nm_ok {m : Int} (hm : 0 ≤ m) {s : RS} (hb : AllBytes s.1) : 0 ≤ (nm m s).1 ∧ (nm m s).1 ≤ m ∧ AllBytes (nm m s).2.1 ∧ (nm m s).2.1.length ≤ s.1.length := by
  have hn : AllBytes ([] : List Int) := fun z hz => by cases hz
  unfold nm
  cases hd : dec s.1 with
  | none => exact ⟨Int.le_refl _, hm, hn, Nat.zero_le _⟩
  | some x =>
    obtain ⟨n, k⟩ := x
    obtain ⟨d1, d2, d3, d4, d5⟩ := dec_some hb hd
    dsimp only
    split
    · rename_i h
      exact ⟨d4, h, all_drop' hb k, by rw [List.length_drop]; omega⟩
    · exact ⟨Int.le_refl _, hm, hn, Nat.zero_le _⟩
theorem txr_ok {s : RS} (hb : AllBytes s.1) : (txr s).1.lit.size ≤ 200 ∧ AllBytes (txr s).2.1 ∧ (txr s).2.1.length ≤ s.1.length ∧ (txr s).1.fr = 0 ∧ (txr s).1.ln = 0 := by
  have hn : AllBytes ([] : List Int) := fun z hz => by cases hz
  unfold txr
  cases hd : rd s.1 200 with
  | none => exact ⟨Nat.zero_le _, hn, Nat.zero_le _, rfl, rfl⟩
  | some x =>
    obtain ⟨t, k⟩ := x
    obtain ⟨d1, d2, d3, d4, d5⟩ := rd_some hb hd
    have := strOfNums_size t
    exact ⟨by dsimp only; omega, all_drop' hb k, by rw [List.length_drop]; omega, rfl, rfl⟩
theorem cpr_ok {s : RS} (hb : AllBytes s.1) : 0 ≤ (cpr s).1.fr ∧ (cpr s).1.fr ≤ 200 ∧ 0 ≤ (cpr s).1.ln ∧ (cpr s).1.ln ≤ 200 ∧ (cpr s).1.lit.size ≤ 200 ∧ AllBytes (cpr s).2.1 ∧ (cpr s).2.1.length ≤ s.1.length := by
  have h1 := nm_ok (m := 200) (by decide) hb
  have h2 := nm_ok (m := 200) (by decide) h1.2.2.1
  exact ⟨h1.1, h1.2.1, h2.1, h2.2.1, Nat.zero_le _, h2.2.2.1, Nat.le_trans h2.2.2.2 h1.2.2.2⟩
theorem pcr_ok {s : RS} (hb : AllBytes s.1) : 0 ≤ (pcr s).1.fr ∧ (pcr s).1.fr ≤ 200 ∧ 0 ≤ (pcr s).1.ln ∧ (pcr s).1.ln ≤ 200 ∧ (pcr s).1.lit.size ≤ 200 ∧ AllBytes (pcr s).2.1 ∧ (pcr s).2.1.length ≤ s.1.length := by
  have h1 := nm_ok (m := 1) (by decide) hb
  unfold pcr
  split
  · have h2 := cpr_ok h1.2.2.1
    exact ⟨h2.1, h2.2.1, h2.2.2.1, h2.2.2.2.1, h2.2.2.2.2.1, h2.2.2.2.2.2.1, Nat.le_trans h2.2.2.2.2.2.2 h1.2.2.2⟩
  · have h2 := txr_ok h1.2.2.1
    exact ⟨by rw [h2.2.2.2.1]; decide, by rw [h2.2.2.2.1]; decide, by rw [h2.2.2.2.2]; decide, by rw [h2.2.2.2.2]; decide, h2.1, h2.2.1, Nat.le_trans h2.2.2.1 h1.2.2.2⟩
/-- One piece, as the document says. -/
theorem pcr_pg1 {zs : List Int} (hb : AllBytes zs) {a : Nat} : (∃ p a', pg1 zs a = some (p, a') ∧ pcr (zs.drop a, true) = (p, (zs.drop a', true))) ∨ (pg1 zs a = none ∧ (pcr (zs.drop a, true)).2 = ([], false)) := by
  have hda : AllBytes (zs.drop a) := all_drop' hb a
  by_cases hfar : a < zs.length ∧ zs.getD a 0 ≤ 1
  · obtain ⟨ha, hz⟩ := hfar
    have hzb : 0 ≤ zs.getD a 0 := by
      rw [List.getD_eq_getElem?_getD, List.getElem?_eq_getElem ha]
      exact (hb _ (List.getElem_mem ha)).1
    have hcons : zs.drop a = zs.getD a 0 :: zs.drop (a + 1) := by
      rw [List.drop_eq_getElem_cons ha, List.getD_eq_getElem?_getD, List.getElem?_eq_getElem ha]
      rfl
    have hd1 : nm 1 (zs.drop a, true) = (zs.getD a 0, (zs.drop (a + 1), true)) := by
      unfold nm
      dsimp only
      rw [hcons, dec_small _ _ hzb (by omega)]
      dsimp only
      rw [if_pos hz]
      rfl
    unfold pcr
    rw [hd1]
    dsimp only
    by_cases h1 : zs.getD a 0 = 1
    · rw [if_pos h1]
      unfold cpr
      cases hd : dec (zs.drop (a + 1)) with
      | none =>
        right
        refine ⟨pg1_c0 ha h1 hd, ?_⟩
        have : nm 200 (zs.drop (a + 1), true) = (0, ([], false)) := by unfold nm; dsimp only; rw [hd]
        rw [this, nm_dead]
      | some x =>
        obtain ⟨f, k1⟩ := x
        by_cases hf : f ≤ 200
        · have e1 : nm 200 (zs.drop (a + 1), true) = (f, (zs.drop (a + 1 + k1), true)) := by
            unfold nm; dsimp only; rw [hd]; dsimp only; rw [if_pos hf, List.drop_drop]
          rw [e1]
          dsimp only
          cases hd2 : dec (zs.drop (a + 1 + k1)) with
          | none =>
            right
            refine ⟨pg1_c1 ha h1 hd hd2, ?_⟩
            unfold nm; dsimp only; rw [hd2]
          | some y =>
            obtain ⟨q, k2⟩ := y
            have hpg := pg1_c2 ha h1 hd hd2
            by_cases hq : q ≤ 200
            · left
              rw [if_pos ⟨hf, hq⟩] at hpg
              refine ⟨_, _, hpg, ?_⟩
              have e2 : nm 200 (zs.drop (a + 1 + k1), true) = (q, (zs.drop (a + 1 + k1 + k2), true)) := by
                unfold nm; dsimp only; rw [hd2]; dsimp only; rw [if_pos hq, List.drop_drop]
              rw [e2]
            · right
              rw [if_neg (fun h => hq h.2)] at hpg
              refine ⟨hpg, ?_⟩
              unfold nm; dsimp only; rw [hd2]; dsimp only; rw [if_neg hq]
        · right
          have e1 : nm 200 (zs.drop (a + 1), true) = (0, ([], false)) := by unfold nm; dsimp only; rw [hd]; dsimp only; rw [if_neg hf]
          rw [e1, nm_dead]
          refine ⟨?_, rfl⟩
          cases hd2 : dec (zs.drop (a + 1 + k1)) with
          | none => exact pg1_c1 ha h1 hd hd2
          | some y =>
            obtain ⟨q, k2⟩ := y
            rw [pg1_c2 ha h1 hd hd2, if_neg (fun h => hf h.1)]
    · have h0 : zs.getD a 0 = 0 := by omega
      rw [if_neg h1]
      have hpg := pg1_t ha h0
      unfold txr
      dsimp only
      cases hd : rd (zs.drop (a + 1)) 200 with
      | none =>
        right
        rw [hd] at hpg
        exact ⟨hpg, rfl⟩
      | some x =>
        obtain ⟨t, k⟩ := x
        left
        rw [hd] at hpg
        refine ⟨_, _, hpg, ?_⟩
        dsimp only
        rw [List.drop_drop]
  · right
    refine ⟨pg1_far hfar, ?_⟩
    have e1 : nm 1 (zs.drop a, true) = (0, ([], false)) := by
      unfold nm
      dsimp only
      cases hd : dec (zs.drop a) with
      | none => rfl
      | some x =>
        obtain ⟨n, k⟩ := x
        dsimp only
        by_cases hn : n ≤ 1
        · exfalso
          obtain ⟨d1, d2, d3, d4, d5⟩ := dec_some hda hd
          rw [List.length_drop] at d2
          refine hfar ⟨by omega, ?_⟩
          have ha : a < zs.length := by omega
          have hcons : zs.drop a = zs.getD a 0 :: zs.drop (a + 1) := by
            rw [List.drop_eq_getElem_cons ha, List.getD_eq_getElem?_getD, List.getElem?_eq_getElem ha]
            rfl
          have he : enc n = [n] := by
            unfold enc
            rw [show n / 128 = 0 by omega, encH_zero, show n % 128 = n by omega]
            rfl
          rw [he, hcons] at d3
          obtain ⟨k', rfl⟩ : ∃ k', k = k' + 1 := ⟨k - 1, by omega⟩
          rw [List.take_succ_cons] at d3
          have := (List.cons.inj d3).1
          omega
        · rw [if_neg hn]
    unfold pcr
    rw [e1]
    dsimp only
    rw [if_neg (by decide), txr_dead]
theorem pcrN_pgN {zs : List Int} (hb : AllBytes zs) : ∀ (n a : Nat) (l : List Pc), a ≤ zs.length → pgM (pgN zs n a l) = rget zs (pcrN n (zs.drop a, true) l)
  | 0, a, l, ha => by
    unfold rget pcrN
    simp only [pgN, pgM, true_and, List.length_drop]
    rw [show zs.length - (zs.length - a) = a by omega]
  | n + 1, a, l, ha => by
    unfold pcrN
    rcases pcr_pg1 hb (a := a) with ⟨p, a', h1, h2⟩ | ⟨h1, h2⟩
    · rw [pgN_some h1, h2]
      exact pcrN_pgN hb n a' (l ++ [p]) (pg1_some hb h1).2.1
    · rw [pgN_none h1, h2]
      unfold rget
      rw [pcrN_dead]
      simp
theorem pget_rget {zs : List Int} (hb : AllBytes zs) : pget zs = rget zs (pcrN (nm 60 (zs, true)).1.toNat (nm 60 (zs, true)).2 []) := by
  unfold pget nm
  dsimp only
  cases hd : dec zs with
  | none => simp [rget, pcrN]
  | some x =>
    obtain ⟨n, k⟩ := x
    obtain ⟨d1, d2, d3, d4, d5⟩ := dec_some hb hd
    dsimp only
    by_cases hn : n ≤ 60
    · rw [if_pos hn, if_pos hn]
      exact pcrN_pgN hb _ _ _ d2
    · rw [if_neg hn, if_neg hn]
      simp [rget, pcrN]
end Go.Proofs.YtnencoainacpoaaDoor

end
section
/-
  Pieces that are put are got, whatever stands behind; what is got is put as the same bytes. No walk.
-/
namespace Go.Proofs.YtnencoainacpoaaDoor
open Go.RowKit WM
set_option linter.unusedVariables false
theorem drop_in11 {zs xs : List Int} {a : Nat} (h : zs.drop a = xs) (h0 : xs ≠ []) : a < zs.length := by
  rcases Nat.lt_or_ge a zs.length with h1 | h1
  · exact h1
  · rw [List.drop_eq_nil_of_le h1] at h
    exact absurd h.symm h0
theorem drop_get {zs : List Int} {a : Nat} {z : Int} {t : List Int} (h : zs.drop a = z :: t) : a < zs.length ∧ zs.getD a 0 = z ∧ zs.drop (a + 1) = t := by
  have ha := drop_in11 h (by simp)
  rw [drop_at ha, List.cons.injEq] at h
  exact ⟨ha, h.1, h.2⟩
theorem drop_more {zs xs ys : List Int} {a : Nat} (h : zs.drop a = xs ++ ys) : zs.drop (a + xs.length) = ys := by
  rw [← List.drop_drop, h, List.drop_left]
theorem pg1_put {zs t : List Int} {a : Nat} {p : Pc} (hg : pcGood p = true) (h : zs.drop a = pcB p ++ t) : pg1 zs a = some (p, a + (pcB p).length) := by
  have hs := pcGood_size hg
  obtain ⟨cp, fr, ln, lit⟩ := p
  dsimp only at hs
  cases cp
  · have hb : pcB ⟨false, fr, ln, lit⟩ = [0] ++ txt lit := rfl
    have hc : fr = 0 ∧ ln = 0 := by unfold pcGood at hg; simp at hg; omega
    obtain ⟨rfl, rfl⟩ := hc
    rw [hb] at h ⊢
    rw [List.append_assoc, List.singleton_append] at h
    obtain ⟨h1, h2, h3⟩ := drop_get h
    rw [pg1_t h1 h2, h3, rd_txt lit t 200 (by omega), if_pos (by omega)]
    simp only [str_nums]
    congr 2
    simp only [List.length_append, List.length_singleton]
    omega
  · have hb : pcB ⟨true, fr, ln, lit⟩ = [1] ++ enc fr ++ enc ln := rfl
    have hc : lit.size = 0 := by unfold pcGood at hg; rw [if_pos rfl, decide_eq_true_eq] at hg; exact hg.2.2.2.2
    have hle : lit = ⟨#[]⟩ := by
      obtain ⟨d⟩ := lit
      congr 1
      exact Array.eq_empty_of_size_eq_zero hc
    subst hle
    rw [hb] at h ⊢
    rw [List.append_assoc, List.append_assoc, List.singleton_append] at h
    obtain ⟨h1, h2, h3⟩ := drop_get h
    have h4 := drop_more h3
    have d1 : dec (zs.drop (a + 1)) = some (fr, (enc fr).length) := by rw [h3]; exact dec_enc fr _ (by omega) (by omega)
    have d2 : dec (zs.drop (a + 1 + (enc fr).length)) = some (ln, (enc ln).length) := by rw [h4]; exact dec_enc ln t (by omega) (by omega)
    rw [pg1_c2 h1 h2 d1 d2, if_pos ⟨by omega, by omega⟩]
    congr 2
    simp only [List.length_append, List.length_singleton]
    omega
theorem pgN_put {zs t : List Int} : ∀ (l : List Pc) (a : Nat) (acc : List Pc), (∀ p ∈ l, pcGood p = true) → zs.drop a = l.flatMap pcB ++ t → pgN zs l.length a acc = some (acc ++ l, a + (l.flatMap pcB).length)
  | [], a, acc, _, _ => by simp [pgN]
  | p :: l, a, acc, hg, h => by
    rw [List.flatMap_cons, List.append_assoc] at h
    have h1 := pg1_put (hg p (List.mem_cons_self ..)) h
    have h2 := drop_more h
    simp only [List.length_cons, pgN, h1]
    rw [pgN_put l _ (acc ++ [p]) (fun q hq => hg q (List.mem_cons_of_mem _ hq)) h2]
    simp only [List.flatMap_cons, List.length_append, List.append_assoc, List.singleton_append]
    congr 2
    omega
theorem pget_put {l : List Pc} (t : List Int) (h : pmay l = true) : pget (pputB l ++ t) = some (l, (pputB l).length) := by
  obtain ⟨hg, hl, _⟩ := pmay_iff.1 h
  have hd : dec (pputB l ++ t) = some ((l.length : Int), (enc l.length).length) := by
    unfold pputB
    rw [List.append_assoc]
    exact dec_enc (l.length : Int) _ (by omega) (by omega)
  unfold pget
  rw [hd]
  simp only
  rw [if_pos (by omega), Int.toNat_natCast]
  have hdr : (pputB l ++ t).drop (enc (l.length : Int)).length = l.flatMap pcB ++ t := by
    unfold pputB
    rw [List.append_assoc, List.drop_left]
  rw [pgN_put l _ [] hg hdr]
  simp only [pgM, List.nil_append, h, if_true]
  congr 2
  unfold pputB
  rw [List.length_append]
/-! ### what is got -/
theorem pg1_got {zs : List Int} (hb : AllBytes zs) {a a' : Nat} {p : Pc} (h : pg1 zs a = some (p, a')) : pcB p = (zs.drop a).take (a' - a) ∧ a ≤ a' ∧ a' ≤ zs.length := by
  have hr := pg1_some hb h
  refine ⟨?_, by omega, hr.2.1⟩
  unfold pg1 at h
  split at h
  · rename_i h1
    have hz := hb (zs.getD a 0) (by rw [List.getD_eq_getElem?_getD, List.getElem?_eq_getElem h1.1]; exact List.getElem_mem _)
    have hdc : zs.drop a = zs.getD a 0 :: zs.drop (a + 1) := drop_at h1.1
    split at h
    · rename_i hz1
      split at h
      · cases h
      · rename_i f k1 hd1
        split at h
        · cases h
        · rename_i q k2 hd2
          split at h
          · obtain ⟨a1, a2, a3, a4, _⟩ := dec_some (all_drop' hb _) hd1
            obtain ⟨b1, b2, b3, b4, _⟩ := dec_some (all_drop' hb _) hd2
            simp only [Option.some.injEq, Prod.mk.injEq] at h
            obtain ⟨rfl, rfl⟩ := h
            show [1] ++ enc f ++ enc q = _
            rw [hdc, hz1, a3, b3, show a + 1 + k1 + k2 - a = 1 + (k1 + k2) by omega, Nat.add_comm 1, List.take_succ_cons, List.take_add, List.drop_drop]
            simp
          · cases h
    · rename_i hz1
      have hz0 : zs.getD a 0 = 0 := by omega
      split at h
      · cases h
      · rename_i t k hd
        obtain ⟨a1, a2, a3, a4, _⟩ := rd_some (all_drop' hb _) hd
        simp only [Option.some.injEq, Prod.mk.injEq] at h
        obtain ⟨rfl, rfl⟩ := h
        show [0] ++ txt (strOfNums t) = _
        rw [hdc, hz0, a3, show a + 1 + k - a = k + 1 by omega, List.take_succ_cons]
        rfl
  · cases h
theorem pgN_got {zs : List Int} (hb : AllBytes zs) : ∀ (n a a' : Nat) (acc l : List Pc), a ≤ zs.length → pgN zs n a acc = some (l, a') → ∃ m, l = acc ++ m ∧ m.length = n ∧ m.flatMap pcB = (zs.drop a).take (a' - a) ∧ a ≤ a' ∧ a' ≤ zs.length
  | 0, a, a', acc, l, ha, h => by
    simp only [pgN, Option.some.injEq, Prod.mk.injEq] at h
    obtain ⟨rfl, rfl⟩ := h
    exact ⟨[], by simp, rfl, by simp, Nat.le_refl _, ha⟩
  | n + 1, a, a', acc, l, ha, h => by
    simp only [pgN] at h
    split at h
    · cases h
    · rename_i p a1 h1
      obtain ⟨b1, b2, b3⟩ := pg1_got hb h1
      obtain ⟨m, rfl, hm, hf, hle, hle2⟩ := pgN_got hb n a1 a' (acc ++ [p]) l b3 h
      refine ⟨p :: m, by simp, by simp [hm], ?_, by omega, hle2⟩
      rw [List.flatMap_cons, b1, hf, show a' - a = (a1 - a) + (a' - a1) by omega, List.take_add, List.drop_drop, show a + (a1 - a) = a1 by omega]
theorem pget_got {zs : List Int} (hb : AllBytes zs) {l : List Pc} {n : Nat} (h : pget zs = some (l, n)) : pmay l = true ∧ pputB l = zs.take n ∧ n ≤ zs.length := by
  unfold pget at h
  split at h
  · cases h
  · rename_i m k hd
    obtain ⟨d1, d2, d3, d4, _⟩ := dec_some hb hd
    split at h
    · rename_i h60
      cases hg : pgN zs m.toNat k [] with
      | none => rw [hg] at h; cases h
      | some la =>
        obtain ⟨l', a'⟩ := la
        rw [hg] at h
        simp only [pgM] at h
        split at h
        · rename_i hm
          simp only [Option.some.injEq, Prod.mk.injEq] at h
          obtain ⟨rfl, rfl⟩ := h
          obtain ⟨q, hq, hlq, hf, hle, hle2⟩ := pgN_got hb _ _ _ _ _ d2 hg
          rw [List.nil_append] at hq
          subst hq
          refine ⟨hm, ?_, hle2⟩
          unfold pputB
          rw [hlq, show ((m.toNat : Nat) : Int) = m by omega, d3, hf, show a' = k + (a' - k) by omega, List.take_add, show k + (a' - k) - k = a' - k by omega]
        · cases h
    · cases h
end Go.Proofs.YtnencoainacpoaaDoor

end
section
/-
  What follows of pieces, as lists: what is made makes the value again; parts one behind the other; what is put is got. No walk.
-/
namespace Go.Proofs.YtnencoainacpoaaDoor
open Go.RowKit WM
set_option linter.unusedVariables false
theorem ba_eq {a b : ByteArray} (h : nums a = nums b) : a = b := by rw [← str_nums a, h, str_nums]
theorem nums_app11 (s t : ByteArray) : nums (s ++ t) = nums s ++ nums t := by
  unfold nums
  rw [ByteArray.data_append]
  simp
theorem ba_join (s : ByteArray) {i j k : Nat} (h1 : i ≤ j) (h2 : j ≤ k) : s.extract i j ++ s.extract j k = s.extract i k := by
  apply ba_eq
  rw [nums_app11, nums_extract, nums_extract, nums_extract]
  have e : k - i = (j - i) + (k - j) := by omega
  rw [e, List.take_add, List.drop_drop, show i + (j - i) = j by omega]
theorem ba_all (s : ByteArray) : s.extract 0 s.size = s := by
  apply ba_eq
  rw [nums_extract, List.drop_zero, Nat.sub_zero, List.take_of_length_le (by rw [nums_len]; exact Nat.le_refl _)]
theorem ba_none (s : ByteArray) : s.extract 0 0 = ⟨#[]⟩ := by
  apply ba_eq
  rw [nums_extract]
  rfl
/-! ### how much is made -/
theorem pap_size (base : ByteArray) : ∀ (l : List Pc) (acc x : ByteArray), l.all pcGood = true → pap base l acc = some x → (x.size : Int) = acc.size + pcAll l
  | [], acc, x, _, h => by
    simp only [pap, Option.some.injEq] at h
    subst h
    simp [pcAll]
  | p :: l, acc, x, hg, h => by
    rw [List.all_cons, Bool.and_eq_true] at hg
    have hs := pcGood_size hg.1
    simp only [pap] at h
    cases hc : p.cp
    · rw [hc] at h
      simp only [Bool.false_eq_true, if_false] at h
      have h2 := pap_size base l _ x hg.2 h
      have hp : p.ln = 0 := by have := hg.1; unfold pcGood at this; rw [hc] at this; simp at this; omega
      rw [ByteArray.size_append] at h2
      simp only [pcAll, pcSize]
      omega
    · rw [hc] at h
      simp only [if_true] at h
      split at h
      · cases h
      · rename_i hlt
        have h2 := pap_size base l _ x hg.2 h
        have hp : p.lit.size = 0 := by have := hg.1; unfold pcGood at this; rw [hc, if_pos rfl, decide_eq_true_eq] at this; omega
        rw [ByteArray.size_append, extract_size _ _ _ (by omega)] at h2
        simp only [pcAll, pcSize]
        omega
/-! ### parts -/
theorem papply_some {base : ByteArray} {l : List Pc} {x : ByteArray} (h : papply base l = some x) : pmay l = true ∧ pap base l ⟨#[]⟩ = some x := by
  unfold papply at h
  split at h
  · exact ⟨by assumption, h⟩
  · cases h
theorem pmay_append {l m : List Pc} (h1 : pmay l = true) (h2 : pmay m = true) : pmay (l ++ m) = (decide (l.length + m.length ≤ 60) && decide (pcAll l + pcAll m ≤ 200)) := by
  unfold pmay at h1 h2 ⊢
  rw [List.all_append, pcAll_append, List.length_append]
  rw [Bool.and_eq_true] at h1 h2
  rw [h1.1, h2.1]
  rfl
theorem pmay_left {l m : List Pc} (h : pmay (l ++ m) = true) : pmay l = true ∧ pmay m = true := by
  rw [pmay_iff] at h ⊢
  rw [pmay_iff]
  obtain ⟨h1, h2, h3⟩ := h
  have hl : ∀ p ∈ l, pcGood p = true := fun p hp => h1 p (List.mem_append_left _ hp)
  have hm : ∀ p ∈ m, pcGood p = true := fun p hp => h1 p (List.mem_append_right _ hp)
  have a1 := pcAll_nonneg (List.all_eq_true.2 hl)
  have a2 := pcAll_nonneg (List.all_eq_true.2 hm)
  rw [List.length_append] at h2
  rw [pcAll_append] at h3
  exact ⟨⟨hl, by omega, by omega⟩, hm, by omega, by omega⟩
/-- Two parts, the one behind the other. -/
theorem parts_yes {base : ByteArray} {l m : List Pc} {x y : ByteArray} (h1 : papply base l = some x) (h2 : papply base m = some y) : papply base (l ++ m) = if x.size + y.size ≤ 200 ∧ l.length + m.length ≤ 60 then some (x ++ y) else none := by
  obtain ⟨a1, a2⟩ := papply_some h1
  obtain ⟨b1, b2⟩ := papply_some h2
  have s1 := pap_size base l _ _ (List.all_eq_true.2 (pmay_iff.1 a1).1) a2
  have s2 := pap_size base m _ _ (List.all_eq_true.2 (pmay_iff.1 b1).1) b2
  have e : (⟨#[]⟩ : ByteArray).size = 0 := rfl
  rw [e] at s1 s2
  have hmay := pmay_append a1 b1
  unfold papply
  rw [hmay, pap_append, a2]
  simp only [Option.bind_some]
  rw [pap_acc, b2]
  simp only [Option.map_some, Bool.and_eq_true, decide_eq_true_eq]
  by_cases hc : x.size + y.size ≤ 200 ∧ l.length + m.length ≤ 60
  · rw [if_pos hc, if_pos ⟨hc.2, by omega⟩]
  · rw [if_neg hc, if_neg (fun h => hc ⟨by omega, h.1⟩)]
theorem parts_no {base : ByteArray} {l m : List Pc} (h : papply base l = none ∨ papply base m = none) : papply base (l ++ m) = none := by
  unfold papply at h ⊢
  by_cases hm : pmay (l ++ m) = true
  · obtain ⟨h1, h2⟩ := pmay_left hm
    rw [if_pos hm, pap_append]
    rw [if_pos h1, if_pos h2] at h
    rcases h with h | h
    · rw [h]; rfl
    · cases hl : pap base l ⟨#[]⟩ with
      | none => rfl
      | some x => simp only [Option.bind_some]; rw [pap_acc, h]; rfl
  · rw [if_neg hm]
/-! ### none, one -/
theorem papply_nil (base : ByteArray) : papply base [] = some ⟨#[]⟩ := rfl
theorem papply_all {s : ByteArray} (h1 : 1 ≤ s.size) (h2 : s.size ≤ 200) : papply s [⟨true, 0, s.size, ⟨#[]⟩⟩] = some s := by
  have hm : pmay [⟨true, 0, s.size, ⟨#[]⟩⟩] = true := by
    rw [pmay_iff]
    have e : (⟨#[]⟩ : ByteArray).size = 0 := rfl
    refine ⟨fun p hp => ?_, by simp, by simp only [pcAll, pcSize, e]; omega⟩
    obtain rfl := List.mem_singleton.1 hp
    unfold pcGood
    rw [if_pos rfl, decide_eq_true_eq]
    dsimp only
    omega
  unfold papply
  rw [if_pos hm]
  simp only [pap, if_true]
  rw [if_neg (by omega), ba_empty_append]
  simp only [Int.zero_add, Int.toNat_zero, Int.toNat_natCast, ba_all]
theorem papply_zero {s : ByteArray} (h : s.size = 0) : papply s [⟨true, 0, s.size, ⟨#[]⟩⟩] = none := by
  unfold papply
  rw [if_neg]
  rw [pmay_iff]
  rintro ⟨h1, _⟩
  have := h1 _ (List.mem_singleton.2 rfl)
  simp [pcGood, h] at this
theorem papply_far {s : ByteArray} {more : Int} (h : 1 ≤ more) : papply s [⟨true, more, s.size, ⟨#[]⟩⟩] = none := by
  unfold papply
  split
  · simp only [pap, if_true]
    rw [if_pos (by omega)]
  · rfl
end Go.Proofs.YtnencoainacpoaaDoor

end
section
/-
  What is made of a value's own blocks makes the value again (unless digests are alike), has just as many bytes, no two texts side by side. No walk.
-/
namespace Go.Proofs.YtnencoainacpoaaDoor
open Go.RowKit WM
set_option linter.unusedVariables false
/-- What holds at the start, and is kept by a copy and by a text, holds at the end. -/
theorem pmk_ind {sig : List Sg} {s : ByteArray} {P : Nat → List Pc → Prop}
    (hc : ∀ (a : Nat) (out : List Pc), a + 8 ≤ s.size → 0 ≤ pfind sig s a → P a out → P (a + 8) (pcopy out (pfind sig s a)))
    (ht : ∀ (a : Nat) (out : List Pc), a < s.size → ¬ 0 ≤ pfind sig s a → P a out → P (a + 1) (ptext out (s.extract a (a + 1)))) :
    ∀ (n a : Nat) (out : List Pc), s.size - a ≤ n → a ≤ s.size → P a out → P s.size (pmk sig s a out)
  | 0, a, out, hn, ha, h => by
    have e : a = s.size := by omega
    subst e
    rw [pmk_end (Nat.le_refl _)]
    exact h
  | n + 1, a, out, hn, ha, h => by
    by_cases hlt : a < s.size
    · by_cases hf : 0 ≤ pfind sig s a
      · have h8 := (pfind_range (M := sig.length) (Nat.le_refl _) hf).1
        rw [pmk_copy hlt hf]
        exact pmk_ind hc ht n (a + 8) _ (by omega) h8 (hc a out h8 hf h)
      · rw [pmk_text hlt hf]
        exact pmk_ind hc ht n (a + 1) _ (by omega) hlt (ht a out hlt hf h)
    · rw [pmk_end (by omega)]
      rw [show s.size = a by omega]
      exact h
theorem pmake_ind {sig : List Sg} {s : ByteArray} {P : Nat → List Pc → Prop}
    (hc : ∀ (a : Nat) (out : List Pc), a + 8 ≤ s.size → 0 ≤ pfind sig s a → P a out → P (a + 8) (pcopy out (pfind sig s a)))
    (ht : ∀ (a : Nat) (out : List Pc), a < s.size → ¬ 0 ≤ pfind sig s a → P a out → P (a + 1) (ptext out (s.extract a (a + 1)))) (h0 : P 0 []) : P s.size (pmake sig s) :=
  pmk_ind hc ht s.size 0 [] (by omega) (Nat.zero_le _) h0
theorem pfind_found {sig : List Sg} {s : ByteArray} {a : Nat} (h : 0 ≤ pfind sig s a) : ∃ i : Nat, pfind sig s a = i ∧ i < sig.length ∧ sig.getD i sg0 = sgOne (nums (s.extract a (a + 8))) := by
  unfold pfind at h ⊢
  split at h
  · rename_i h8
    rw [if_pos h8]
    unfold sgFind at h ⊢
    split at h
    · rename_i h1
      rw [if_pos h1]
      rcases sgFrom_cases (sgOne (nums (s.extract a (a + 8)))) sig 0 with ⟨h2, _⟩ | ⟨i, h2, h3, h4, _⟩
      · rw [h2] at h; omega
      · exact ⟨i, by rw [h3]; omega, h2, h4⟩
    · omega
  · omega
theorem own_block {base : ByteArray} {i : Nat} (h : i < (sgOf (nums base)).length) : 24 ≤ base.size ∧ 8 * i + 8 ≤ base.size ∧ (sgOf (nums base)).getD i sg0 = sgOne (nums (base.extract (8 * i) (8 * i + 8))) := by
  by_cases h24 : (nums base).length < 24
  · rw [sgOf_none h24] at h; simp at h
  · rw [sgOf_len h24, nums_len] at h
    rw [sgOf_at h24 (by rw [nums_len]; exact h), part_nums]
    rw [nums_len] at h24
    exact ⟨by omega, by omega, rfl⟩
/-! ### the value again -/
def NoClash (base s : ByteArray) : Prop := ∀ i a : Nat, 8 * i + 8 ≤ base.size → a + 8 ≤ s.size → SH.sum (nums (base.extract (8 * i) (8 * i + 8))) = SH.sum (nums (s.extract a (a + 8))) → base.extract (8 * i) (8 * i + 8) = s.extract a (a + 8)
def PcIn (n : Nat) (p : Pc) : Prop := (p.cp = true → 0 ≤ p.fr ∧ 1 ≤ p.ln ∧ p.fr + p.ln ≤ n ∧ p.lit = ⟨#[]⟩) ∧ (p.cp = false → p.fr = 0 ∧ p.ln = 0 ∧ 1 ≤ p.lit.size)
def MInv (base s : ByteArray) (a : Nat) (out : List Pc) : Prop := pap base out ⟨#[]⟩ = some (s.extract 0 a) ∧ (∀ p ∈ out, PcIn base.size p) ∧ pcAll out = a
theorem pap_snoc {base : ByteArray} {l : List Pc} {p : Pc} {x acc : ByteArray} (h : pap base l acc = some x) : pap base (l ++ [p]) acc = pap base [p] x := by
  rw [pap_append, h]
  rfl
theorem pap_one_copy {base : ByteArray} {f m : Nat} {l x : ByteArray} (h : f + m ≤ base.size) : pap base [⟨true, f, m, l⟩] x = some (x ++ base.extract f (f + m)) := by
  simp only [pap, if_true]
  rw [if_neg (by omega)]
  simp only [Int.toNat_natCast, show ((f : Int) + (m : Int)).toNat = f + m by omega]
theorem MInv.copy {base s : ByteArray} {a : Nat} {out : List Pc} (hn : NoClash base s) (h8 : a + 8 ≤ s.size) (hf : 0 ≤ pfind (sgOf (nums base)) s a) (h : MInv base s a out) : MInv base s (a + 8) (pcopy out (pfind (sgOf (nums base)) s a)) := by
  obtain ⟨i, hi, hil, hat⟩ := pfind_found hf
  obtain ⟨_, hib, hown⟩ := own_block hil
  have hsum : SH.sum (nums (base.extract (8 * i) (8 * i + 8))) = SH.sum (nums (s.extract a (a + 8))) := by
    have := hown.symm.trans hat
    exact congrArg Sg.ds this
  have hblk := hn i a hib h8 hsum
  have hjoin : s.extract 0 a ++ base.extract (8 * i) (8 * i + 8) = s.extract 0 (a + 8) := by rw [hblk]; exact ba_join s (Nat.zero_le _) (by omega)
  rw [hi]
  obtain ⟨h1, h2, h3⟩ := h
  have e8 : (8 * (i : Int)) = ((8 * i : Nat) : Int) := by omega
  have new : ∀ l : List Pc, l = out → MInv base s (a + 8) (l ++ [pcNew (i : Int)]) := by
    rintro l rfl
    refine ⟨?_, fun p hp => ?_, ?_⟩
    · rw [pap_snoc h1]
      unfold pcNew
      rw [e8, show (8 : Int) = ((8 : Nat) : Int) from rfl, pap_one_copy hib, hjoin]
    · rcases List.mem_append.1 hp with hp | hp
      · exact h2 p hp
      · obtain rfl := List.mem_singleton.1 hp
        refine ⟨fun _ => ?_, fun h => by cases h⟩
        show 0 ≤ 8 * (i : Int) ∧ 1 ≤ (8 : Int) ∧ 8 * (i : Int) + 8 ≤ base.size ∧ (⟨#[]⟩ : ByteArray) = ⟨#[]⟩
        exact ⟨by omega, by omega, by omega, rfl⟩
    · rw [pcAll_append, h3]
      simp only [pcAll, pcSize, pcNew, show (⟨#[]⟩ : ByteArray).size = 0 from rfl]
      omega
  rcases List.eq_nil_or_concat out with rfl | ⟨b, p, rfl⟩
  · exact new [] rfl
  · rw [List.concat_eq_append] at h1 h2 h3 new ⊢
    by_cases hc : p.cp = true ∧ p.fr + p.ln = 8 * (i : Int)
    · rw [pcopy_on hc]
      have hp := (h2 p (by simp)).1 hc.1
      obtain ⟨f, hfr⟩ : ∃ f : Nat, p.fr = f := ⟨p.fr.toNat, by omega⟩
      obtain ⟨m, hln⟩ : ∃ m : Nat, p.ln = m := ⟨p.ln.toNat, by omega⟩
      have hfm : f + m = 8 * i := by omega
      have hpe : p = ⟨true, f, m, ⟨#[]⟩⟩ := by
        obtain ⟨c, r, n, l⟩ := p
        simp only at hc hfr hln hp
        rw [hc.1, hfr, hln, hp.2.2.2]
      rw [hpe] at h1
      cases hb : pap base b ⟨#[]⟩ with
      | none => rw [pap_append, hb] at h1; cases h1
      | some x =>
        rw [pap_snoc hb, pap_one_copy (by omega)] at h1
        have hx : x ++ base.extract f (f + m) = s.extract 0 a := Option.some.inj h1
        refine ⟨?_, fun q hq => ?_, ?_⟩
        · rw [pap_snoc hb, hpe]
          dsimp only
          rw [show ((m : Int) + 8) = ((m + 8 : Nat) : Int) by omega, pap_one_copy (by omega), ← hjoin, ← hx, ba_append_assoc, ← hfm, ba_join base (by omega) (by omega), Nat.add_assoc]
        · rcases List.mem_append.1 hq with hq | hq
          · exact h2 q (by simp [hq])
          · obtain rfl := List.mem_singleton.1 hq
            refine ⟨fun _ => ⟨hp.1, ?_, ?_, hp.2.2.2⟩, fun h => ?_⟩
            · dsimp only; omega
            · dsimp only; omega
            · have := hc.1
              dsimp only at h
              rw [h] at this
              cases this
        · rw [pcAll_append] at h3 ⊢
          simp only [pcAll, pcSize] at h3 ⊢
          omega
    · rw [pcopy_new hc]
      exact new _ rfl
theorem MInv.text {base s : ByteArray} {a : Nat} {out : List Pc} (ha : a < s.size) (h : MInv base s a out) : MInv base s (a + 1) (ptext out (s.extract a (a + 1))) := by
  have hz : (s.extract a (a + 1)).size = 1 := by rw [extract_size _ _ _ (by omega)]; omega
  have hjoin : s.extract 0 a ++ s.extract a (a + 1) = s.extract 0 (a + 1) := ba_join s (Nat.zero_le _) (by omega)
  obtain ⟨h1, h2, h3⟩ := h
  generalize s.extract a (a + 1) = c at *
  have new : ∀ l : List Pc, l = out → MInv base s (a + 1) (l ++ [pcTxt c]) := by
    rintro l rfl
    refine ⟨?_, fun p hp => ?_, ?_⟩
    · rw [pap_snoc h1]
      simp only [pap, pcTxt, Bool.false_eq_true, if_false, hjoin]
    · rcases List.mem_append.1 hp with hp | hp
      · exact h2 p hp
      · obtain rfl := List.mem_singleton.1 hp
        exact ⟨fun h => by simp [pcTxt] at h, fun _ => ⟨rfl, rfl, by simp only [pcTxt]; omega⟩⟩
    · rw [pcAll_append, h3]
      simp only [pcAll, pcSize, pcTxt]
      omega
  rcases List.eq_nil_or_concat out with rfl | ⟨b, p, rfl⟩
  · exact new [] rfl
  · rw [List.concat_eq_append] at h1 h2 h3 new ⊢
    cases hcp : p.cp
    · rw [ptext_on hcp]
      have hp := (h2 p (by simp)).2 hcp
      cases hb : pap base b ⟨#[]⟩ with
      | none => rw [pap_append, hb] at h1; cases h1
      | some x =>
        rw [pap_snoc hb] at h1
        simp only [pap, hcp, Bool.false_eq_true, if_false, Option.some.injEq] at h1
        refine ⟨?_, fun q hq => ?_, ?_⟩
        · rw [pap_snoc hb]
          simp only [pap, hcp, Bool.false_eq_true, if_false]
          rw [← hjoin, ← h1, ba_append_assoc]
        · rcases List.mem_append.1 hq with hq | hq
          · exact h2 q (by simp [hq])
          · obtain rfl := List.mem_singleton.1 hq
            refine ⟨fun h => absurd (hcp.symm.trans h) (by decide), fun _ => ⟨hp.1, hp.2.1, ?_⟩⟩
            dsimp only
            rw [ByteArray.size_append]
            omega
        · rw [pcAll_append] at h3 ⊢
          simp only [pcAll, pcSize] at h3 ⊢
          rw [ByteArray.size_append]
          omega
    · rw [ptext_new hcp]
      exact new _ rfl
theorem makes {base s : ByteArray} (hn : NoClash base s) : MInv base s s.size (pmake (sgOf (nums base)) s) :=
  pmake_ind (P := MInv base s) (fun a out h8 hf h => h.copy hn h8 hf) (fun a out ha _ h => h.text ha) ⟨(by rw [ba_none]; rfl), (fun p (hp : p ∈ []) => absurd hp (by simp)), rfl⟩
/-- What is made makes the value, if it may be; and it may not only if there are too many. -/
theorem makes_value {base s : ByteArray} (hn : NoClash base s) (hb : base.size ≤ 200) (hs : s.size ≤ 200) : (pmay (pmake (sgOf (nums base)) s) = true → papply base (pmake (sgOf (nums base)) s) = some s) ∧ (pmay (pmake (sgOf (nums base)) s) = false → 60 < (pmake (sgOf (nums base)) s).length) := by
  obtain ⟨h1, h2, h3⟩ := makes hn
  generalize pmake (sgOf (nums base)) s = l at *
  have hsz : ∀ p ∈ l, pcSize p ≤ pcAll l := by
    have key : ∀ (l : List Pc), (∀ p ∈ l, 0 ≤ pcSize p) → 0 ≤ pcAll l ∧ ∀ p ∈ l, pcSize p ≤ pcAll l := by
      intro l
      induction l with
      | nil => intro _; exact ⟨by simp [pcAll], fun p hp => by cases hp⟩
      | cons q l ih =>
        intro h
        have a1 := ih (fun p hp => h p (List.mem_cons_of_mem _ hp))
        have a2 := h q (List.mem_cons_self ..)
        simp only [pcAll]
        refine ⟨by omega, fun p hp => ?_⟩
        rcases List.mem_cons.1 hp with rfl | hp
        · omega
        · have := a1.2 p hp; omega
    exact (key l (fun p hp => by
      have := h2 p hp
      unfold pcSize
      cases hc : p.cp
      · have := this.2 hc; omega
      · have := this.1 hc; omega)).2
  have hgood : ∀ p ∈ l, pcGood p = true := fun p hp => by
    have a1 := h2 p hp
    have a2 := hsz p hp
    unfold pcSize at a2
    unfold pcGood
    cases hc : p.cp
    · have a3 := a1.2 hc
      rw [if_neg (by decide), decide_eq_true_eq]
      omega
    · have a3 := a1.1 hc
      have e : p.lit.size = 0 := by rw [a3.2.2.2]; rfl
      rw [if_pos rfl, decide_eq_true_eq]
      omega
  constructor
  · intro hm
    unfold papply
    rw [if_pos hm, h1, ba_all]
  · intro hm
    rcases Nat.lt_or_ge 60 l.length with h | h
    · exact h
    · have : pmay l = true := pmay_iff.2 ⟨hgood, h, by omega⟩
      rw [this] at hm
      cases hm
end Go.Proofs.YtnencoainacpoaaDoor

end
section
/-
  What is made: how many bytes; no two texts side by side; of a value itself; of no blocks. No walk.
-/
namespace Go.Proofs.YtnencoainacpoaaDoor
open Go.RowKit WM
set_option linter.unusedVariables false
theorem pcAll_copy {out : List Pc} {i : Int} : pcAll (pcopy out i) = pcAll out + 8 := by
  have e : (⟨#[]⟩ : ByteArray).size = 0 := rfl
  rcases List.eq_nil_or_concat out with rfl | ⟨b, p, rfl⟩
  · rw [pcopy_nil]
    simp only [pcAll, pcSize, pcNew, e]
    omega
  · rw [List.concat_eq_append]
    by_cases hc : p.cp = true ∧ p.fr + p.ln = 8 * i
    · rw [pcopy_on hc, pcAll_append, pcAll_append]
      simp only [pcAll, pcSize]
      omega
    · rw [pcopy_new hc, pcAll_append]
      simp only [pcAll, pcSize, pcNew, e]
      omega
theorem pcAll_text {out : List Pc} {c : ByteArray} (hz : c.size = 1) : pcAll (ptext out c) = pcAll out + 1 := by
  rcases List.eq_nil_or_concat out with rfl | ⟨b, p, rfl⟩
  · rw [ptext_nil]
    simp only [pcAll, pcSize, pcTxt]
    omega
  · rw [List.concat_eq_append]
    cases hcp : p.cp
    · rw [ptext_on hcp, pcAll_append, pcAll_append]
      simp only [pcAll, pcSize]
      rw [ByteArray.size_append]
      omega
    · rw [ptext_new hcp, pcAll_append]
      simp only [pcAll, pcSize, pcTxt]
      omega
theorem make_total (sig : List Sg) (s : ByteArray) : pcAll (pmake sig s) = s.size := by
  refine pmake_ind (P := fun a out => pcAll out = a) (fun a out h8 hf h => ?_) (fun a out ha hf h => ?_) rfl
  · rw [pcAll_copy, h]; omega
  · rw [pcAll_text (by rw [extract_size _ _ _ (by omega)]; omega), h]; omega
theorem make_some {sig : List Sg} {s : ByteArray} (h : 1 ≤ s.size) : 1 ≤ (pmake sig s).length := by
  have h1 := make_total sig s
  cases hl : pmake sig s with
  | nil => rw [hl] at h1; simp only [pcAll] at h1; omega
  | cons p l => simp
theorem make_empty {sig : List Sg} {s : ByteArray} (h : s.size = 0) : pmake sig s = [] := by
  unfold pmake
  exact pmk_end (by omega)
/-! ### no two texts side by side -/
def NoTT (l : List Pc) : Prop := ∀ i, i + 1 < l.length → (l.getD i pc0).cp = true ∨ (l.getD (i + 1) pc0).cp = true
theorem getD_snoc_lt {l : List Pc} {p : Pc} {i : Nat} (h : i < l.length) : (l ++ [p]).getD i pc0 = l.getD i pc0 := by
  rw [List.getD_eq_getElem?_getD, List.getD_eq_getElem?_getD, List.getElem?_append_left h]
theorem getD_snoc_eq {l : List Pc} {p : Pc} {i : Nat} (h : i = l.length) : (l ++ [p]).getD i pc0 = p := by
  subst h
  rw [List.getD_eq_getElem?_getD, List.getElem?_append_right (Nat.le_refl _), Nat.sub_self]
  rfl
theorem NoTT.last {a : List Pc} {p q : Pc} (h : NoTT (a ++ [p])) (hq : q.cp = p.cp) : NoTT (a ++ [q]) := by
  intro i hi
  have hi' : i + 1 < (a ++ [p]).length := by simpa using hi
  have h1 := h i hi'
  simp only [List.length_append, List.length_cons, List.length_nil] at hi
  by_cases he : i + 1 < a.length
  · rw [getD_snoc_lt (by omega), getD_snoc_lt he] at h1 ⊢
    exact h1
  · rw [getD_snoc_lt (by omega), getD_snoc_eq (by omega)] at h1 ⊢
    rw [hq]
    exact h1
theorem NoTT.snoc {l : List Pc} {q : Pc} (h : NoTT l) (hq : q.cp = true ∨ ∀ i, i + 1 = l.length → (l.getD i pc0).cp = true) : NoTT (l ++ [q]) := by
  intro i hi
  simp only [List.length_append, List.length_cons, List.length_nil] at hi
  by_cases he : i + 1 < l.length
  · rw [getD_snoc_lt (by omega), getD_snoc_lt he]
    exact h i he
  · rw [getD_snoc_lt (by omega), getD_snoc_eq (by omega)]
    rcases hq with hq | hq
    · exact .inr hq
    · exact .inl (hq i (by omega))
theorem NoTT.nil : NoTT [] := fun i hi => by simp at hi
theorem make_noTT (sig : List Sg) (s : ByteArray) : NoTT (pmake sig s) := by
  refine pmake_ind (P := fun a out => NoTT out) (fun a out h8 hf h => ?_) (fun a out ha hf h => ?_) NoTT.nil
  · rcases List.eq_nil_or_concat out with rfl | ⟨b, p, rfl⟩
    · rw [pcopy_nil]
      exact NoTT.snoc NoTT.nil (.inl rfl)
    · rw [List.concat_eq_append] at h ⊢
      by_cases hc : p.cp = true ∧ p.fr + p.ln = 8 * pfind sig s a
      · rw [pcopy_on hc]
        exact h.last rfl
      · rw [pcopy_new hc]
        exact h.snoc (.inl rfl)
  · rcases List.eq_nil_or_concat out with rfl | ⟨b, p, rfl⟩
    · rw [ptext_nil]
      exact NoTT.snoc NoTT.nil (.inr fun i hi => by simp at hi)
    · rw [List.concat_eq_append] at h ⊢
      cases hcp : p.cp
      · rw [ptext_on hcp]
        exact h.last rfl
      · rw [ptext_new hcp]
        refine h.snoc (.inr fun i hi => ?_)
        rw [getD_snoc_eq (by simp at hi; omega)]
        exact hcp
/-! ### of no blocks, of a value itself -/
theorem pfind_nil (s : ByteArray) (a : Nat) : ¬ 0 ≤ pfind [] s a := by
  intro h
  obtain ⟨i, _, hi, _⟩ := pfind_found h
  simp at hi
theorem make_none {s : ByteArray} (h : 1 ≤ s.size) : pmake [] s = [pcTxt s] := by
  have h1 : (s.size = 0 ∧ pmake [] s = []) ∨ (1 ≤ s.size ∧ pmake [] s = [pcTxt (s.extract 0 s.size)]) := by
    refine pmake_ind (P := fun a out => (a = 0 ∧ out = []) ∨ (1 ≤ a ∧ out = [pcTxt (s.extract 0 a)])) (fun a out h8 hf _ => absurd hf (pfind_nil s a)) (fun a out ha hf h => ?_) (.inl ⟨rfl, rfl⟩)
    right
    refine ⟨by omega, ?_⟩
    rcases h with ⟨rfl, rfl⟩ | ⟨_, rfl⟩
    · rw [ptext_nil]
    · rw [show [pcTxt (s.extract 0 a)] = [] ++ [pcTxt (s.extract 0 a)] from rfl, ptext_on rfl]
      simp only [pcTxt, List.nil_append]
      rw [ba_join s (Nat.zero_le _) (by omega)]
  rcases h1 with ⟨h2, _⟩ | ⟨_, h2⟩
  · omega
  · rw [h2, ba_all]
theorem own_found {s : ByteArray} {a : Nat} (h24 : 24 ≤ s.size) (ha : a + 8 ≤ s.size) (h8 : a % 8 = 0) : 0 ≤ pfind (sgOf (nums s)) s a := by
  obtain ⟨k, rfl⟩ : ∃ k, a = 8 * k := ⟨a / 8, by omega⟩
  have hn : ¬ (nums s).length < 24 := by rw [nums_len]; omega
  have hk : k < (sgOf (nums s)).length := by rw [sgOf_len hn, nums_len]; omega
  obtain ⟨_, _, hat⟩ := own_block hk
  obtain ⟨j, _, hj, _⟩ := sgFrom_found hk hat
  unfold pfind
  rw [if_pos ha]
  unfold sgFind
  rw [if_pos (by rw [nums_len, extract_size _ _ _ ha]; omega), hj]
  omega
theorem make_own {s : ByteArray} (h24 : 24 ≤ s.size) (h8 : s.size % 8 = 0) : ∀ p ∈ pmake (sgOf (nums s)) s, p.cp = true := by
  have h1 : s.size % 8 = 0 ∧ ∀ p ∈ pmake (sgOf (nums s)) s, p.cp = true := by
    refine pmake_ind (P := fun a out => a % 8 = 0 ∧ ∀ p ∈ out, p.cp = true) (fun a out h9 hf h => ⟨by omega, ?_⟩) (fun a out ha hf h => absurd (own_found h24 (by omega) h.1) hf) ⟨rfl, fun p hp => by cases hp⟩
    intro p hp
    rcases List.eq_nil_or_concat out with rfl | ⟨b, q, rfl⟩
    · rw [pcopy_nil] at hp
      rw [List.mem_singleton.1 hp]
      rfl
    · rw [List.concat_eq_append] at hp h
      by_cases hc : q.cp = true ∧ q.fr + q.ln = 8 * pfind (sgOf (nums s)) s a
      · rw [pcopy_on hc] at hp
        rcases List.mem_append.1 hp with hp | hp
        · exact h.2 p (List.mem_append_left _ hp)
        · rw [List.mem_singleton.1 hp]; exact hc.1
      · rw [pcopy_new hc] at hp
        rcases List.mem_append.1 hp with hp | hp
        · exact h.2 p hp
        · rw [List.mem_singleton.1 hp]; rfl
  exact h1.2
end Go.Proofs.YtnencoainacpoaaDoor

end
