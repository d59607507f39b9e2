import Derived.Test.YtkjimhlpbgeagaaGreatDoorF0
import Derived.Test.YtkjimhlpbgeagaaGreatDoorF7
import Derived.Test.YtkjimhlpbgeagaaGreatDoorF10
import Derived.Test.YtkjimhlpbgeagaaGreatDoorF2
import Derived.Test.YtkjimhlpbgeagaaGreatDoorF8
/-
  What the functions that a law of this layer reaches answer, part 11. Nothing that was there is written.
-/
namespace Go.Proofs.YtkjimhlpbgeagaaGreatDoor
set_option linter.unusedVariables false
set_option linter.unusedSimpArgs false
section
section
open Go.RowKit WM
theorem lessL_goes : ∀ {xs ys zs : List Int}, lessL xs ys = true → lessL ys zs = true → lessL xs zs = true
 | _, [], _, h, _ => by simp [lessL] at h
 | _, _ :: _, [], _, h => by simp [lessL] at h
 | [], _ :: _, _ :: _, _, _ => rfl
 | x :: xs, y :: ys, z :: zs, h1, h2 => by
  rw [lessL] at h1 h2 ⊢
  simp only [Bool.or_eq_true, Bool.and_eq_true, decide_eq_true_eq, beq_iff_eq] at h1 h2 ⊢
  rcases h1 with h1 | ⟨h1, h1'⟩ <;> rcases h2 with h2 | ⟨h2, h2'⟩
  ·exact .inl (by omega)
  ·exact .inl (by omega)
  ·exact .inl (by omega)
  ·exact .inr ⟨by omega, lessL_goes h1' h2'⟩
theorem lessL_not {xs ys : List Int} (h : lessL xs ys = true) : lessL ys xs = false := by
 cases h1 : lessL ys xs
 ·rfl
 ·have := lessL_goes h h1
  rw [lessL_self] at this
  cases this
end
section
open Go.RowKit WM
def omerge : Option Cel → Option Cel → Option Cel
 | none, o => o
 | some c, none => some c
 | some c, some d => some (cjoin c d)
def sl (m : Int × Int) (c : Cel) : Bool := stLess m.1 m.2 c.n c.r
def ofilt (m : Int × Int) (o : Option Cel) : Option Cel := o.filter (sl m)
theorem omerge_none (o : Option Cel) : omerge o none = o := by cases o <;> rfl
theorem ofilt_some {m : Int × Int} {c : Cel} (h : sl m c = true) : ofilt m (some c) = some c := by simp [ofilt, h]
theorem ofilt_no {m : Int × Int} {c : Cel} (h : sl m c = false) : ofilt m (some c) = none := by simp [ofilt, h]
theorem ofilt_none (m : Int × Int) : ofilt m none = none := rfl
def sle (m' m : Int × Int) : Prop := stLess m.1 m.2 m'.1 m'.2 = false
theorem sle_mx1 (a b : Int × Int) : sle a (mx a b) := by
 unfold sle
 rcases mx_is a b with ⟨h, e⟩ | ⟨h, e⟩
 ·rw [e, st_no]; rw [stLess_iff] at h; omega
 ·rw [e, st_no]; omega
def toF (φ : Nat → Option Cel) : Nat → Nat → List Fld
 | _, 0 => []
 | k, n + 1 => (match φ k with | some c => [⟨(k : Int), c⟩] | none => []) ++ toF φ (k + 1) n
theorem toF_last (φ : Nat → Option Cel) : ∀ (n k : Nat), toF φ k (n + 1) = toF φ k n ++ (match φ (k + n) with | some c => [⟨((k + n : Nat) : Int), c⟩] | none => [])
 | 0, k => by simp [toF]
 | n + 1, k => by
  rw [toF, toF_last φ n (k + 1)]
  conv => rhs; rw [toF]
  rw [List.append_assoc, show k + 1 + n = k + (n + 1) by omega]
theorem keep_rise (n r : Int) (f : Int → Option Cel) : ∀ k, keep n r (riseL f k) = toF (fun j => ofilt (n, r) (f j)) 0 k
 | 0 => rfl
 | k + 1 => by
  rw [toF_last, Nat.zero_add, ← keep_rise n r f k, riseL]
  cases hf : f k with
  | none => simp [ofilt_none]
  | some c =>
   rw [keep_snoc]
   dsimp only
   cases hs : stLess n r c.n c.r
   ·rw [ofilt_no (m := (n, r)) hs]; rfl
   ·rw [ofilt_some (m := (n, r)) hs]; rfl
theorem rfind_append (fs gs : List Fld) (no : Int) : rfind (fs ++ gs) no = (rfind fs no).or (rfind gs no) := by
 unfold rfind
 rw [List.find?_append]
 cases fs.find? fun f => decide (f.no = no) <;> rfl
theorem rfind_toF (φ : Nat → Option Cel) (no : Int) : ∀ (n k : Nat), rfind (toF φ k n) no = if (k : Int) ≤ no ∧ no < k + n then φ no.toNat else none
 | 0, k => by rw [if_neg (by omega)]; rfl
 | n + 1, k => by
  rw [toF, rfind_append, rfind_toF φ no n (k + 1)]
  by_cases hk : no = k
  ·subst hk
   rw [if_neg (by omega), if_pos (by omega), Int.toNat_natCast]
   cases φ k with
   | none => rfl
   | some c => simp [rfind_cons]
  ·have h1 : rfind (match φ k with | some c => [⟨(k : Int), c⟩] | none => []) no = none := by
    cases φ k with
    | none => rfl
    | some c => rw [rfind_cons, if_neg (by dsimp only; omega)]; rfl
   rw [h1, Option.none_or]
   by_cases h2 : (k : Int) ≤ no ∧ no < k + (n + 1 : Nat)
   ·rw [if_pos h2, if_pos (by omega)]
   ·rw [if_neg h2, if_neg (by omega)]
theorem okFrom_toF {n r : Int} {φ : Nat → Option Cel} (h : ∀ k c, φ k = some c → cmay c = true ∧ stLess n r c.n c.r = true) : ∀ (j k : Nat) (m : Int), m ≤ k → k + j ≤ 8 → okFrom n r m (toF φ k j) = true
 | 0, _, _, _, _ => rfl
 | j + 1, k, m, hm, hk => by
  rw [toF]
  cases hf : φ k with
  | none => exact okFrom_toF h j (k + 1) m (by omega) (by omega)
  | some c =>
   obtain ⟨h1, h2⟩ := h k c hf
   have h3 := okFrom_toF h j (k + 1) ((k : Int) + 1) (by omega) (by omega)
   simp only [List.singleton_append, okFrom, h1, h2, h3, Bool.and_true, Bool.and_eq_true, decide_eq_true_eq]
   omega
theorem rfind_low {n r : Int} : ∀ {fs : List Fld} {m no : Int}, okFrom n r m fs = true → no < m → rfind fs no = none
 | [], _, _, _, _ => rfl
 | f :: fs, m, no, h, hlt => by
  simp only [okFrom, Bool.and_eq_true, decide_eq_true_eq] at h
  rw [rfind_cons, if_neg (by omega)]
  exact rfind_low h.2 (by omega)
theorem gfold {n r : Int} : ∀ {fs : List Fld} {m : Int} (f : Int → Option Cel) (j : Int), okFrom n r m fs = true → (fs.foldl gstep f) j = match rfind fs j with | some c => some (gone (f j) c) | none => f j
 | [], _, _, _, _ => rfl
 | x :: fs, m, f, j, h => by
  simp only [okFrom, Bool.and_eq_true, decide_eq_true_eq] at h
  rw [List.foldl_cons, gfold (gstep f x) j h.2, rfind_cons]
  by_cases hj : x.no = j
  ·subst hj
   rw [rfind_low h.2 (by omega), if_pos rfl]
   simp [gstep]
  ·rw [if_neg hj]
   have : gstep f x j = f j := by unfold gstep; rw [if_neg (fun e => hj e.symm)]
   rw [this]
theorem gath_two {n r n' r' : Int} {f1 f2 : List Fld} {m m' : Int} (h1 : okFrom n r m f1 = true) (h2 : okFrom n' r' m' f2 = true) (j : Int) : gath (f1 ++ f2) j = omerge (rfind f1 j) (rfind f2 j) := by
 unfold gath
 rw [List.foldl_append, gfold _ j h2, gfold _ j h1]
 cases rfind f1 j <;> cases rfind f2 j <;> rfl
def Rc.at (R : Rc) (k : Nat) : Option Cel := rfind R.fs (k : Int)
def Rc.d (R : Rc) : Int × Int := (R.n, R.r)
def jn (a b : Rc) : Rc := ⟨a.z, (mx a.d b.d).1, (mx a.d b.d).2, toF (fun k => ofilt (mx a.d b.d) (omerge (a.at k) (b.at k))) 0 8⟩
theorem jn_z (a b : Rc) : (jn a b).z = a.z := rfl
theorem join_eq {a b : Rc} (h1 : a.may = true) (h2 : b.may = true) (hz : a.z = b.z) : a.join b = some (jn a b) := by
 unfold Rc.join rjoin
 have hq : (a.z == b.z) = true := by rw [beq_iff_eq]; exact hz
 have m1 : rmay a.n a.r a.fs = true := h1
 have m2 : rmay b.n b.r b.fs = true := h2
 rw [hq, m1, m2, if_pos (by rfl), keep_rise]
 have e : (fun j : Nat => ofilt ((jdead a.n a.r b.n b.r).1, (jdead a.n a.r b.n b.r).2) (gath (a.fs ++ b.fs) (j : Int))) = (fun k => ofilt (mx a.d b.d) (omerge (a.at k) (b.at k))) := by
  funext j
  rw [gath_two (rmay_okFrom m1) (rmay_okFrom m2)]
  rfl
 rw [e]
 rfl
theorem at_jn (a b : Rc) {k : Nat} (hk : k < 8) : (jn a b).at k = ofilt (mx a.d b.d) (omerge (a.at k) (b.at k)) := by
 have e : (jn a b).at k = rfind (toF (fun k => ofilt (mx a.d b.d) (omerge (a.at k) (b.at k))) 0 8) (k : Int) := rfl
 rw [e, rfind_toF, if_pos (by omega), Int.toNat_natCast]
theorem rfind_mem {fs : List Fld} {no : Int} {c : Cel} (h : rfind fs no = some c) : ∃ f ∈ fs, f.no = no ∧ f.c = c := by
 unfold rfind at h
 obtain ⟨f, hf, rfl⟩ := Option.map_eq_some_iff.1 h
 exact ⟨f, List.mem_of_find?_eq_some hf, by simpa using List.find?_some hf, rfl⟩
theorem at_may {a : Rc} (h : a.may = true) {k : Nat} {c : Cel} (hc : a.at k = some c) : cmay c = true ∧ sl a.d c = true := by
 obtain ⟨f, hf, _, rfl⟩ := rfind_mem hc
 exact ⟨(rmay_all h f hf).2.2.1, (rmay_all h f hf).2.2.2⟩
theorem cmay_join {o p : Option Cel} {c : Cel} (ho : ∀ d, o = some d → cmay d = true) (hp : ∀ d, p = some d → cmay d = true) (h : omerge o p = some c) : cmay c = true := by
 cases o with
 | none => exact hp c h
 | some x =>
  cases p with
  | none => exact ho c h
  | some y =>
   simp only [omerge, Option.some.injEq] at h
   subst h
   unfold cjoin
   split
   ·exact hp y rfl
   ·exact ho x rfl
theorem may_dead {a : Rc} (h : a.may = true) : may a.n a.r = true := by
 unfold Rc.may rmay at h
 simp only [Bool.and_eq_true] at h
 exact h.1.1
theorem may_some {a : Rc} (h : a.may = true) (hd : a.d = (0, 0)) : ∃ k c, k < 8 ∧ a.at k = some c := by
 have hne : a.fs ≠ [] := by
  intro e
  unfold Rc.may rmay at h
  simp only [Rc.d, Prod.mk.injEq] at hd
  rw [e, hd.1, hd.2] at h
  simp at h
 obtain ⟨f, fs, e⟩ := List.exists_cons_of_ne_nil hne
 have hf := rmay_all h f (by rw [e]; exact List.mem_cons_self)
 refine ⟨f.no.toNat, f.c, by omega, ?_⟩
 unfold Rc.at
 rw [Int.toNat_of_nonneg hf.1, e, rfind_cons, if_pos rfl]
theorem jn_may {a b : Rc} (h1 : a.may = true) (h2 : b.may = true) : (jn a b).may = true := by
 have hcell : ∀ (k : Nat) (c : Cel), ofilt (mx a.d b.d) (omerge (a.at k) (b.at k)) = some c → cmay c = true ∧ stLess (mx a.d b.d).1 (mx a.d b.d).2 c.n c.r = true := fun k c h => by
  obtain ⟨h3, h4⟩ := Option.filter_eq_some_iff.1 h
  exact ⟨cmay_join (fun d hd => (at_may h1 hd).1) (fun d hd => (at_may h2 hd).1) h3, h4⟩
 have hok := okFrom_toF (n := (mx a.d b.d).1) (r := (mx a.d b.d).2) hcell 8 0 0 (by omega) (by omega)
 have hm : may (mx a.d b.d).1 (mx a.d b.d).2 = true := by
  rcases mx_is a.d b.d with ⟨_, e⟩ | ⟨_, e⟩ <;> rw [e]
  ·exact may_dead h2
  ·exact may_dead h1
 show rmay (mx a.d b.d).1 (mx a.d b.d).2 (jn a b).fs = true
 unfold rmay
 rw [hm, Bool.true_and]
 have hok' : okFrom (mx a.d b.d).1 (mx a.d b.d).2 0 (jn a b).fs = true := hok
 rw [hok', Bool.and_true, Bool.not_eq_true', Bool.and_eq_false_iff, Bool.and_eq_false_iff]
 by_cases h0 : (mx a.d b.d).1 = 0 ∧ (mx a.d b.d).2 = 0
 ·left; left
  rw [decide_eq_false_iff_not]
  intro hl
  have hmx : mx a.d b.d = (0, 0) := Prod.ext h0.1 h0.2
  have ha : a.d = (0, 0) := by
   have := sle_mx1 a.d b.d
   have h5 := may_iff.1 (may_dead h1)
   unfold sle at this
   rw [st_no, hmx] at this
   unfold Rc.d at this ⊢
   dsimp only at this
   rw [Prod.mk.injEq]
   omega
  obtain ⟨k, c, hk, hc⟩ := may_some h1 ha
  have hn := at_jn a b hk
  have hnil : (jn a b).fs = [] := List.eq_nil_of_length_eq_zero hl
  have h6 : (jn a b).at k = none := by unfold Rc.at; rw [hnil]; rfl
  rw [h6, hmx, hc] at hn
  have hpos : ∀ d, cmay d = true → sl (0, 0) d = true := fun d hd => by
   have := cmay_iff.1 hd
   unfold sl
   rw [stLess_iff]
   left
   dsimp only
   omega
  cases hb : b.at k with
  | none =>
   rw [hb, omerge_none, ofilt_some (hpos c (at_may h1 hc).1)] at hn
   cases hn
  | some d =>
   rw [hb] at hn
   have hj : cmay (cjoin c d) = true := cmay_join (o := some c) (p := some d) (fun x hx => by cases hx; exact (at_may h1 hc).1) (fun x hx => by cases hx; exact (at_may h2 hb).1) rfl
   rw [show omerge (some c) (some d) = some (cjoin c d) from rfl, ofilt_some (hpos _ hj)] at hn
   cases hn
 ·by_cases h3 : (mx a.d b.d).1 = 0
  ·right
   rw [decide_eq_false_iff_not]
   exact fun h4 => h0 ⟨h3, h4⟩
  ·left; right
   rw [decide_eq_false_iff_not]
   exact h3
end
section
open Go.RowKit WM
theorem il_irr : ∀ x : List Int, lessL x x = false
 | [] => rfl
 | a :: x => by rw [lessL, il_irr x]; simp
theorem il_trans : ∀ {x y z : List Int}, lessL x y = true → lessL y z = true → lessL x z = true
 | x, [], z, h, _ => by cases x <;> simp [lessL] at h
 | x, y :: ys, [], _, h => by simp [lessL] at h
 | [], y :: ys, z :: zs, _, _ => rfl
 | x :: xs, y :: ys, z :: zs, h1, h2 => by
  rw [lessL] at h1 h2 ⊢
  simp only [Bool.or_eq_true, Bool.and_eq_true, decide_eq_true_eq, beq_iff_eq] at h1 h2 ⊢
  rcases h1 with h1 | ⟨rfl, h1⟩
  ·rcases h2 with h2 | ⟨rfl, h2⟩
   ·exact .inl (by omega)
   ·exact .inl h1
  ·rcases h2 with h2 | ⟨rfl, h2⟩
   ·exact .inl h2
   ·exact .inr ⟨rfl, il_trans h1 h2⟩
theorem il_tri : ∀ x y : List Int, lessL x y = true ∨ x = y ∨ lessL y x = true
 | [], [] => .inr (.inl rfl)
 | [], _ :: _ => .inl rfl
 | _ :: _, [] => .inr (.inr rfl)
 | a :: x, b :: y => by
  rw [lessL, lessL]
  simp only [Bool.or_eq_true, Bool.and_eq_true, decide_eq_true_eq, beq_iff_eq, List.cons.injEq]
  have := il_tri x y
  rcases Int.lt_trichotomy a b with h | rfl | h
  ·exact .inl (.inl h)
  ·rcases this with h | rfl | h
   ·exact .inl (.inr ⟨rfl, h⟩)
   ·exact .inr (.inl ⟨rfl, rfl⟩)
   ·exact .inr (.inr (.inr ⟨rfl, h⟩))
  ·exact .inr (.inr (.inl h))
theorem il_ne {x y : List Int} (h : lessL x y = true) : x ≠ y := by rintro rfl; rw [il_irr] at h; cases h
def bat (bs : List Rc) (z : List Int) : Option Rc := bs.find? fun r => decide (r.z = z)
def AllMay (bs : List Rc) : Prop := ∀ r ∈ bs, r.may = true
def Rise (bs : List Rc) : Prop := bs.Pairwise fun a b => lessL a.z b.z = true
def pzok : Option (List Int) → List Int → Bool
 | none, _ => true
 | some z, y => lessL z y
def okB (p : Option (List Int)) : List Rc → Bool
 | [] => true
 | r :: rs => r.may && pzok p r.z && okB (some r.z) rs
def bmay (bs : List Rc) : Bool := decide (bs.length ≤ 10) && okB none bs
theorem okB_some {z : List Int} : ∀ {bs : List Rc}, okB (some z) bs = true ↔ (AllMay bs ∧ Rise bs ∧ ∀ r ∈ bs, lessL z r.z = true)
 | [] => by simp [okB, AllMay, Rise]
 | r :: rs => by
  rw [okB, pzok]
  simp only [Bool.and_eq_true, okB_some (bs := rs)]
  constructor
  ·rintro ⟨⟨h1, h2⟩, h3, h4, h5⟩
   refine ⟨fun x hx => ?_, List.pairwise_cons.2 ⟨h5, h4⟩, fun x hx => ?_⟩
   ·rcases List.mem_cons.1 hx with rfl | hx
    ·exact h1
    ·exact h3 x hx
   ·rcases List.mem_cons.1 hx with rfl | hx
    ·exact h2
    ·exact il_trans h2 (h5 x hx)
  ·rintro ⟨h1, h2, h3⟩
   obtain ⟨h4, h5⟩ := List.pairwise_cons.1 h2
   exact ⟨⟨h1 r List.mem_cons_self, h3 r List.mem_cons_self⟩, fun x hx => h1 x (List.mem_cons_of_mem _ hx), h5, h4⟩
theorem okB_none {bs : List Rc} : okB none bs = true ↔ (AllMay bs ∧ Rise bs) := by
 cases bs with
 | nil => simp [okB, AllMay, Rise]
 | cons r rs =>
  rw [okB, pzok]
  simp only [Bool.and_eq_true, okB_some, and_true]
  constructor
  ·rintro ⟨h1, h3, h4, h5⟩
   refine ⟨fun x hx => ?_, List.pairwise_cons.2 ⟨h5, h4⟩⟩
   rcases List.mem_cons.1 hx with rfl | hx
   ·exact h1
   ·exact h3 x hx
  ·rintro ⟨h1, h2⟩
   obtain ⟨h4, h5⟩ := List.pairwise_cons.1 h2
   exact ⟨h1 r List.mem_cons_self, fun x hx => h1 x (List.mem_cons_of_mem _ hx), h5, h4⟩
theorem bmay_iff {bs : List Rc} : bmay bs = true ↔ (bs.length ≤ 10 ∧ AllMay bs ∧ Rise bs) := by
 unfold bmay
 simp only [Bool.and_eq_true, decide_eq_true_eq, okB_none]
theorem bat_nil (z : List Int) : bat [] z = none := rfl
theorem bat_cons (r : Rc) (rs : List Rc) (z : List Int) : bat (r :: rs) z = if r.z = z then some r else bat rs z := by
 unfold bat
 rw [List.find?_cons]
 by_cases h : r.z = z <;> simp [h]
theorem bat_some {bs : List Rc} {z : List Int} {r : Rc} (h : bat bs z = some r) : r ∈ bs ∧ r.z = z := ⟨List.mem_of_find?_eq_some h, by simpa using List.find?_some h⟩
theorem bat_none {bs : List Rc} {z : List Int} : bat bs z = none ↔ ∀ r ∈ bs, r.z ≠ z := by
 unfold bat
 rw [List.find?_eq_none]
 simp
theorem bat_low {bs : List Rc} {z : List Int} (h : ∀ r ∈ bs, lessL z r.z = true) : bat bs z = none := bat_none.2 fun r hr e => il_ne (h r hr) e.symm
theorem bk_ext : ∀ {a b : List Rc}, Rise a → Rise b → (∀ z, bat a z = bat b z) → a = b
 | [], [], _, _, _ => rfl
 | [], y :: ys, _, _, h => by have := h y.z; rw [bat_nil, bat_cons, if_pos rfl] at this; cases this
 | x :: xs, [], _, _, h => by have := h x.z; rw [bat_nil, bat_cons, if_pos rfl] at this; cases this
 | x :: xs, y :: ys, ha, hb, h => by
  obtain ⟨a1, a2⟩ := List.pairwise_cons.1 ha
  obtain ⟨b1, b2⟩ := List.pairwise_cons.1 hb
  have hz : x.z = y.z := by
   rcases il_tri x.z y.z with hl | he | hl
   ·have := h x.z
    rw [bat_cons, if_pos rfl, bat_low (bs := y :: ys) (fun r hr => ?_)] at this
    ·cases this
    ·rcases List.mem_cons.1 hr with rfl | hr
     ·exact hl
     ·exact il_trans hl (b1 r hr)
   ·exact he
   ·have := h y.z
    rw [bat_cons (r := y), if_pos rfl, bat_low (bs := x :: xs) (fun r hr => ?_)] at this
    ·cases this
    ·rcases List.mem_cons.1 hr with rfl | hr
     ·exact hl
     ·exact il_trans hl (a1 r hr)
  have h0 := h x.z
  rw [bat_cons, if_pos rfl, bat_cons, if_pos hz.symm] at h0
  cases h0
  rw [bk_ext a2 b2 fun z => ?_]
  by_cases hzz : x.z = z
  ·subst hzz
   rw [bat_low a1, bat_low b1]
  ·have := h z
   rwa [bat_cons, if_neg hzz, bat_cons, if_neg hzz] at this
def bone (o : Option Rc) (r : Rc) : Rc := match o with | none => r | some x => jn x r
def bput : List Rc → Rc → List Rc
 | [], r => [r]
 | x :: xs, r => if x.z = r.z then jn x r :: xs else if lessL r.z x.z = true then r :: x :: xs else x :: bput xs r
theorem bput_z : ∀ {bs : List Rc} {r y : Rc}, y ∈ bput bs r → y.z = r.z ∨ ∃ x ∈ bs, x.z = y.z
 | [], r, y, h => by rw [bput, List.mem_singleton] at h; exact .inl (by rw [h])
 | x :: xs, r, y, h => by
  rw [bput] at h
  split at h
  ·rename_i hz
   rcases List.mem_cons.1 h with rfl | h
   ·exact .inl (by rw [jn_z, hz])
   ·exact .inr ⟨y, List.mem_cons_of_mem _ h, rfl⟩
  ·split at h
   ·rcases List.mem_cons.1 h with rfl | h
    ·exact .inl rfl
    ·exact .inr ⟨y, h, rfl⟩
   ·rcases List.mem_cons.1 h with rfl | h
    ·exact .inr ⟨y, List.mem_cons_self, rfl⟩
    ·rcases bput_z h with h | ⟨x', hx', e⟩
     ·exact .inl h
     ·exact .inr ⟨x', List.mem_cons_of_mem _ hx', e⟩
theorem bput_rise : ∀ {bs : List Rc} (r : Rc), Rise bs → Rise (bput bs r)
 | [], r, _ => List.pairwise_singleton _ _
 | x :: xs, r, h => by
  obtain ⟨h1, h2⟩ := List.pairwise_cons.1 h
  rw [bput]
  split
  ·exact List.pairwise_cons.2 ⟨fun y hy => by rw [jn_z]; exact h1 y hy, h2⟩
  ·rename_i hz
   split
   ·rename_i hl
    refine List.pairwise_cons.2 ⟨fun y hy => ?_, h⟩
    rcases List.mem_cons.1 hy with rfl | hy
    ·exact hl
    ·exact il_trans hl (h1 y hy)
   ·rename_i hl
    refine List.pairwise_cons.2 ⟨fun y hy => ?_, bput_rise r h2⟩
    rcases bput_z hy with e | ⟨x', hx', e⟩
    ·rw [e]
     rcases il_tri x.z r.z with h3 | h3 | h3
     ·exact h3
     ·exact absurd h3 hz
     ·exact absurd h3 hl
    ·rw [← e]; exact h1 x' hx'
theorem bat_bput : ∀ {bs : List Rc} (r : Rc) (z : List Int), Rise bs → bat (bput bs r) z = if r.z = z then some (bone (bat bs z) r) else bat bs z
 | [], r, z, _ => by rw [bput, bat_cons]; rfl
 | x :: xs, r, z, h => by
  obtain ⟨h1, h2⟩ := List.pairwise_cons.1 h
  rw [bput]
  split
  ·rename_i hz
   rw [bat_cons, bat_cons, jn_z]
   by_cases hzz : r.z = z
   ·rw [if_pos (hz.trans hzz), if_pos hzz, if_pos (hz.trans hzz)]; rfl
   ·rw [if_neg (by rw [hz]; exact hzz), if_neg hzz, if_neg (by rw [hz]; exact hzz)]
  ·rename_i hz
   split
   ·rename_i hl
    rw [bat_cons]
    by_cases hzz : r.z = z
    ·subst hzz
     rw [if_pos rfl, if_pos rfl, bat_low fun y hy => ?_]
     ·rfl
     ·rcases List.mem_cons.1 hy with rfl | hy
      ·exact hl
      ·exact il_trans hl (h1 y hy)
    ·rw [if_neg hzz, if_neg hzz]
   ·rw [bat_cons, bat_bput r z h2, bat_cons]
    by_cases hzz : r.z = z
    ·subst hzz
     rw [if_neg hz, if_pos rfl, if_pos rfl, if_neg hz]
    ·rw [if_neg hzz, if_neg hzz]
theorem fold_rise : ∀ {rs m : List Rc}, Rise m → Rise (rs.foldl bput m)
 | [], _, h => h
 | r :: rs, m, h => fold_rise (rs := rs) (bput_rise r h)
def bjoin (a b : List Rc) : List Rc := (a ++ b).foldl bput []
theorem rise_nil : Rise [] := List.Pairwise.nil
theorem bjoin_rise (a b : List Rc) : Rise (bjoin a b) := fold_rise rise_nil
def bjE (a b : List Rc) : Int × List Rc := if (bmay a && bmay b) = true then (if 10 < (bjoin a b).length then (4, []) else (0, bjoin a b)) else (1, [])
theorem bjE_no {a b : List Rc} (h : (bmay a && bmay b) = false) : bjE a b = (1, []) := by unfold bjE; rw [h]; rfl
theorem bjE_large {a b : List Rc} (h1 : bmay a = true) (h2 : bmay b = true) (h : 10 < (bjoin a b).length) : bjE a b = (4, []) := by unfold bjE; rw [h1, h2, if_pos (by rfl), if_pos h]
theorem bjE_yes {a b : List Rc} (h1 : bmay a = true) (h2 : bmay b = true) (h : (bjoin a b).length ≤ 10) : bjE a b = (0, bjoin a b) := by unfold bjE; rw [h1, h2, if_pos (by rfl), if_neg (by omega)]
def mput (m : List Rc) (r : Rc) : List Rc := match bat m r.z with | none => m ++ [r] | some _ => m.map fun x => if x.z = r.z then jn x r else x
def Keys1 (m : List Rc) : Prop := (m.map (·.z)).Nodup
theorem bat_append (m : List Rc) (r : Rc) (z : List Int) : bat (m ++ [r]) z = (bat m z).or (if r.z = z then some r else none) := by
 unfold bat
 rw [List.find?_append]
 by_cases h : r.z = z <;> simp [h]
theorem bat_map_jn (r : Rc) (z : List Int) : ∀ m : List Rc, bat (m.map fun x => if x.z = r.z then jn x r else x) z = if r.z = z then (bat m z).map (fun x => jn x r) else bat m z
 | [] => by rw [List.map_nil, bat_nil]; simp
 | x :: m => by
  rw [List.map_cons, bat_cons, bat_map_jn r z m, bat_cons]
  by_cases hx : x.z = r.z
  ·rw [if_pos hx, jn_z]
   by_cases hz : r.z = z
   ·rw [if_pos (hx.trans hz), if_pos hz, if_pos (hx.trans hz)]; rfl
   ·rw [if_neg (by rw [hx]; exact hz), if_neg hz, if_neg hz, if_neg (by rw [hx]; exact hz)]
  ·rw [if_neg hx]
   by_cases hz : r.z = z
   ·rw [if_pos hz, if_neg (by rw [← hz]; exact hx), if_pos hz, if_neg (by rw [← hz]; exact hx)]
   ·rw [if_neg hz, if_neg hz]
theorem bat_mput (m : List Rc) (r : Rc) (z : List Int) : bat (mput m r) z = if r.z = z then some (bone (bat m z) r) else bat m z := by
 unfold mput
 cases e : bat m r.z with
 | none =>
  dsimp only
  rw [bat_append]
  by_cases hz : r.z = z
  ·subst hz; rw [if_pos rfl, if_pos rfl, e]; rfl
  ·rw [if_neg hz, if_neg hz, Option.or_none]
 | some x =>
  dsimp only
  rw [bat_map_jn]
  by_cases hz : r.z = z
  ·subst hz; rw [if_pos rfl, if_pos rfl, e]; rfl
  ·rw [if_neg hz, if_neg hz]
theorem map_jn_z (r : Rc) (m : List Rc) : (m.map fun x => if x.z = r.z then jn x r else x).map (·.z) = m.map (·.z) := by
 rw [List.map_map]
 apply List.map_congr_left
 intro x _
 simp only [Function.comp]
 split
 ·rfl
 ·rfl
theorem mput_keys {m : List Rc} {r : Rc} (h : Keys1 m) : Keys1 (mput m r) := by
 unfold mput
 cases e : bat m r.z with
 | none =>
  dsimp only
  unfold Keys1
  rw [List.map_append, List.nodup_append]
  refine ⟨h, by simp, ?_⟩
  intro a ha b hb e2
  simp only [List.map_cons, List.map_nil, List.mem_singleton] at hb
  obtain ⟨x, hx, rfl⟩ := List.mem_map.1 ha
  exact bat_none.1 e x hx (e2.trans hb)
 | some x =>
  dsimp only
  unfold Keys1
  rw [map_jn_z]
  exact h
theorem mfold_bat : ∀ (rs m m' : List Rc), Rise m' → (∀ z, bat m z = bat m' z) → ∀ z, bat (rs.foldl mput m) z = bat (rs.foldl bput m') z
 | [], _, _, _, h, z => h z
 | r :: rs, m, m', hr, h, z => mfold_bat rs _ _ (bput_rise r hr) (fun z => by rw [bat_mput, bat_bput r z hr, h]) z
theorem mfold_keys : ∀ (rs m : List Rc), Keys1 m → Keys1 (rs.foldl mput m)
 | [], _, h => h
 | r :: rs, m, h => mfold_keys rs _ (mput_keys h)
theorem bat_perm {m m' : List Rc} (hp : m.Perm m') (h : Keys1 m) (z : List Int) : bat m z = bat m' z := by
 have key : ∀ {l : List Rc}, Keys1 l → ∀ {r : Rc}, r ∈ l → bat l r.z = some r := fun {l} hl => by
  induction l with
  | nil => intro r hr; cases hr
  | cons x xs ih =>
   intro r hr
   unfold Keys1 at hl
   rw [List.map_cons, List.nodup_cons] at hl
   rw [bat_cons]
   rcases List.mem_cons.1 hr with rfl | hr
   ·rw [if_pos rfl]
   ·rw [if_neg (fun e => hl.1 (by rw [e]; exact List.mem_map_of_mem hr)), ih hl.2 hr]
 have h' : Keys1 m' := (hp.map _).nodup_iff.1 h
 cases e : bat m z with
 | none =>
  refine (bat_none.2 fun r hr => ?_).symm
  exact bat_none.1 e r (hp.mem_iff.2 hr)
 | some r =>
  obtain ⟨h1, rfl⟩ := bat_some e
  exact (key h' (hp.mem_iff.1 h1)).symm
theorem sorted_join {a b ys : List Rc} (hp : ys.Perm ((a ++ b).foldl mput [])) (hr : Rise ys) : ys = bjoin a b := by
 have hk : Keys1 ((a ++ b).foldl mput []) := mfold_keys _ _ List.nodup_nil
 refine bk_ext hr (bjoin_rise a b) fun z => ?_
 rw [← bat_perm hp.symm hk z]
 exact mfold_bat _ _ _ rise_nil (fun _ => rfl) z
end
section
open Go.RowKit WM
theorem ins_perm : ∀ {bs : List Rc} {r : Rc}, (∀ x ∈ bs, x.z ≠ r.z) → (bput bs r).Perm (r :: bs)
 | [], r, _ => List.Perm.refl _
 | x :: xs, r, h => by
  rw [bput, if_neg (h x List.mem_cons_self)]
  split
  ·exact List.Perm.refl _
  ·exact ((ins_perm fun y hy => h y (List.mem_cons_of_mem _ hy)).cons x).trans (List.Perm.swap r x xs)
theorem sortable : ∀ (m : List Rc), Keys1 m → ∃ ys : List Rc, ys.Perm m ∧ Rise ys
 | [], _ => ⟨[], List.Perm.refl _, rise_nil⟩
 | r :: m, h => by
  unfold Keys1 at h
  rw [List.map_cons, List.nodup_cons] at h
  obtain ⟨ys, hp, hr⟩ := sortable m h.2
  refine ⟨bput ys r, (ins_perm fun x hx e => h.1 ?_).trans (hp.cons r), bput_rise r hr⟩
  rw [← e]
  exact List.mem_map_of_mem (hp.mem_iff.1 hx)
end
end
section
open Go.RowKit WM
def mofE (D : List Int → List Int) (f : Fld) : En := ⟨f.no, f.c.n, f.c.r, f.c.s.size, D (nums f.c.s), sgOf (nums f.c.s)⟩
def mofL (D : List Int → List Int) (R : Rc) : Ln := ⟨R.z, R.n, R.r, R.fs.map (mofE D)⟩
def mof (D : List Int → List Int) (base : List Int) (rs : List Rc) : Mn := ⟨base, rs.map (mofL D)⟩
theorem enOk_mof (D : List Int → List Int) (n r m : Int) (f : Fld) (h : (decide (m ≤ f.no) && decide (f.no < 8) && cmay f.c && stLess n r f.c.n f.c.r) = true) : enOk n r (m - 1) (mofE D f) = true := by
 simp only [Bool.and_eq_true, decide_eq_true_eq, cmay_iff] at h
 obtain ⟨⟨⟨h1, h2⟩, h3, h4, h5⟩, h6⟩ := h
 have hl := nums_len f.c.s
 have hb : (if (f.c.s.size : Int) < 24 then decide ((sgOf (nums f.c.s)).length = 0) else decide (((sgOf (nums f.c.s)).length : Int) = (f.c.s.size : Int) / 8)) = true := by
  by_cases h9 : (f.c.s.size : Int) < 24
  ·rw [if_pos h9, sgOf_none (by omega)]
   rfl
  ·rw [if_neg h9, sgOf_len (by omega), decide_eq_true_eq]
   omega
 unfold enOk mofE
 dsimp only
 rw [hb, h3, h6, decide_eq_true (show m - 1 < f.no ∧ f.no < 8 ∧ (0 : Int) ≤ (f.c.s.size : Int) ∧ (f.c.s.size : Int) ≤ 200 by omega)]
 rfl
theorem esOk_mof (D : List Int → List Int) (n r : Int) : ∀ (fs : List Fld) (m : Int), okFrom n r m fs = true → esOk n r (m - 1) (fs.map (mofE D)) = true
 | [], _, _ => rfl
 | f :: fs, m, h => by
  rw [okFrom, Bool.and_eq_true] at h
  rw [List.map_cons, esOk, enOk_mof D n r m f h.1, Bool.true_and]
  have := esOk_mof D n r fs (f.no + 1) h.2
  rwa [show f.no + 1 - 1 = f.no by omega] at this
theorem lnOk_mof (D : List Int → List Int) (R : Rc) (h : R.may = true) : lnOk (mofL D R) = true := by
 unfold Rc.may rmay at h
 rw [Bool.and_eq_true, Bool.and_eq_true] at h
 obtain ⟨⟨h1, h2⟩, h3⟩ := h
 have h4 := esOk_mof D R.n R.r R.fs 0 h3
 unfold lnOk mofL
 dsimp only
 rw [h1, show (-1 : Int) = 0 - 1 by omega, h4, decide_eq_false (show ¬ (R.fs.map (mofE D) = [] ∧ R.n = 0 ∧ R.r = 0) from ?_)]
 ·rfl
 ·rintro ⟨a, b, c⟩
  have hl : R.fs.length = 0 := by
   have := congrArg List.length a
   simpa using this
  rw [decide_eq_true hl, decide_eq_true b, decide_eq_true c] at h2
  simp at h2
theorem lsOk_mof (D : List Int → List Int) : ∀ (rs : List Rc) (p : Option (List Int)), okB p rs = true → lsOk p (rs.map (mofL D)) = true
 | [], _, _ => rfl
 | R :: rs, p, h => by
  rw [okB, Bool.and_eq_true, Bool.and_eq_true] at h
  obtain ⟨⟨h1, h2⟩, h3⟩ := h
  rw [List.map_cons, lsOk, lnOk_mof D R h1]
  have h4 := lsOk_mof D rs (some R.z) h3
  rw [show (mofL D R).z = R.z from rfl, h4]
  cases p with
  | none => rfl
  | some q => rw [show riseOk (some q) R.z = lessL q R.z from rfl, show lessL q R.z = true from h2]; rfl
theorem mof_may (D : List Int → List Int) (base : List Int) (rs : List Rc) (h : bmay rs = true) : mmay (mof D base rs) = true := by
 unfold bmay at h
 rw [Bool.and_eq_true] at h
 unfold mmay mof
 dsimp only
 rw [lsOk_mof D rs none h.2, List.length_map]
 exact h.1
end
section
open Go.RowKit WM
theorem llike_some : ∀ {ls : List Ln} {d : List Int} {n : Int} {z : List Int} {no : Int}, llike ls d n = some (z, no) → ∃ x ∈ ls, ∃ e, elike x.es d n = some e ∧ x.z = z ∧ e.no = no
 | y :: ls, d, n, z, no, h => by
  rw [llike] at h
  cases he : elike y.es d n with
  | some e =>
   rw [he] at h
   have := Option.some.inj h
   exact ⟨y, List.mem_cons_self, e, he, congrArg Prod.fst this, congrArg Prod.snd this⟩
  | none =>
   rw [he] at h
   obtain ⟨x, hx, e, h1, h2, h3⟩ := llike_some h
   exact ⟨x, List.mem_cons_of_mem _ hx, e, h1, h2, h3⟩
end
end Go.Proofs.YtkjimhlpbgeagaaGreatDoor
