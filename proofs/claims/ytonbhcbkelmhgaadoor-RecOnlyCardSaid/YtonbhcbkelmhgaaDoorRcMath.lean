/-
  Records joined, as lists of cells by numbers: joining is commutative, associative, idempotent. No walk.
-/
import Derived.Test.YtonbhcbkelmhgaaDoorRcLeq
import Derived.Test.YtonbhcbkelmhgaaDoorClFacts
namespace Go.Proofs.YtonbhcbkelmhgaaDoor
open Go.RowKit WM
set_option linter.unusedVariables false
/-! ### cells, joined, and left out -/
def omerge : Option Cel → Option Cel → Option Cel
  | none, o => o
  | some c, none => some c
  | some c, some d => some (cjoin c d)
def sl (m : Int × Int) (c : Cel) : Bool := stLess m.1 m.2 c.n c.r
def ofilt (m : Int × Int) (o : Option Cel) : Option Cel := o.filter (sl m)
theorem omerge_none (o : Option Cel) : omerge o none = o := by cases o <;> rfl
theorem omerge_comm (o p : Option Cel) : omerge o p = omerge p o := by
  cases o <;> cases p <;> simp [omerge]
  exact cjoin_comm _ _
theorem omerge_assoc (o p q : Option Cel) : omerge (omerge o p) q = omerge o (omerge p q) := by
  cases o <;> cases p <;> cases q <;> simp [omerge]
  exact (cjoin_assoc _ _ _).symm
theorem omerge_self (o : Option Cel) : omerge o o = o := by
  cases o <;> simp [omerge]
  exact cjoin_self _
theorem ofilt_some {m : Int × Int} {c : Cel} (h : sl m c = true) : ofilt m (some c) = some c := by simp [ofilt, h]
theorem ofilt_no {m : Int × Int} {c : Cel} (h : sl m c = false) : ofilt m (some c) = none := by simp [ofilt, h]
theorem ofilt_none (m : Int × Int) : ofilt m none = none := rfl
/-- Not less: the first stamp is no less than the second one. -/
def sle (m' m : Int × Int) : Prop := stLess m.1 m.2 m'.1 m'.2 = false
theorem sl_mono {m m' : Int × Int} (h : sle m' m) {c : Cel} (hc : sl m' c = false) : sl m c = false := by
  unfold sle at h
  unfold sl at hc ⊢
  rw [st_no] at h hc ⊢
  omega
theorem st_cless {c d : Cel} (h : stLess c.n c.r d.n d.r = true) : cless c d = true := by
  rw [cless_iff]
  exact .inl (stLess_iff.1 h)
theorem ofilt_merge {m m' : Int × Int} (h : sle m' m) (o p : Option Cel) : ofilt m (omerge (ofilt m' o) p) = ofilt m (omerge o p) := by
  cases o with
  | none => rfl
  | some c =>
    cases hc : sl m' c with
    | true => rw [ofilt_some hc]
    | false =>
      rw [ofilt_no hc]
      have h1 := sl_mono h hc
      cases p with
      | none => simp [omerge, ofilt_none, ofilt_no h1]
      | some d =>
        simp only [omerge]
        cases hl : cless c d with
        | true => rw [cjoin_yes hl]
        | false =>
          rw [cjoin_no hl, ofilt_no h1]
          have h2 : stLess c.n c.r d.n d.r = false := by
            cases hh : stLess c.n c.r d.n d.r
            · rfl
            · rw [st_cless hh] at hl; cases hl
          refine ofilt_no ?_
          unfold sl at h1 ⊢
          rw [st_no] at h1 h2 ⊢
          omega
theorem sle_mx1 (a b : Int × Int) : sle a (mx a b) := by
  unfold sle
  rcases mx_is a b with ⟨h, e⟩ | ⟨h, e⟩
  · rw [e, st_no]; rw [stLess_iff] at h; omega
  · rw [e, st_no]; omega
theorem sle_mx2 (a b : Int × Int) : sle b (mx a b) := by rw [← mx_comm]; exact sle_mx1 b a
theorem sl_mx {a b : Int × Int} {c : Cel} (h1 : sl a c = true) (h2 : sl b c = true) : sl (mx a b) c = true := by
  rcases mx_is a b with ⟨_, e⟩ | ⟨_, e⟩ <;> rw [e] <;> assumption
/-! ### lists of fields, by rising numbers -/
def toF (φ : Nat → Option Cel) : Nat → Nat → List Fld
  | _, 0 => []
  | k, n + 1 => (match φ k with | some c => [⟨(k : Int), c⟩] | none => []) ++ toF φ (k + 1) n
theorem toF_last (φ : Nat → Option Cel) : ∀ (n k : Nat), toF φ k (n + 1) = toF φ k n ++ (match φ (k + n) with | some c => [⟨((k + n : Nat) : Int), c⟩] | none => [])
  | 0, k => by simp [toF]
  | n + 1, k => by
    rw [toF, toF_last φ n (k + 1)]
    conv => rhs; rw [toF]
    rw [List.append_assoc, show k + 1 + n = k + (n + 1) by omega]
theorem keep_rise (n r : Int) (f : Int → Option Cel) : ∀ k, keep n r (riseL f k) = toF (fun j => ofilt (n, r) (f j)) 0 k
  | 0 => rfl
  | k + 1 => by
    rw [toF_last, Nat.zero_add, ← keep_rise n r f k, riseL]
    cases hf : f k with
    | none => simp [ofilt_none]
    | some c =>
      rw [keep_snoc]
      dsimp only
      cases hs : stLess n r c.n c.r
      · rw [ofilt_no (m := (n, r)) hs]; rfl
      · rw [ofilt_some (m := (n, r)) hs]; rfl
theorem rfind_append (fs gs : List Fld) (no : Int) : rfind (fs ++ gs) no = (rfind fs no).or (rfind gs no) := by
  unfold rfind
  rw [List.find?_append]
  cases fs.find? fun f => decide (f.no = no) <;> rfl
theorem rfind_toF (φ : Nat → Option Cel) (no : Int) : ∀ (n k : Nat), rfind (toF φ k n) no = if (k : Int) ≤ no ∧ no < k + n then φ no.toNat else none
  | 0, k => by rw [if_neg (by omega)]; rfl
  | n + 1, k => by
    rw [toF, rfind_append, rfind_toF φ no n (k + 1)]
    by_cases hk : no = k
    · subst hk
      rw [if_neg (by omega), if_pos (by omega), Int.toNat_natCast]
      cases φ k with
      | none => rfl
      | some c => simp [rfind_cons]
    · have h1 : rfind (match φ k with | some c => [⟨(k : Int), c⟩] | none => []) no = none := by
        cases φ k with
        | none => rfl
        | some c => rw [rfind_cons, if_neg (by dsimp only; omega)]; rfl
      rw [h1, Option.none_or]
      by_cases h2 : (k : Int) ≤ no ∧ no < k + (n + 1 : Nat)
      · rw [if_pos h2, if_pos (by omega)]
      · rw [if_neg h2, if_neg (by omega)]
theorem okFrom_toF {n r : Int} {φ : Nat → Option Cel} (h : ∀ k c, φ k = some c → cmay c = true ∧ stLess n r c.n c.r = true) : ∀ (j k : Nat) (m : Int), m ≤ k → k + j ≤ 8 → okFrom n r m (toF φ k j) = true
  | 0, _, _, _, _ => rfl
  | j + 1, k, m, hm, hk => by
    rw [toF]
    cases hf : φ k with
    | none => exact okFrom_toF h j (k + 1) m (by omega) (by omega)
    | some c =>
      obtain ⟨h1, h2⟩ := h k c hf
      have h3 := okFrom_toF h j (k + 1) ((k : Int) + 1) (by omega) (by omega)
      simp only [List.singleton_append, okFrom, h1, h2, h3, Bool.and_true, Bool.and_eq_true, decide_eq_true_eq]
      omega
theorem rfind_low {n r : Int} : ∀ {fs : List Fld} {m no : Int}, okFrom n r m fs = true → no < m → rfind fs no = none
  | [], _, _, _, _ => rfl
  | f :: fs, m, no, h, hlt => by
    simp only [okFrom, Bool.and_eq_true, decide_eq_true_eq] at h
    rw [rfind_cons, if_neg (by omega)]
    exact rfind_low h.2 (by omega)
theorem rfind_high {n r : Int} : ∀ {fs : List Fld} {m no : Int}, okFrom n r m fs = true → 8 ≤ no → rfind fs no = none
  | [], _, _, _, _ => rfl
  | f :: fs, m, no, h, hlt => by
    simp only [okFrom, Bool.and_eq_true, decide_eq_true_eq] at h
    rw [rfind_cons, if_neg (by omega)]
    exact rfind_high h.2 hlt
theorem ok_ext {n r n' r' : Int} : ∀ {fs gs : List Fld} {m : Int}, okFrom n r m fs = true → okFrom n' r' m gs = true → (∀ no, m ≤ no → no < 8 → rfind fs no = rfind gs no) → fs = gs
  | [], [], _, _, _, _ => rfl
  | [], g :: gs, m, _, h2, he => by
    simp only [okFrom, Bool.and_eq_true, decide_eq_true_eq] at h2
    have := he g.no (by omega) (by omega)
    rw [rfind_cons, if_pos rfl] at this
    cases this
  | f :: fs, [], m, h1, _, he => by
    simp only [okFrom, Bool.and_eq_true, decide_eq_true_eq] at h1
    have := he f.no (by omega) (by omega)
    rw [rfind_cons, if_pos rfl] at this
    cases this
  | f :: fs, g :: gs, m, h1, h2, he => by
    simp only [okFrom, Bool.and_eq_true, decide_eq_true_eq] at h1 h2
    have e1 := he f.no (by omega) (by omega)
    have e2 := he g.no (by omega) (by omega)
    rw [rfind_cons, if_pos rfl, rfind_cons] at e1
    rw [rfind_cons, rfind_cons, if_pos rfl] at e2
    have hn : f.no = g.no := by
      by_cases hlt : f.no < g.no
      · rw [if_neg (by omega), rfind_low h2.2 (by omega)] at e1
        cases e1
      · by_cases hgt : g.no < f.no
        · rw [if_neg (by omega), rfind_low h1.2 (by omega)] at e2
          cases e2
        · omega
    rw [if_pos hn.symm] at e1
    have hfg : f = g := by
      obtain ⟨a, c⟩ := f
      obtain ⟨b, d⟩ := g
      dsimp only at hn e1
      rw [hn, Option.some.inj e1]
    have hr : fs = gs := ok_ext (m := g.no + 1) (hn ▸ h1.2) h2.2 (fun no h3 h4 => by
      have := he no (by omega) h4
      rwa [rfind_cons, if_neg (by omega), rfind_cons, if_neg (by omega)] at this)
    rw [hfg, hr]
/-! ### what gather holds -/
theorem gfold {n r : Int} : ∀ {fs : List Fld} {m : Int} (f : Int → Option Cel) (j : Int), okFrom n r m fs = true → (fs.foldl gstep f) j = match rfind fs j with | some c => some (gone (f j) c) | none => f j
  | [], _, _, _, _ => rfl
  | x :: fs, m, f, j, h => by
    simp only [okFrom, Bool.and_eq_true, decide_eq_true_eq] at h
    rw [List.foldl_cons, gfold (gstep f x) j h.2, rfind_cons]
    by_cases hj : x.no = j
    · subst hj
      rw [rfind_low h.2 (by omega), if_pos rfl]
      simp [gstep]
    · rw [if_neg hj]
      have : gstep f x j = f j := by unfold gstep; rw [if_neg (fun e => hj e.symm)]
      rw [this]
theorem gath_two {n r n' r' : Int} {f1 f2 : List Fld} {m m' : Int} (h1 : okFrom n r m f1 = true) (h2 : okFrom n' r' m' f2 = true) (j : Int) : gath (f1 ++ f2) j = omerge (rfind f1 j) (rfind f2 j) := by
  unfold gath
  rw [List.foldl_append, gfold _ j h2, gfold _ j h1]
  cases rfind f1 j <;> cases rfind f2 j <;> rfl
/-! ### records -/
def Rc.at (R : Rc) (k : Nat) : Option Cel := rfind R.fs (k : Int)
def Rc.d (R : Rc) : Int × Int := (R.n, R.r)
def jn (a b : Rc) : Rc := ⟨a.z, (mx a.d b.d).1, (mx a.d b.d).2, toF (fun k => ofilt (mx a.d b.d) (omerge (a.at k) (b.at k))) 0 8⟩
theorem jn_d (a b : Rc) : (jn a b).d = mx a.d b.d := rfl
theorem jn_z (a b : Rc) : (jn a b).z = a.z := rfl
theorem join_eq {a b : Rc} (h1 : a.may = true) (h2 : b.may = true) (hz : a.z = b.z) : a.join b = some (jn a b) := by
  unfold Rc.join rjoin
  have hq : (a.z == b.z) = true := by rw [beq_iff_eq]; exact hz
  have m1 : rmay a.n a.r a.fs = true := h1
  have m2 : rmay b.n b.r b.fs = true := h2
  rw [hq, m1, m2, if_pos (by rfl), keep_rise]
  have e : (fun j : Nat => ofilt ((jdead a.n a.r b.n b.r).1, (jdead a.n a.r b.n b.r).2) (gath (a.fs ++ b.fs) (j : Int))) = (fun k => ofilt (mx a.d b.d) (omerge (a.at k) (b.at k))) := by
    funext j
    rw [gath_two (rmay_okFrom m1) (rmay_okFrom m2)]
    rfl
  rw [e]
  rfl
theorem at_jn (a b : Rc) {k : Nat} (hk : k < 8) : (jn a b).at k = ofilt (mx a.d b.d) (omerge (a.at k) (b.at k)) := by
  have e : (jn a b).at k = rfind (toF (fun k => ofilt (mx a.d b.d) (omerge (a.at k) (b.at k))) 0 8) (k : Int) := rfl
  rw [e, rfind_toF, if_pos (by omega), Int.toNat_natCast]
theorem rfind_mem {fs : List Fld} {no : Int} {c : Cel} (h : rfind fs no = some c) : ∃ f ∈ fs, f.no = no ∧ f.c = c := by
  unfold rfind at h
  obtain ⟨f, hf, rfl⟩ := Option.map_eq_some_iff.1 h
  exact ⟨f, List.mem_of_find?_eq_some hf, by simpa using List.find?_some hf, rfl⟩
theorem at_may {a : Rc} (h : a.may = true) {k : Nat} {c : Cel} (hc : a.at k = some c) : cmay c = true ∧ sl a.d c = true := by
  obtain ⟨f, hf, _, rfl⟩ := rfind_mem hc
  exact ⟨(rmay_all h f hf).2.2.1, (rmay_all h f hf).2.2.2⟩
theorem at_filt {a : Rc} (h : a.may = true) (k : Nat) : ofilt a.d (a.at k) = a.at k := by
  cases hc : a.at k with
  | none => rfl
  | some c => exact ofilt_some (at_may h hc).2
theorem rc_ext {a b : Rc} (h1 : a.may = true) (h2 : b.may = true) (hz : a.z = b.z) (hd : a.d = b.d) (he : ∀ k, k < 8 → a.at k = b.at k) : a = b := by
  have hf : a.fs = b.fs := ok_ext (rmay_okFrom h1) (rmay_okFrom h2) (fun no h0 h8 => by
    have := he no.toNat (by omega)
    unfold Rc.at at this
    rwa [Int.toNat_of_nonneg h0] at this)
  obtain ⟨z1, n1, r1, f1⟩ := a
  obtain ⟨z2, n2, r2, f2⟩ := b
  simp only [Rc.d, Prod.mk.injEq] at hd
  simp only at hz hf
  rw [hz, hf, hd.1, hd.2]
theorem cmay_join {o p : Option Cel} {c : Cel} (ho : ∀ d, o = some d → cmay d = true) (hp : ∀ d, p = some d → cmay d = true) (h : omerge o p = some c) : cmay c = true := by
  cases o with
  | none => exact hp c h
  | some x =>
    cases p with
    | none => exact ho c h
    | some y =>
      simp only [omerge, Option.some.injEq] at h
      subst h
      unfold cjoin
      split
      · exact hp y rfl
      · exact ho x rfl
theorem may_dead {a : Rc} (h : a.may = true) : may a.n a.r = true := by
  unfold Rc.may rmay at h
  simp only [Bool.and_eq_true] at h
  exact h.1.1
theorem may_some {a : Rc} (h : a.may = true) (hd : a.d = (0, 0)) : ∃ k c, k < 8 ∧ a.at k = some c := by
  have hne : a.fs ≠ [] := by
    intro e
    unfold Rc.may rmay at h
    simp only [Rc.d, Prod.mk.injEq] at hd
    rw [e, hd.1, hd.2] at h
    simp at h
  obtain ⟨f, fs, e⟩ := List.exists_cons_of_ne_nil hne
  have hf := rmay_all h f (by rw [e]; exact List.mem_cons_self)
  refine ⟨f.no.toNat, f.c, by omega, ?_⟩
  unfold Rc.at
  rw [Int.toNat_of_nonneg hf.1, e, rfind_cons, if_pos rfl]
theorem jn_may {a b : Rc} (h1 : a.may = true) (h2 : b.may = true) : (jn a b).may = true := by
  have hcell : ∀ (k : Nat) (c : Cel), ofilt (mx a.d b.d) (omerge (a.at k) (b.at k)) = some c → cmay c = true ∧ stLess (mx a.d b.d).1 (mx a.d b.d).2 c.n c.r = true := fun k c h => by
    obtain ⟨h3, h4⟩ := Option.filter_eq_some_iff.1 h
    exact ⟨cmay_join (fun d hd => (at_may h1 hd).1) (fun d hd => (at_may h2 hd).1) h3, h4⟩
  have hok := okFrom_toF (n := (mx a.d b.d).1) (r := (mx a.d b.d).2) hcell 8 0 0 (by omega) (by omega)
  have hm : may (mx a.d b.d).1 (mx a.d b.d).2 = true := by
    rcases mx_is a.d b.d with ⟨_, e⟩ | ⟨_, e⟩ <;> rw [e]
    · exact may_dead h2
    · exact may_dead h1
  show rmay (mx a.d b.d).1 (mx a.d b.d).2 (jn a b).fs = true
  unfold rmay
  rw [hm, Bool.true_and]
  have hok' : okFrom (mx a.d b.d).1 (mx a.d b.d).2 0 (jn a b).fs = true := hok
  rw [hok', Bool.and_true, Bool.not_eq_true', Bool.and_eq_false_iff, Bool.and_eq_false_iff]
  by_cases h0 : (mx a.d b.d).1 = 0 ∧ (mx a.d b.d).2 = 0
  · left; left
    rw [decide_eq_false_iff_not]
    intro hl
    have hmx : mx a.d b.d = (0, 0) := Prod.ext h0.1 h0.2
    have ha : a.d = (0, 0) := by
      have := sle_mx1 a.d b.d
      have h5 := may_iff.1 (may_dead h1)
      unfold sle at this
      rw [st_no, hmx] at this
      unfold Rc.d at this ⊢
      dsimp only at this
      rw [Prod.mk.injEq]
      omega
    obtain ⟨k, c, hk, hc⟩ := may_some h1 ha
    have hn := at_jn a b hk
    have hnil : (jn a b).fs = [] := List.eq_nil_of_length_eq_zero hl
    have h6 : (jn a b).at k = none := by unfold Rc.at; rw [hnil]; rfl
    rw [h6, hmx, hc] at hn
    have hpos : ∀ d, cmay d = true → sl (0, 0) d = true := fun d hd => by
      have := cmay_iff.1 hd
      unfold sl
      rw [stLess_iff]
      left
      dsimp only
      omega
    cases hb : b.at k with
    | none =>
      rw [hb, omerge_none, ofilt_some (hpos c (at_may h1 hc).1)] at hn
      cases hn
    | some d =>
      rw [hb] at hn
      have hj : cmay (cjoin c d) = true := cmay_join (o := some c) (p := some d) (fun x hx => by cases hx; exact (at_may h1 hc).1) (fun x hx => by cases hx; exact (at_may h2 hb).1) rfl
      rw [show omerge (some c) (some d) = some (cjoin c d) from rfl, ofilt_some (hpos _ hj)] at hn
      cases hn
  · by_cases h3 : (mx a.d b.d).1 = 0
    · right
      rw [decide_eq_false_iff_not]
      exact fun h4 => h0 ⟨h3, h4⟩
    · left; right
      rw [decide_eq_false_iff_not]
      exact h3
/-! ### what follows -/
theorem jn_self {a : Rc} (h : a.may = true) : jn a a = a :=
  rc_ext (jn_may h h) h rfl (by rw [jn_d, mx_self]) (fun k hk => by rw [at_jn a a hk, omerge_self, mx_self, at_filt h])
theorem jn_comm {a b : Rc} (h1 : a.may = true) (h2 : b.may = true) (hz : a.z = b.z) : jn a b = jn b a :=
  rc_ext (jn_may h1 h2) (jn_may h2 h1) hz (by rw [jn_d, jn_d, mx_comm]) (fun k hk => by rw [at_jn a b hk, at_jn b a hk, mx_comm, omerge_comm])
theorem jn_assoc {a b c : Rc} (h1 : a.may = true) (h2 : b.may = true) (h3 : c.may = true) (hz : a.z = b.z) (hz2 : b.z = c.z) : jn (jn a b) c = jn a (jn b c) := by
  refine rc_ext (jn_may (jn_may h1 h2) h3) (jn_may h1 (jn_may h2 h3)) rfl (by rw [jn_d, jn_d, jn_d, jn_d, mx_assoc]) (fun k hk => ?_)
  have l1 : sle (mx a.d b.d) (mx (mx a.d b.d) c.d) := sle_mx1 _ _
  have l2 : sle (mx b.d c.d) (mx (mx a.d b.d) c.d) := by rw [← mx_assoc]; exact sle_mx2 _ _
  rw [at_jn (jn a b) c hk, at_jn a (jn b c) hk, jn_d, jn_d, at_jn a b hk, at_jn b c hk, mx_assoc, ofilt_merge l1, omerge_comm (a.at k) (ofilt _ _), ofilt_merge l2, omerge_comm _ (a.at k), omerge_assoc]
theorem leq_iff {a b : Rc} : a.leq b = true ↔ a.may = true ∧ b.may = true ∧ a.z = b.z ∧ jn a b = b := by
  rw [Rc.leq_eq, Bool.and_eq_true]
  constructor
  · rintro ⟨h1, h2⟩
    have h3 : ((a.z == b.z) && a.may && b.may) = true := by
      cases h : ((a.z == b.z) && a.may && b.may)
      · unfold Rc.join rjoin at h1
        unfold Rc.may at h
        rw [h] at h1
        simp at h1
      · rfl
    simp only [Bool.and_eq_true, beq_iff_eq] at h3
    rw [join_eq h3.1.2 h3.2 h3.1.1] at h2
    exact ⟨h3.1.2, h3.2, h3.1.1, Rc.same_iff.1 h2⟩
  · rintro ⟨h1, h2, h3, h4⟩
    rw [join_eq h1 h2 h3]
    exact ⟨rfl, Rc.same_iff.2 h4⟩
theorem leq_jn1 {a b : Rc} (h1 : a.may = true) (h2 : b.may = true) (hz : a.z = b.z) : a.leq (jn a b) = true :=
  leq_iff.2 ⟨h1, jn_may h1 h2, rfl, by rw [← jn_assoc h1 h1 h2 rfl hz, jn_self h1]⟩
theorem leq_jn2 {a b : Rc} (h1 : a.may = true) (h2 : b.may = true) (hz : a.z = b.z) : b.leq (jn a b) = true := by
  rw [jn_comm h1 h2 hz]
  exact leq_jn1 h2 h1 hz.symm
theorem leq_refl {a : Rc} : a.leq a = a.may := by
  cases h : a.may
  · cases hl : a.leq a
    · rfl
    · have := (leq_iff.1 hl).1
      rw [h] at this
      cases this
  · exact leq_iff.2 ⟨h, h, rfl, jn_self h⟩
theorem leq_anti {a b : Rc} (h1 : a.leq b = true) (h2 : b.leq a = true) : a = b := by
  obtain ⟨m1, m2, hz, e1⟩ := leq_iff.1 h1
  obtain ⟨_, _, _, e2⟩ := leq_iff.1 h2
  rw [← e1, jn_comm m1 m2 hz, e2]
theorem leq_trans {a b c : Rc} (h1 : a.leq b = true) (h2 : b.leq c = true) : a.leq c = true := by
  obtain ⟨m1, m2, hz, e1⟩ := leq_iff.1 h1
  obtain ⟨_, m3, hz2, e2⟩ := leq_iff.1 h2
  refine leq_iff.2 ⟨m1, m3, hz.trans hz2, ?_⟩
  rw [← e2, ← jn_assoc m1 m2 m3 hz hz2, e1]
end Go.Proofs.YtonbhcbkelmhgaaDoor
