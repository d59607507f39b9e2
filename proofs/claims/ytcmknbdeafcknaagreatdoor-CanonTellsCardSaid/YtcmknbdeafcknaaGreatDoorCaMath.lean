import Derived.Test.YtcmknbdeafcknaaGreatDoorCaGet
/-
  Books, as bytes: what is put is got, and what is got is put as the same bytes. No program is named here.
-/
namespace Go.Proofs.YtcmknbdeafcknaaGreatDoor
open Go.RowKit WM
set_option linter.unusedVariables false
def fenc (f : Fld) : List Int := f.no :: cenc f.c
def renc (R : Rc) : List Int := R.z ++ (enc (R.n * 8 + R.r) ++ (enc R.fs.length ++ R.fs.flatMap fenc))
def benc (X : List Rc) : List Int := enc X.length ++ X.flatMap renc
theorem cnt_enc {most : Int} {n : Nat} (t : List Int) (h : (n : Int) ≤ most) (hm : most ≤ 1000) : cnt most (enc n ++ t) = some (n, t) := by
  unfold cnt
  rw [dec_enc n t (by omega) (by omega)]
  dsimp only
  rw [if_pos h, List.drop_left, Int.toNat_natCast]
theorem cnt_some {most : Int} {zs ys : List Int} {n : Nat} (hb : AllBytes zs) (h : cnt most zs = some (n, ys)) : zs = enc n ++ ys ∧ (n : Int) ≤ most := by
  unfold cnt at h
  split at h
  · cases h
  · rename_i m k hd
    obtain ⟨d1, d2, d3, d4, d5⟩ := dec_some hb hd
    split at h
    · rename_i hle
      cases h
      rw [show ((m.toNat : Nat) : Int) = m by omega, d3]
      exact ⟨(List.take_append_drop k zs).symm, hle⟩
    · cases h
section
variable {α : Type} {p : List Int → Option (α × List Int)} {enc1 : α → List Int}
theorem many_put (l : List α) (t : List Int) (h : ∀ a ∈ l, ∀ t, p (enc1 a ++ t) = some (a, t)) : many p l.length (l.flatMap enc1 ++ t) = some (l, t) := by
  induction l with
  | nil => rfl
  | cons a l ih =>
    rw [List.flatMap_cons, List.append_assoc, List.length_cons, many_some (h a List.mem_cons_self _), ih fun b hb => h b (List.mem_cons_of_mem _ hb)]
    rfl
theorem many_got (h : ∀ zs a ys, AllBytes zs → p zs = some (a, ys) → zs = enc1 a ++ ys) : ∀ (k : Nat) (zs : List Int) (l : List α) (ys : List Int), AllBytes zs → many p k zs = some (l, ys) → zs = l.flatMap enc1 ++ ys ∧ l.length = k
  | 0, zs, l, ys, hb, hm => by
    rw [many] at hm
    cases hm
    exact ⟨rfl, rfl⟩
  | k + 1, zs, l, ys, hb, hm => by
    cases hp : p zs with
    | none => rw [many_none hp] at hm; cases hm
    | some x =>
      obtain ⟨a, rs⟩ := x
      rw [many_some hp] at hm
      cases hq : many p k rs with
      | none => rw [hq] at hm; cases hm
      | some y =>
        obtain ⟨l', r'⟩ := y
        rw [hq] at hm
        cases hm
        have e := h zs a rs hb hp
        have hb' : AllBytes rs := fun z hz => hb z (by rw [e]; exact List.mem_append_right _ hz)
        obtain ⟨e2, e3⟩ := many_got h k rs l' r' hb' hq
        refine ⟨?_, by rw [List.length_cons, e3]⟩
        rw [List.flatMap_cons, List.append_assoc, ← e2, ← e]
theorem lst_put {most : Int} (l : List α) (t : List Int) (hl : (l.length : Int) ≤ most) (hm : most ≤ 1000) (h : ∀ a ∈ l, ∀ t, p (enc1 a ++ t) = some (a, t)) : lst p most (enc l.length ++ (l.flatMap enc1 ++ t)) = some (l, t) := by
  unfold lst
  rw [cnt_enc _ hl hm, Option.bind_some]
  exact many_put l t h
theorem lst_got {most : Int} {zs ys : List Int} {l : List α} (h : ∀ zs a ys, AllBytes zs → p zs = some (a, ys) → zs = enc1 a ++ ys) (hb : AllBytes zs) (hm : lst p most zs = some (l, ys)) : zs = enc l.length ++ (l.flatMap enc1 ++ ys) ∧ (l.length : Int) ≤ most := by
  unfold lst at hm
  cases hc : cnt most zs with
  | none => rw [hc] at hm; cases hm
  | some x =>
    obtain ⟨n, rs⟩ := x
    rw [hc, Option.bind_some] at hm
    dsimp only at hm
    obtain ⟨c1, c2⟩ := cnt_some hb hc
    have hb' : AllBytes rs := fun z hz => hb z (by rw [c1]; exact List.mem_append_right _ hz)
    obtain ⟨e2, e3⟩ := many_got h n rs l ys hb' hm
    rw [e3, ← e2]
    exact ⟨c1, c2⟩
end
theorem pcl_put {c : Cel} (t : List Int) (h : cmay c = true) : pcl (cenc c ++ t) = some (c, t) := by
  unfold pcl
  rw [cget_put c t h]
  dsimp only
  rw [List.drop_left]
theorem pcl_got {zs ys : List Int} {c : Cel} (hb : AllBytes zs) (h : pcl zs = some (c, ys)) : zs = cenc c ++ ys := by
  unfold pcl at h
  split at h
  · rename_i c' k hg
    cases h
    rw [(cget_some hb hg).2.2]
    exact (List.take_append_drop k zs).symm
  · cases h
theorem pfl_put {f : Fld} (t : List Int) (h : cmay f.c = true) : pfl (fenc f ++ t) = some (f, t) := by
  unfold fenc
  rw [List.cons_append]
  unfold pfl
  simp only [pcl_put t h]
theorem pfl_got (zs : List Int) (f : Fld) (ys : List Int) (hb : AllBytes zs) (h : pfl zs = some (f, ys)) : zs = fenc f ++ ys := by
  cases zs with
  | nil => cases h
  | cons z rs =>
    unfold pfl at h
    dsimp only at h
    split at h
    · rename_i c r hp
      cases h
      unfold fenc
      rw [List.cons_append, ← pcl_got (fun z hz => hb z (List.mem_cons_of_mem _ hz)) hp]
    · cases h
theorem pst_put {n r : Int} (t : List Int) (h : may n r = true) : pst (enc (n * 8 + r) ++ t) = some ((n, r), t) := by
  unfold pst
  rw [stGet_put t h]
  dsimp only
  rw [List.drop_left]
theorem pst_got {zs ys : List Int} {s : Int × Int} (hb : AllBytes zs) (h : pst zs = some (s, ys)) : zs = enc (s.1 * 8 + s.2) ++ ys := by
  unfold pst at h
  split at h
  · rename_i n r k hg
    cases h
    rw [(stGet_some hb hg).2.2]
    exact (List.take_append_drop k zs).symm
  · cases h
theorem okFrom_mem {n r : Int} : ∀ {fs : List Fld} {m : Int}, 0 ≤ m → okFrom n r m fs = true → ∀ f ∈ fs, 0 ≤ f.no ∧ f.no < 8 ∧ cmay f.c = true
  | [], _, _, _, f, hf => by cases hf
  | g :: fs, m, hm, h, f, hf => by
    rw [okFrom] at h
    simp only [Bool.and_eq_true, decide_eq_true_eq] at h
    rcases List.mem_cons.1 hf with rfl | hf
    · exact ⟨by omega, h.1.1.1.2, h.1.1.2⟩
    · exact okFrom_mem (m := g.no + 1) (by omega) h.2 f hf
theorem may_fs {R : Rc} (h : R.may = true) : may R.n R.r = true ∧ R.fs.length ≤ 8 ∧ ∀ f ∈ R.fs, 0 ≤ f.no ∧ f.no < 8 ∧ cmay f.c = true := by
  have h' := h
  unfold Rc.may rmay at h'
  simp only [Bool.and_eq_true] at h'
  exact ⟨h'.1.1, rmay_len h, okFrom_mem (Int.le_refl 0) h'.2⟩
theorem prc_put {R : Rc} (t : List Int) (hz : R.z.length = 16) (h : R.may = true) : prc (renc R ++ t) = some (R, t) := by
  obtain ⟨h1, h2, h3⟩ := may_fs h
  unfold prc renc
  rw [List.append_assoc, if_pos (by rw [List.length_append]; omega)]
  rw [List.drop_left' hz, List.take_left' hz, List.append_assoc, pst_put _ h1, Option.bind_some]
  dsimp only
  rw [List.append_assoc, lst_put (enc1 := fenc) R.fs t (by omega) (by omega) (fun f hf t => pfl_put t (h3 f hf).2.2)]
  rfl
theorem prc_got (zs : List Int) (R : Rc) (ys : List Int) (hb : AllBytes zs) (h : prc zs = some (R, ys)) : zs = renc R ++ ys := by
  unfold prc at h
  split at h
  · rename_i hl
    cases hp : pst (zs.drop 16) with
    | none => rw [hp] at h; cases h
    | some s =>
      obtain ⟨s, rs⟩ := s
      rw [hp, Option.bind_some] at h
      dsimp only at h
      have e1 := pst_got (all_drop hb 16) hp
      have hb' : AllBytes rs := fun z hz => all_drop hb 16 z (by rw [e1]; exact List.mem_append_right _ hz)
      cases hq : lst pfl 8 rs with
      | none => rw [hq] at h; cases h
      | some f =>
        obtain ⟨fs, r'⟩ := f
        rw [hq] at h
        cases h
        obtain ⟨e2, _⟩ := lst_got pfl_got hb' hq
        unfold renc
        dsimp only
        rw [List.append_assoc, List.append_assoc, List.append_assoc, ← e2, ← e1]
        exact (List.take_append_drop 16 zs).symm
  · cases h
theorem prc_ok {zs ys : List Int} {R : Rc} (hb : AllBytes zs) (h : prc zs = some (R, ys)) : R.Ok := by
  unfold prc at h
  split at h
  · rename_i hl
    cases hp : pst (zs.drop 16) with
    | none => rw [hp] at h; cases h
    | some s =>
      rw [hp, Option.bind_some] at h
      cases hq : lst pfl 8 s.2 with
      | none => rw [hq] at h; cases h
      | some f =>
        rw [hq] at h
        cases h
        exact ⟨by show (zs.take 16).length = 16; rw [List.length_take]; omega, all_take hb 16⟩
  · cases h
theorem bget_put {X : List Rc} (h : bmay X = true) (hz : ∀ R ∈ X, R.z.length = 16) : bget (benc X) = some X := by
  obtain ⟨h1, h2, h3⟩ := bmay_iff.1 h
  unfold bget benc
  have e := lst_put (p := prc) (enc1 := renc) (most := 10) X [] (by omega) (by omega) (fun R hR t => prc_put t (hz R hR) (h2 R hR))
  rw [List.append_nil] at e
  rw [e]
  dsimp only
  rw [if_pos ⟨rfl, h⟩]
theorem bget_got {zs : List Int} {X : List Rc} (hb : AllBytes zs) (h : bget zs = some X) : bmay X = true ∧ benc X = zs := by
  unfold bget at h
  split at h
  · cases h
  · rename_i rs ys hl
    split at h
    · rename_i hc
      cases h
      obtain ⟨e, _⟩ := lst_got prc_got hb hl
      rw [List.length_eq_zero_iff.1 hc.1, List.append_nil] at e
      exact ⟨hc.2, e.symm⟩
    · cases h
theorem benc_inj {X Y : List Rc} (hx : bmay X = true) (hy : bmay Y = true) (hzx : ∀ R ∈ X, R.z.length = 16) (hzy : ∀ R ∈ Y, R.z.length = 16) : benc X = benc Y ↔ X = Y :=
  ⟨fun e => by
    have h1 := bget_put hx hzx
    rw [e, bget_put hy hzy] at h1
    exact (Option.some.inj h1).symm, fun e => by rw [e]⟩
/-! ### how many bytes -/
theorem fenc_len {f : Fld} (h : cmay f.c = true) : (fenc f).length ≤ 221 ∧ 1 ≤ (fenc f).length := by
  unfold fenc
  have := cenc_len f.c (by have := (cmay_iff.1 h).2.2; omega)
  rw [List.length_cons]
  omega
theorem flat_len {α : Type} {g : α → List Int} {b : Nat} : ∀ {l : List α}, (∀ a ∈ l, (g a).length ≤ b) → (l.flatMap g).length ≤ l.length * b
  | [], _ => by simp
  | a :: l, h => by
    have h1 := h a List.mem_cons_self
    have h2 := flat_len (l := l) fun x hx => h x (List.mem_cons_of_mem _ hx)
    rw [List.flatMap_cons, List.length_append, List.length_cons, Nat.add_mul]
    omega
theorem renc_len {R : Rc} (hz : R.z.length = 16) (h : R.may = true) : (renc R).length ≤ 2000 := by
  obtain ⟨h1, h2, h3⟩ := may_fs h
  have h4 := flat_len (g := fenc) (b := 221) (l := R.fs) fun f hf => (fenc_len (h3 f hf).2.2).1
  have h5 := (enc_len (R.n * 8 + R.r)).2
  have h6 := (enc_len (R.fs.length : Int)).2
  unfold renc
  rw [List.length_append, List.length_append, List.length_append, hz]
  omega
theorem benc_len {X : List Rc} (h : bmay X = true) (hz : ∀ R ∈ X, R.z.length = 16) : (benc X).length ≤ 30000 := by
  obtain ⟨h1, h2, h3⟩ := bmay_iff.1 h
  have h4 := flat_len (g := renc) (b := 2000) (l := X) fun R hR => renc_len (hz R hR) (h2 R hR)
  have h5 := (enc_len (X.length : Int)).2
  unfold benc
  rw [List.length_append]
  omega
theorem flat_bytes {α : Type} {g : α → List Int} {l : List α} (h : ∀ a ∈ l, AllBytes (g a)) : AllBytes (l.flatMap g) := fun z hz => by
  obtain ⟨a, ha, hz⟩ := List.mem_flatMap.1 hz
  exact h a ha z hz
theorem fenc_bytes {f : Fld} (h0 : 0 ≤ f.no) (h8 : f.no < 8) : AllBytes (fenc f) := fun z hz => by
  rcases List.mem_cons.1 hz with rfl | hz
  · omega
  · exact cenc_bytes _ z hz
theorem renc_bytes {R : Rc} (hk : R.Ok) (h : R.may = true) : AllBytes (renc R) :=
  all_append hk.2 (all_append (enc_bytes _) (all_append (enc_bytes _) (flat_bytes fun f hf => fenc_bytes ((may_fs h).2.2 f hf).1 ((may_fs h).2.2 f hf).2.1)))
theorem benc_bytes {X : List Rc} (h : bmay X = true) (hk : ∀ R ∈ X, R.Ok) : AllBytes (benc X) :=
  all_append (enc_bytes _) (flat_bytes fun R hR => renc_bytes (hk R hR) ((bmay_iff.1 h).2.1 R hR))
theorem bk_ok {w : World} {b : Bk} (h : BkAt w b) : ∀ R ∈ b.rs, R.Ok := fun R hR => by
  obtain ⟨x, hx, rfl⟩ := List.mem_map.1 hR
  exact (h.2.2.2.2 x hx).1
end Go.Proofs.YtcmknbdeafcknaaGreatDoor

